/- package lit: the map of strokes. -/
import Derived.Test.YtijinpnbhnfiiaaDoorLit9
import Derived.Carry
import Derived.Maps.Keyed
import Derived.ChangeMaps5
namespace Go.Proofs.YtijinpnbhnfiiaaDoor
open Go.RowKit Go.Maps Go.ChangeMaps
set_option linter.unusedVariables false

theorem keyed32 : Keyed Tryd.prog 21 := int_keyed Tryd.underlying21
def I32 (r : Int) : Prop := -2147483648 ≤ r ∧ r ≤ 2147483647
theorem key32 {r : Int} (h : I32 r) : ∃ l, keyOf Tryd.prog 21 (.int .i32 r) = some l := ⟨.int .i32 r, by
  have := h.1
  have := h.2
  simp [keyOf, mapKey, Tryd.underlying21, Lit.wf, IntKind.min, IntKind.max, IntKind.signed, IntKind.bits]
  omega⟩

/-- The entries: which byte stands for which sign. -/
def strokeL : List (Int × Int) := [(97, 7), (98, 8), (102, 12), (110, 10), (114, 13), (116, 9), (118, 11), (92, 92), (34, 34)]
def entry (x : Int × Int) (born : Nat) : MapEntry := { key := .int .i32 x.1, val := .int .u8 x.2, born := born }
def entries : Nat → List (Int × Int) → List MapEntry
  | _, [] => []
  | n, x :: l => entry x n :: entries (n + 1) l

theorem entries_mem : ∀ n l, ∀ e ∈ entries n l, ∃ x ∈ l, e.key = .int .i32 x.1 ∧ e.val = .int .u8 x.2
  | _, [], e, h => by cases h
  | n, x :: l, e, h => by
    rcases List.mem_cons.1 h with h | h
    · exact ⟨x, List.mem_cons_self .., by rw [h]; rfl, by rw [h]; rfl⟩
    · obtain ⟨y, hy, h'⟩ := entries_mem (n + 1) l e h
      exact ⟨y, List.mem_cons_of_mem _ hy, h'⟩
theorem mem_entries : ∀ n l, ∀ x ∈ l, ∃ e ∈ entries n l, e.key = .int .i32 x.1 ∧ e.val = .int .u8 x.2
  | _, [], x, h => by cases h
  | n, y :: l, x, h => by
    rcases List.mem_cons.1 h with h | h
    · exact ⟨entry y n, List.mem_cons_self .., by rw [h]; rfl, by rw [h]; rfl⟩
    · obtain ⟨e, he, h'⟩ := mem_entries (n + 1) l x h
      exact ⟨e, List.mem_cons_of_mem _ he, h'⟩
theorem entries_push : ∀ n l x, entries n (l ++ [x]) = entries n l ++ [entry x (n + l.length)]
  | n, [], x => rfl
  | n, y :: l, x => by
    show entry y n :: entries (n + 1) (l ++ [x]) = _
    rw [entries_push (n + 1) l x]
    show _ = entry y n :: (entries (n + 1) l ++ _)
    rw [show n + (y :: l).length = n + 1 + l.length by rw [List.length_cons]; omega]

/-- A map of strokes in memory. -/
def MapAt (w : World) (b : Nat) (l : List (Int × Int)) : Prop := w.heap[b]? = some (.map (entries 0 l).toArray l.length)

theorem below_set {w : World} {b n0 : Nat} (hb : n0 ≤ b) (o : Obj) : Below n0 w (setBlock w b o) := by
  refine ⟨rfl, rfl, rfl, by simp [setBlock], fun k hk => ?_⟩
  simp only [setBlock]
  rw [Array.getElem?_setIfInBounds, if_neg (by omega)]

theorem map_put {w : World} {b : Nat} {l : List (Int × Int)} (h : MapAt w b l) (r x : Int) (hl : ∀ y ∈ l, I32 y.1) (hr : I32 r) (hn : ∀ y ∈ l, y.1 ≠ r) :
    ∃ W, (Instr.mapUpdate 81 (.map (some b)) (.int .i32 r) (.int .u8 x)).run Tryd.prog w = .ok () W ∧ MapAt W b (l ++ [(r, x)]) ∧ ∀ n0, n0 ≤ b → Below n0 w W := by
  obtain ⟨kl, hkey⟩ := key32 hr
  refine ⟨setBlock w b (.map (entries 0 (l ++ [(r, x)])).toArray (l ++ [(r, x)]).length), ?_, heap_setBlock_same h _, fun n0 hb => below_set hb _⟩
  have hks : ∀ e ∈ (entries 0 l), ∃ l, keyOf Tryd.prog 21 e.key = some l := fun e he => by
    obtain ⟨y, hm, hy, _⟩ := entries_mem 0 l e he
    rw [hy]
    exact key32 (hl y hm)
  rcases keyed32.find w hkey (entries 0 l) hks with ⟨h1, h2⟩ | ⟨j, e0, h1, h2, h3⟩
  · have e : (entries 0 (l ++ [(r, x)])).toArray = (entries 0 l).toArray.push (entry (r, x) l.length) := by rw [entries_push, Nat.zero_add]; simp
    rw [e]
    simp [Instr.mapUpdate, run_underlying Tryd.underlying81, MapKept.run_getObj_map h, keyed32.check w false hkey, h1, MapKept.run_setObj_map _ h, Result.andThen, setBlock, entry]
  · exfalso
    obtain ⟨y, hy, hy1, _⟩ := entries_mem 0 l e0 (List.mem_of_getElem? h2)
    rw [hy1] at h3
    injection h3 with _ h3
    exact hn y hy h3

/-- What stands for the sign behind a backslash. -/
def strokeR (r : Int) : Option Int := (strokeL.find? fun x => x.1 == r).map (·.2)
def strokeV (r : Int) : Value := match strokeR r with
  | some x => .tuple #[.int .u8 x, .bool true]
  | none => .tuple #[.int .u8 0, .bool false]

theorem strokeL_inj : ∀ x ∈ strokeL, ∀ y ∈ strokeL, x.1 = y.1 → x = y := by decide
theorem strokeR_mem {x : Int × Int} (h : x ∈ strokeL) : strokeR x.1 = some x.2 := by
  unfold strokeR
  cases e : strokeL.find? (fun y => y.1 == x.1) with
  | none =>
    have := List.find?_eq_none.1 e x h
    simp at this
  | some y =>
    have h1 := List.find?_some e
    have h2 := List.mem_of_find?_eq_some e
    have := strokeL_inj y h2 x h (by simpa using h1)
    rw [this]
    rfl
theorem strokeR_none {r : Int} (h : ∀ x ∈ strokeL, x.1 ≠ r) : strokeR r = none := by
  unfold strokeR
  have : strokeL.find? (fun y => y.1 == r) = none := List.find?_eq_none.2 fun x hx => by simpa using h x hx
  rw [this]
  rfl

theorem strokeL_32 : ∀ y ∈ strokeL, I32 y.1 := by unfold I32; decide
set_option maxRecDepth 100000 in
theorem map_look {w : World} {b : Nat} (h : MapAt w b strokeL) (r : Int) (hr : I32 r) : (Instr.lookup 81 (.map (some b)) (.int .i32 r) true).run Tryd.prog w = .ok (strokeV r) w := by
  obtain ⟨kl, hkey⟩ := key32 hr
  have hks : ∀ e ∈ (entries 0 strokeL), ∃ l, keyOf Tryd.prog 21 e.key = some l := fun e he => by
    obtain ⟨y, hm, hy, _⟩ := entries_mem 0 strokeL e he
    rw [hy]
    exact key32 (strokeL_32 y hm)
  have hz := Tryd.zeroValue5 w
  rcases keyed32.find w hkey (entries 0 strokeL) hks with ⟨h1, h2⟩ | ⟨j, e0, h1, h2, h3⟩
  · have hs : strokeR r = none := strokeR_none fun x hx he => by
      obtain ⟨e, hm, hk, _⟩ := mem_entries 0 strokeL x hx
      exact h2 e hm (by rw [hk, he])
    unfold strokeV
    rw [hs]
    unfold MapAt at h
    clear hs hks h2
    generalize entries 0 strokeL = es at *
    simp [Instr.lookup, run_underlying Tryd.underlying81, MapKept.run_getObj_map h, keyed32.check w _ hkey, h1, hz, Result.andThen]
  · obtain ⟨y, hy, hy1, hy2⟩ := entries_mem 0 strokeL e0 (List.mem_of_getElem? h2)
    rw [hy1] at h3
    injection h3 with _ h3
    have hs := strokeR_mem hy
    rw [h3] at hs
    unfold strokeV
    rw [hs]
    unfold MapAt at h
    clear hs hks h2
    generalize entries 0 strokeL = es at *
    simp [Instr.lookup, run_underlying Tryd.underlying81, MapKept.run_getObj_map h, keyed32.check w _ hkey, h1, hy2, Result.andThen]

set_option maxHeartbeats 1000000 in
set_option maxRecDepth 100000 in
theorem strokes_any (w : World) : Calls Tryd.prog 47 #[] w fun e w' => e = .returned (.map (some w.heap.size)) ∧ MapAt w' w.heap.size strokeL ∧ Below w.heap.size w w' := by
  have hmm := @run_makeMap Tryd.prog
  have h0 : MapAt (w.alloc (.map #[] 0)) w.heap.size [] := heap_alloc_new w _
  have HB0 := Lib.hid ((Below.refl w.heap.size w).alloc (Nat.le_refl _) (.map #[] 0))
  go_enter Tryd.func47, Tryd.ntmps47
  go_wp2_with fail
  clear hmm
  generalize w.alloc (.map #[] 0) = W0 at *
  obtain ⟨B, hBe⟩ : ∃ B, B = w.heap.size := ⟨_, rfl⟩
  have hle : w.heap.size ≤ B := by omega
  rw [← hBe] at h0 ⊢
  have HBE := Lib.hid hBe
  clear hBe
  obtain ⟨W1, r0, h1, b1⟩ := map_put h0 97 7 (by unfold I32; decide) (by unfold I32; decide) (by decide)
  rw [r0]
  have HB1 := Lib.hid (HB0.out.trans (b1 _ hle))
  clear r0 h0 HB0 b1
  simp only [Result.andThen]
  rw [Oper.upon_skip]
  go_wp2_with fail
  obtain ⟨W2, r1, h2, b2⟩ := map_put h1 98 8 (by unfold I32; decide) (by unfold I32; decide) (by decide)
  rw [r1]
  have HB2 := Lib.hid (HB1.out.trans (b2 _ hle))
  clear r1 h1 HB1 b2
  simp only [Result.andThen]
  rw [Oper.upon_skip]
  go_wp2_with fail
  obtain ⟨W3, r2, h3, b3⟩ := map_put h2 102 12 (by unfold I32; decide) (by unfold I32; decide) (by decide)
  rw [r2]
  have HB3 := Lib.hid (HB2.out.trans (b3 _ hle))
  clear r2 h2 HB2 b3
  simp only [Result.andThen]
  rw [Oper.upon_skip]
  go_wp2_with fail
  obtain ⟨W4, r3, h4, b4⟩ := map_put h3 110 10 (by unfold I32; decide) (by unfold I32; decide) (by decide)
  rw [r3]
  have HB4 := Lib.hid (HB3.out.trans (b4 _ hle))
  clear r3 h3 HB3 b4
  simp only [Result.andThen]
  rw [Oper.upon_skip]
  go_wp2_with fail
  obtain ⟨W5, r4, h5, b5⟩ := map_put h4 114 13 (by unfold I32; decide) (by unfold I32; decide) (by decide)
  rw [r4]
  have HB5 := Lib.hid (HB4.out.trans (b5 _ hle))
  clear r4 h4 HB4 b5
  simp only [Result.andThen]
  rw [Oper.upon_skip]
  go_wp2_with fail
  obtain ⟨W6, r5, h6, b6⟩ := map_put h5 116 9 (by unfold I32; decide) (by unfold I32; decide) (by decide)
  rw [r5]
  have HB6 := Lib.hid (HB5.out.trans (b6 _ hle))
  clear r5 h5 HB5 b6
  simp only [Result.andThen]
  rw [Oper.upon_skip]
  go_wp2_with fail
  obtain ⟨W7, r6, h7, b7⟩ := map_put h6 118 11 (by unfold I32; decide) (by unfold I32; decide) (by decide)
  rw [r6]
  have HB7 := Lib.hid (HB6.out.trans (b7 _ hle))
  clear r6 h6 HB6 b7
  simp only [Result.andThen]
  rw [Oper.upon_skip]
  go_wp2_with fail
  obtain ⟨W8, r7, h8, b8⟩ := map_put h7 92 92 (by unfold I32; decide) (by unfold I32; decide) (by decide)
  rw [r7]
  have HB8 := Lib.hid (HB7.out.trans (b8 _ hle))
  clear r7 h7 HB7 b8
  simp only [Result.andThen]
  rw [Oper.upon_skip]
  go_wp2_with fail
  obtain ⟨W9, r8, h9, b9⟩ := map_put h8 34 34 (by unfold I32; decide) (by unfold I32; decide) (by decide)
  rw [r8]
  have HB9 := Lib.hid (HB8.out.trans (b9 _ hle))
  clear r8 h8 HB8 b9
  simp only [Result.andThen]
  rw [Oper.upon_skip]
  go_wp2_with fail
  go_ret
  rw [← HBE.out]
  exact ⟨rfl, h9, by rw [HBE.out]; exact HB9.out⟩
end Go.Proofs.YtijinpnbhnfiiaaDoor
