/- package big: digits written; plus. -/
import Derived.Test.YtpdkebljacmgfaaDoorBig2
namespace Go.Proofs.YtpdkebljacmgfaaDoor
open Go.RowKit
set_option linter.unusedVariables false

theorem u64_info : (Tryd.prog.info? 59).map (fun i => (i.zero, i.size, i.bytes)) = some (some (.int .u64 0), 1, 8) := by kernel_rfl

theorem DigsIn.set {cur : Array Value} {o : Nat} {l : List Nat} (h : DigsIn cur o l) (i y : Nat) (v : Value) (hv : v = .int .u64 y) (hi : i < l.length) : DigsIn (cur.set! (o + i) v) o (l.set i y) := fun j hj => by
  have hj' : j < l.length := by simpa using hj
  have e := h j hj'
  have hlt : o + j < cur.size := by
    rcases Nat.lt_or_ge (o + j) cur.size with g | g
    · exact g
    · rw [Array.getElem?_eq_none g] at e; cases e
  subst hv
  rw [get_set]
  by_cases hij : i = j
  · subst hij
    rw [if_pos ⟨rfl, hj'⟩, Array.set!_eq_setIfInBounds, Array.getElem?_setIfInBounds_self_of_lt hlt]
  · rw [if_neg (by omega), Array.set!_eq_setIfInBounds, Array.getElem?_setIfInBounds_ne (by omega)]
    exact e
theorem Held.set {w : World} {b : Nat} {cur : Array Value} (h : Held w b cur) (j : Nat) (v : Value) : Held (w.setCell ⟨b, j, none⟩ v) b (cur.set! j v) := by
  have hlt := h.lt
  have hh : w.heap[b]? = _ := h
  have h' : w.heap[b] = .cells cur 59 (0, 0) := by simpa [Array.getElem?_eq_getElem hlt] using hh
  show (w.heap.modify b _)[b]? = _
  rw [Array.getElem?_eq_getElem (by simpa using hlt), Array.getElem_modify_self, h']
  rfl

/-- But one block b, all that was there stands. -/
structure But (b : Nat) (w w' : World) : Prop where
  os : w'.os = w.os
  tape : w'.tape = w.tape
  output : w'.output = w.output
  size : w.heap.size ≤ w'.heap.size
  block : ∀ k, k < w.heap.size → k ≠ b → w'.heap[k]? = w.heap[k]?
theorem But.refl (b : Nat) (w : World) : But b w w := ⟨rfl, rfl, rfl, Nat.le_refl _, fun _ _ _ => rfl⟩
theorem But.trans {b : Nat} {u v w : World} (h : But b u v) (k : But b v w) : But b u w :=
  ⟨k.os.trans h.os, k.tape.trans h.tape, k.output.trans h.output, Nat.le_trans h.size k.size, fun i hi hb => (k.block i (Nat.lt_of_lt_of_le hi h.size) hb).trans (h.block i hi hb)⟩
theorem But.of_below {b : Nat} {w w' : World} (h : Below w.heap.size w w') : But b w w' := ⟨h.os, h.tape, h.output, h.size, fun k hk _ => h.block k hk⟩
theorem But.below {b B : Nat} {w w' : World} (h : But b w w') (hb : B ≤ b) (hB : B ≤ w.heap.size) : Below B w w' := ⟨h.os, h.tape, h.output, h.size, fun k hk => h.block k (by omega) (by omega)⟩
theorem But.set {w : World} (b j : Nat) (v : Value) : But b w (w.setCell ⟨b, j, none⟩ v) :=
  ⟨rfl, rfl, rfl, by simp, fun k hk hne => Below.heap_setCell _ ⟨b, j, none⟩ _ k (by exact hne)⟩
theorem Held.but {w W : World} {b g : Nat} {cur : Array Value} (h : Held w g cur) (hb : But b w W) (hne : g ≠ b) : Held W g cur := (hb.block g h.lt hne).trans h
/-- Digits that do not lie in the block b. -/
def Off (b : Nat) (a : Option Addr) (l : List Nat) : Prop := l = [] ∨ ∃ g o, a = some ⟨g, o, none⟩ ∧ g ≠ b
theorem RowAt.but {w W : World} {b : Nat} {a : Option Addr} {l : List Nat} (h : RowAt w a l) (hb : But b w W) (ho : Off b a l) : RowAt W a l := by
  rcases h with h | ⟨g, o, cur, rfl, h1, h2⟩
  · exact .inl h
  · rcases ho with ho | ⟨g', o', e, hne⟩
    · exact .inl ho
    · injection e with e
      injection e with e _
      subst e
      exact .inr ⟨_, _, cur, rfl, h1.but hb hne, h2⟩
theorem RowAt.off {w : World} {b : Nat} {a : Option Addr} {l : List Nat} (h : RowAt w a l) (hb : w.heap.size ≤ b) : Off b a l := by
  rcases h with h | ⟨g, o, cur, rfl, h1, h2⟩
  · exact .inl h
  · exact .inr ⟨g, o, rfl, by have := h1.lt; omega⟩

/-- A new row of digits 0. -/
theorem made_held {w w' : World} {n : Nat} (h : w'.ownsRow w.heap.size 59 1 (.slice (some ⟨w.heap.size, 0, none⟩) n n) n (madeCells (Value.int .u64 0).cells (n * 1)).toList) : ∃ cur, Held w' w.heap.size cur ∧ cur.size = n ∧ DigsIn cur 0 (List.replicate n 0) := by
  rcases h.2 with ⟨e, _⟩ | ⟨g, cap, cur, e, _, hh, _, _, hs, ht⟩
  · cases e
  · simp only [Value.slice.injEq, Option.some.injEq, Addr.mk.injEq, and_true, true_and] at e
    obtain ⟨rfl, rfl⟩ := e
    refine ⟨cur, hh, by omega, fun i hi => ?_⟩
    have hi' : i < n := by simpa using hi
    rw [List.take_of_length_le (by rw [Array.length_toList, hs]; exact Nat.le_refl _)] at ht
    have e2 := congrArg (fun l : List Value => l[i]?) ht
    simp only [Array.getElem?_toList] at e2
    rw [Nat.zero_add, e2, List.getD_eq_getElem?_getD, List.getElem?_replicate, if_pos hi']
    simp [madeCells, Value.cells, hi', Nat.mod_one]

/-- What a call that makes a row ends with. -/
def MadeRow (w : World) (z : Nat) (e : Ending) (w' : World) : Prop := ∃ g, e = .returned (.slice (some ⟨g, 0, none⟩) (dgs z).length (dgs z).length) ∧ w.heap.size ≤ g ∧ RowAt w' (some ⟨g, 0, none⟩) (dgs z) ∧ Below w.heap.size w w'

/-- The sum so far, in memory. -/
structure PlusW (x y n : Nat) (w wr : World) (k c : Nat) (l : List Nat) (cur : Array Value) : Prop where
  inv : PlusAt (dgs x) (dgs y) l n k c
  held : Held wr w.heap.size cur
  digs : DigsIn cur 0 l
  below : Below w.heap.size w wr
theorem PlusW.step {x y n : Nat} {w wr : World} {k c : Nat} {l : List Nat} {cur : Array Value} (h : PlusW x y n w wr k c l cur) (hk : k < n) (v : Value) (hv : v = .int .u64 (((dgs x).getD k 0 + (dgs y).getD k 0 + c) % 1000000000 : Nat)) :
    PlusW x y n w (wr.setCell ⟨w.heap.size, k, none⟩ v) (k + 1) (((dgs x).getD k 0 + (dgs y).getD k 0 + c) / 1000000000) (l.set k (((dgs x).getD k 0 + (dgs y).getD k 0 + c) % 1000000000)) (cur.set! k v) := by
  have d := h.digs.set k _ v hv (by rw [h.inv.len]; exact hk)
  rw [Nat.zero_add] at d
  exact ⟨h.inv.step (dgs_ok x) (dgs_ok y) hk, h.held.set k v, d, h.below.setCell (p := ⟨w.heap.size, k, none⟩) (Nat.le_refl _) _⟩

set_option maxHeartbeats 1000000 in
set_option maxRecDepth 100000 in
theorem plus_any (x y : Nat) (a1 a2 : Option Addr) (c1 c2 : Nat) (w : World) (h1 : RowAt w a1 (dgs x)) (h2 : RowAt w a2 (dgs y)) (hx : (dgs x).length ≤ 100000) (hy : (dgs y).length ≤ 100000) :
    Calls Tryd.prog 47 #[.slice a1 (dgs x).length c1, .slice a2 (dgs y).length c2] w (MadeRow w (x + y)) := by
  obtain ⟨i0, hi, hz0, hz1, hz2⟩ := info_parts u64_info
  obtain ⟨n, hn⟩ : ∃ n, n = (dgs x).length := ⟨_, rfl⟩
  obtain ⟨m, hm⟩ : ∃ m, m = (dgs y).length := ⟨_, rfl⟩
  have A1 := fun k (W : World) (h : RowAt W a1 (dgs x)) => at_any (dgs x) a1 c1 k W h (by omega)
  have A2 := fun k (W : World) (h : RowAt W a2 (dgs y)) => at_any (dgs y) a2 c2 k W h (by omega)
  rw [← hn] at A1 hx ⊢
  rw [← hm] at A2 hy ⊢
  have HA1 := Lib.hid A1
  have HA2 := Lib.hid A2
  have HN := Lib.hid hn
  have HM := Lib.hid hm
  have H1 := Lib.hid h1
  have H2 := Lib.hid h2
  clear hn hm h1 h2 A1 A2
  obtain ⟨s, hs⟩ : ∃ s, s = max n m + 1 := ⟨_, rfl⟩
  have hs1 : s ≤ 100001 := by omega
  have HS := Lib.hid hs
  clear hs
  go_enter Tryd.func47, Tryd.ntmps47
  go_wp2_with (at_make; refine wpList_make_full _ rfl (.tmp 14) (.tmp 14) 42 rfl w.heap.size 59 i0 (.int .u64 0) 1 Tryd.underlying42 hi hz0 hz1 .i64 .i64 _ _ s rfl rfl (by have := HS.out; omega) (by have := HS.out; omega) (by rw [hz2]; omega) (by unfold maxLen; omega) (Nat.le_refl _) ?_; intro w1 hown hgr)
  obtain ⟨cur, hh, hcs, hdg⟩ := made_held hown
  have HB := Lib.hid ((Below.refl w.heap.size w).grown hgr (Nat.le_refl _) (by simp))
  have HW : Hid (PlusW x y s w w1 0 0 (List.replicate s 0) cur) := Lib.hid ⟨PlusAt.start _ _ _, hh, hdg, HB.out⟩
  clear hown hgr hh hcs hdg HB hi hz0 hz1 hz2 i0
  obtain ⟨B, hB⟩ : ∃ B, B = w.heap.size := ⟨_, rfl⟩
  have HBE := Lib.hid hB
  rw [← hB]
  clear hB
  go_wp2_with fail
  go_loopw [6, 7, 8, 18] (fun cv _ _ iv wr => ∃ (k c : Nat) (l : List Nat) (cur : Array Value), cv = .int .u64 c ∧ iv = .int .i64 k ∧ k ≤ s ∧ c ≤ 1 ∧ Hid (PlusW x y s w wr k c l cur)) (fun _ _ _ iv _ => s - (intOf iv).toNat)
  case atStart => exact ⟨0, 0, _, _, rfl, rfl, Nat.zero_le _, by omega, HW⟩
  case round =>
    obtain ⟨k, c, l, cur, rfl, rfl, hk, hc, HW⟩ := hrel
    by_cases hlt : k < s
    · have b1 := (dgs_ok x).get k
      have b2 := (dgs_ok y).get k
      have q := HW.out.step hlt _ rfl
      have C1 := HA1.out k wr (H1.out.below HW.out.below)
      have C2 := HA2.out k wr (H2.out.below HW.out.below)
      have hfz := HW.out.held.free k
      rw [← HBE.out] at hfz
      have hcell : wr.cell? ⟨B, k, none⟩ = some (.int .u64 (l.getD k 0)) := by
        have := HW.out.held.cell HW.out.digs k (by rw [HW.out.inv.len]; exact hlt)
        rwa [Nat.zero_add, ← HBE.out] at this
      generalize l.getD k 0 = z at hcell
      generalize (dgs x).getD k 0 = d1 at *
      generalize (dgs y).getD k 0 = d2 at *
      have HQ := Lib.hid q
      clear q HW
      go_wp2_with (first | (go_at_call 69; (with_reducible refine C1.mono ?_); rintro e w' ⟨rfl, rfl⟩) | (go_at_call 69; (with_reducible refine C2.mono ?_); rintro e w' ⟨rfl, rfl⟩))
      go_roundw
      case rel => exact ⟨k + 1, (d1 + d2 + c) / 1000000000, _, _, by go_num, by go_num, by omega, by omega, Lib.hid (by have := HQ.out; rw [← HBE.out] at this; exact this)⟩
      case measure => simp [intOf]; omega
    · obtain rfl : k = s := by omega
      have hv := HW.out.inv.fin (dgs_ok x) (dgs_ok y) (by rw [HS.out, HN.out, HM.out])
      rw [val_dgs, val_dgs] at hv
      have hlen := HW.out.inv.len
      have C := cut_any l (some ⟨w.heap.size, 0, none⟩) k wr (.inr ⟨_, _, cur, rfl, HW.out.held, HW.out.digs⟩) HW.out.inv.ok (by omega) (by omega)
      rw [hlen, hv, ← HBE.out] at C
      have HC := Lib.hid C
      have HB := Lib.hid HW.out.below
      clear C hv hlen HW
      go_wp2_with ((with_reducible refine HC.out.mono ?_); rintro e w' ⟨rfl, hr, rfl⟩; have HR := Lib.hid hr; clear hr)
      go_ret
      exact ⟨B, rfl, by rw [HBE.out]; exact Nat.le_refl _, HR.out, HB.out⟩
end Go.Proofs.YtpdkebljacmgfaaDoor
