/- A document's constraint as the program's (made by tools/gentagF.py). -/
import Derived.Test.YtojdhlmmnhjolaaDoorTagO
import Derived.Test.YtojdhlmmnhjolaaDoorTag11
import Derived.Orders
import Derived.Deep.AppendLies
import Derived.Below
namespace Go.Proofs.YtojdhlmmnhjolaaDoor
open Go.RowKit
set_option linter.unusedVariables false

/-- What is made so far: the document's own (b), the result (b + 1), what is made (b + 2), its parts. -/
structure OfAt (w wr : World) (op tag : ByteArray) (a : Option Addr) (n cap : Nat) (v : Value) (acc : List Ex) (xs : List Value) : Prop where
  below : Below w.heap.size w wr
  h0 : wr.heap[w.heap.size]? = some (.cells #[.string op, .string tag, .slice a n cap] 24 (0, 0))
  h1 : wr.heap[w.heap.size + 1]? = some (.cells #[.string ⟨#[]⟩, .string ⟨#[]⟩, .slice none 0 0] 29 (0, 0))
  h2 : wr.heap[w.heap.size + 2]? = some (.cells #[.string op, .string tag, v] 29 (0, 0))
  row : wr.ownsRow (w.heap.size + 3) 29 3 v acc.length xs
  kids : KidCells wr (fun k => w.heap.size + 3 ≤ k ∧ v.ownBlock ≠ some k) acc xs
theorem OfAt.step {w wr w2 : World} {op tag : ByteArray} {a : Option Addr} {n cap : Nat} {v : Value} {acc : List Ex} {xs : List Value} (h : OfAt w wr op tag a n cap v acc xs) (hb : Below wr.heap.size wr w2) : OfAt w w2 op tag a n cap v acc xs := by
  refine ⟨h.below.trans (hb.mono h.below.size), (hb.block _ (lt_of_block h.h0)).trans h.h0, (hb.block _ (lt_of_block h.h1)).trans h.h1, (hb.block _ (lt_of_block h.h2)).trans h.h2, h.row.kept (row := none) ⟨hb.os, hb.tape, hb.output, hb.size, fun k hk _ => hb.block k hk⟩ (by by_cases e : v.ownBlock = none; exact .inl e; exact .inr e), KidCells.moves (fun k hk hok => ⟨hok, hb.block k hk⟩) _ _ h.kids⟩
theorem OfAt.start (w : World) (op tag : ByteArray) (a : Option Addr) (n cap : Nat) :
    OfAt w (((w.alloc (.cells #[.string op, .string tag, .slice a n cap] 24)).alloc (.cells #[.string ⟨#[]⟩, .string ⟨#[]⟩, .slice none 0 0] 29)).alloc (.cells #[.string op, .string tag, .slice none 0 0] 29)) op tag a n cap (.slice none 0 0) [] [] := by
  have s1 : (w.alloc (.cells #[.string op, .string tag, .slice a n cap] 24)).heap.size = w.heap.size + 1 := by simp
  have s2 : ((w.alloc (.cells #[.string op, .string tag, .slice a n cap] 24)).alloc (.cells #[.string ⟨#[]⟩, .string ⟨#[]⟩, .slice none 0 0] 29)).heap.size = w.heap.size + 2 := by simp
  refine ⟨(((Below.refl _ w).alloc (Nat.le_refl _) _).alloc (by omega) _).alloc (by omega) _, ?_, ?_, ?_, ⟨by rfl, .inl ⟨rfl, rfl⟩⟩, rfl⟩
  · rw [Below.heap_alloc _ _ _ (by omega), Below.heap_alloc _ _ _ (by omega)]
    exact heap_alloc_new w _
  · rw [Below.heap_alloc _ _ _ (by omega), ← s1]
    exact heap_alloc_new _ _
  · rw [← s2]
    exact heap_alloc_new _ _
/-- One more. (wr: behind the part's making; w3: behind the append.) -/
theorem OfAt.more {w wr w2 w3 : World} {op tag : ByteArray} {an : Option Addr} {n capn : Nat} {v v' : Value} {acc : List Ex} {xs : List Value} {o t : ByteArray} {k : List Ex} {a : Option Addr} {cap : Nat} (h : OfAt w wr op tag an n capn v acc xs)
    (hx : ExtK wr (fun i => w2.heap.size ≤ i) k a cap) (hw : w.heap.size + 3 ≤ w2.heap.size) (hvb : ∀ g, v.ownBlock = some g → g < w2.heap.size)
    (hrow : w3.ownsRow (w.heap.size + 3) 29 3 v' (acc.length + 1) (xs ++ [.string o, .string t, .slice a k.length cap]))
    (hg : (wr.alloc (.cells #[.string o, .string t, .slice a k.length cap] 29)).grownBy w3 v.ownBlock) (hv : v'.ownBlock = v.ownBlock ∨ v'.ownBlock = some (wr.heap.size + 1)) :
    OfAt w (w3.setCell ⟨w.heap.size + 2, 2, none⟩ v') op tag an n capn v' (acc ++ [.mk o t k]) (xs ++ [.string o, .string t, .slice a k.length cap]) := by
  have hal : ∀ i, i < wr.heap.size → v.ownBlock ≠ some i → w3.heap[i]? = wr.heap[i]? := fun i hi hne => (hg.block i (by simp; omega) (fun e => hne e.symm)).trans (heap_alloc_old _ _ hi)
  have hne : ∀ i, i ≠ w.heap.size + 2 → (w3.setCell ⟨w.heap.size + 2, 2, none⟩ v').heap[i]? = w3.heap[i]? := fun i hi => Below.heap_setCell _ ⟨w.heap.size + 2, 2, none⟩ _ i (by exact hi)
  have hlt := lt_of_block h.h2
  have hqb : ∀ i, i < w.heap.size + 3 → v.ownBlock ≠ some i := fun i hi e => by
    have := (h.row.lt i e).1
    omega
  have hnew : ∀ i, i < wr.heap.size → w2.heap.size ≤ i → v'.ownBlock ≠ some i := fun i hi h2 e => by
    rcases hv with hv | hv
    · have := hvb i (hv ▸ e)
      omega
    · rw [hv] at e
      injection e with e
      omega
  have hold : ∀ i, i < wr.heap.size → v.ownBlock ≠ some i → v'.ownBlock ≠ some i := fun i hi h2 e => by
    rcases hv with hv | hv
    · exact h2 (hv ▸ e)
    · rw [hv] at e
      injection e with e
      omega
  have hv2 : ∀ i, w2.heap.size ≤ i → v.ownBlock ≠ some i := fun i h2 e => by
    have := hvb i e
    omega
  have k1 := KidCells.moves (w' := w3.setCell ⟨w.heap.size + 2, 2, none⟩ v') (ok' := fun i => w.heap.size + 3 ≤ i ∧ v'.ownBlock ≠ some i) (fun i hi hok => ⟨⟨hok.1, hold i hi hok.2⟩, (hne i (by omega)).trans (hal i hi hok.2)⟩) _ _ h.kids
  have k2 := ExtK.moves (w' := w3.setCell ⟨w.heap.size + 2, 2, none⟩ v') (ok' := fun i => w.heap.size + 3 ≤ i ∧ v'.ownBlock ≠ some i) (fun i hi hok => ⟨⟨Nat.le_trans hw hok, hnew i hi hok⟩, (hne i (by omega)).trans (hal i hi (hv2 i hok))⟩) _ _ _ hx
  have hsz := hg.size
  have hsb := h.below.size
  rw [World.size_alloc] at hsz
  have b3 : Below w.heap.size w w3 := ⟨hg.os.trans h.below.os, hg.tape.trans h.below.tape, hg.output.trans h.below.output, by omega, fun i hi => (hal i (by omega) (hqb i (by omega))).trans (h.below.block i hi)⟩
  refine ⟨b3.setCell (by show w.heap.size ≤ w.heap.size + 2; omega) _, ?_, ?_, ?_, ?_, KidCells.snoc (by rw [ExtAt_eq]; exact ⟨a, cap, rfl, k2⟩) _ _ k1⟩
  · exact (hne _ (by omega)).trans ((hal _ (by omega) (hqb _ (by omega))).trans h.h0)
  · exact (hne _ (by omega)).trans ((hal _ (by omega) (hqb _ (by omega))).trans h.h1)
  · exact set_at 2 v' ((hal _ hlt (hqb _ (by omega))).trans h.h2)
  · rw [List.length_append]
    exact ownsRow_setCell_below hrow (by show w.heap.size + 2 < w.heap.size + 3; omega) v'
theorem OfAt.grown {w wr w3 : World} {op tag : ByteArray} {a : Option Addr} {n cap : Nat} {v : Value} {acc : List Ex} {xs : List Value} {O : Obj} (h : OfAt w wr op tag a n cap v acc xs) (hg : (wr.alloc O).grownBy w3 v.ownBlock) : w3.heap[w.heap.size + 2]? = some (.cells #[.string op, .string tag, v] 29 (0, 0)) := by
  have hlt := lt_of_block h.h2
  refine ((hg.block _ (by simp; omega) (fun e => ?_)).trans (heap_alloc_old _ _ hlt)).trans h.h2
  have := (h.row.lt _ e.symm).1
  omega
theorem take_more {l : List Ex} {j : Nat} {x : Ex} (h : l[j]? = some x) : l.take (j + 1) = l.take j ++ [x] := by rw [List.take_add_one, h]; rfl
/-- append of one constraint, laid in a block of its own, in a region that draws its order. -/
theorem step_app_ex {ops : Array Oper} {o : Oper} {act : Act} {K : Act → World → Prop} {Q : Exit → Act → World → Prop} {E : Prop} {w : World} (hgd : o.guard = none) (x y : Operand)
    (ho : o.op = .call { callee := .builtin .append, args := #[x, y], argTypes := #[27, 27] }) (base : Nat) (v : Value) (n : Nat) (xs : List Value) (hs : act.eval x = v) {o1 t1 : ByteArray} {a1 : Option Addr} {n1 c1 : Nat}
    (hown : w.ownsRow base 29 3 v n xs)
    (hy : act.eval y = .slice (some ⟨w.heap.size, 0, none⟩) 1 1) (hn : n ≤ 3000000) (hbase : base ≤ w.heap.size)
    (h : ∀ g cap w', w'.ownsRow base 29 3 (.slice (some ⟨g, 0, none⟩) (n + 1) cap) (n + 1) (xs ++ [.string o1, .string t1, .slice a1 n1 c1]) → (w.alloc (.cells #[.string o1, .string t1, .slice a1 n1 c1] 29)).grownBy w' v.ownBlock → ((Value.slice (some ⟨g, 0, none⟩) (n + 1) cap).ownBlock = v.ownBlock ∨ (Value.slice (some ⟨g, 0, none⟩) (n + 1) cap).ownBlock = some (w.heap.size + 1)) → K (act.put o.dst (.slice (some ⟨g, 0, none⟩) (n + 1) cap)) w') :
    if Region.wanted o (yielded ops act.tmps) = true then Oper.wp Tryd.prog o act (w.alloc (.cells #[.string o1, .string t1, .slice a1 n1 c1] 29)) K Q else E := by
  obtain ⟨i0, hi, hz0, hz1, hz2⟩ := info_parts info_ex
  have hown' : (w.alloc (.cells #[.string o1, .string t1, .slice a1 n1 c1] 29)).ownsRow base 29 3 v n xs :=
    hown.kept (row := none) ⟨rfl, rfl, rfl, by simp, fun k hk _ => heap_alloc_old _ _ hk⟩ (by by_cases e : v.ownBlock = none; exact .inl e; exact .inr e)
  refine step_append_lies (P := Tryd.prog) _ hgd x y 27 ho base 29 i0 (.agg #[.string ⟨#[]⟩, .string ⟨#[]⟩, .slice none 0 0]) 3 56 Tryd.underlying27 hi hz0 hz1 hz2 rfl (by decide) v n xs hs hown' ⟨w.heap.size, 0, none⟩ 1 1 [.string o1, .string t1, .slice a1 n1 c1] hy rfl (cell_three _ _ _ _ _) (fun u hu => ?_) (by decide) (by unfold maxLen; omega) (by omega) (by simp; omega) (w.heap.size + 1) (by simp) (fun g cap w' h1 h2 h3 h4 => h g cap w' h1 h2 ?_)
  · simp at hu
    rcases hu with rfl | rfl | rfl <;> rfl
  · rcases h3 with h3 | h3
    · exact .inl h3.symm
    · exact .inr (by rw [h3]; rfl)
theorem OfAt.fin {w wr : World} {op tag : ByteArray} {a : Option Addr} {n cap : Nat} {v : Value} {acc : List Ex} {xs : List Value} (h : OfAt w wr op tag a n cap v acc xs) : ∃ a cap, v = .slice a acc.length cap ∧ ExtK wr (fun k => w.heap.size + 3 ≤ k) acc a cap :=
  kids_row h.row (KidCells.moves (fun k hk hok => ⟨hok.1, rfl⟩) _ _ h.kids) (fun g hg => hg)

def OfOk (n : Nat) : Prop := ∀ (x : Ex) (v : Value) (w : World) (ok : Nat → Prop), bulkE x ≤ n → n ≤ 1048576 → ExtAt w ok x v → Calls Tryd.prog 11 #[v] w fun e w' => Below w.heap.size w w' ∧ ∃ u, e = .returned u ∧ ExtAt w' (fun k => w.heap.size ≤ k) x u
theorem bulkL_mem' : ∀ (l : List Ex) (i : Nat) (x : Ex), l[i]? = some x → bulkE x ≤ bulkL l
  | [], i, x, h => by cases h
  | y :: r, 0, x, h => by injection h with h; subst h; rw [bulkL]; omega
  | y :: r, i + 1, x, h => by
    have := bulkL_mem' r i x (by simpa using h)
    rw [bulkL]
    omega

set_option maxHeartbeats 4000000 in
set_option maxRecDepth 100000 in
theorem of_step (n : Nat) (ih : OfOk n) : OfOk (n + 1) := by
  intro x v w ok hb hn hx
  obtain ⟨op, tag, k⟩ := x
  rw [ExtAt_eq] at hx
  obtain ⟨a, cap, rfl, hl⟩ := hx
  have hbl := bulkL_len k
  rw [bulkE] at hb
  have hst := OfAt.start w op tag a k.length cap
  have hW1 := (Below.refl w.heap.size w).alloc (Nat.le_refl _) (.cells #[.string op, .string tag, .slice a k.length cap] 24)
  obtain ⟨⟨d0, d1, d2⟩, -⟩ := three_cells (heap_alloc_new w (.cells #[.string op, .string tag, .slice a k.length cap] 24))
  obtain ⟨⟨e0, e1, e2⟩, -⟩ := three_cells hst.h0
  have HST := Lib.hid hst
  have HL := Lib.hid hl
  have HIH := Lib.hid ih
  have HBK : Hid (bulkL k ≤ n) := by show _ ≤ _; omega
  have HKL : Hid (k.length ≤ 1048576 ∧ n ≤ 1048576) := ⟨by omega, by omega⟩
  clear hW1 hl ih hb hbl hn hst
  go_enter Tryd.func11, Tryd.ntmps11
  go_wp2_with fail
  go_loopw [4] (fun s4 wr => ∃ (j : Nat) (u : Value) (xs : List Value), s4 = .int .i64 j ∧ j ≤ k.length ∧ Hid (OfAt w wr op tag a k.length cap u (k.take j) xs))
    (fun s4 wr => k.length - (intOf s4).toNat)
  case atStart =>
    exact ⟨0, _, _, rfl, Nat.zero_le _, HST⟩
  case round =>
    obtain ⟨j, u, xs, rfl, hj, HO⟩ := hrel
    obtain ⟨hk1, hk3⟩ := HKL.out
    obtain ⟨⟨e0, e1, e2⟩, -⟩ := three_cells HO.out.h0
    obtain ⟨⟨g0, g1, g2⟩, -⟩ := three_cells HO.out.h2
    by_cases hlt : j < k.length
    · have gl : decide ((j : Int) < (k.length : Int)) = true := by simp; omega
      obtain ⟨⟨o3, t3, k3⟩, hy3⟩ : ∃ y, k[j]? = some y := ⟨k[j], by simp [hlt]⟩
      obtain ⟨b, off, a3, cap3, rfl, hbw3, m0, m1, m2, hl3⟩ := HL.out.cells hy3
      have k0 := (HO.out.below.cell (p := ⟨b, _, none⟩) hbw3).trans m0
      have k1 := (HO.out.below.cell (p := ⟨b, _, none⟩) hbw3).trans m1
      have k2' := (HO.out.below.cell (p := ⟨b, _, none⟩) hbw3).trans m2
      have C3 := Lib.hid (fun W (h : Below wr.heap.size wr W) => HIH.out (.mk o3 t3 k3) (.agg #[.string o3, .string t3, .slice a3 k3.length cap3]) W ok (Nat.le_trans (bulkL_mem' _ _ _ hy3) HBK.out) hk3 (by rw [ExtAt_eq]; exact ⟨a3, cap3, rfl, (hl3.below HO.out.below).below h⟩))
      have HD := Lib.hid ((Below.refl wr.heap.size wr).drew)
      have HOD := Lib.hid (HO.out.step HD.out)
      have HLEN : Hid ((k.take j).length = j) := by show _ = _; rw [List.length_take]; omega
      clear m0 m1 m2 hl3 d0 d1 d2
      go_wp2_with fail
      refine wp_region_any (by kernel_rfl) ?_
      change wpAny _ _ _ _ _ _ _ (World.drew _)
      change wpAny _ _ _ _ _ #[false, false, false, false, false, false, false, false, false, false, false, false] ⟨#[.agg #[.string op, .string tag, .slice (some ⟨b, off, none⟩) k.length cap], .pointer (some ⟨w.heap.size, 0, none⟩), .pointer (some ⟨w.heap.size + 1, 0, none⟩), .pointer (some ⟨w.heap.size + 1 + 1, 0, none⟩), .int .i64 j, .pointer (some ⟨w.heap.size, 0, none⟩), .string op, .pointer (some ⟨w.heap.size, 1, none⟩), .string tag, .agg #[.string op, .string tag, .slice none 0 0], .int .i64 j, .pointer (some ⟨w.heap.size, 2, none⟩), .slice (some ⟨b, off, none⟩) k.length cap, .int .i64 k.length, .bool true, u15, u16, u17, u18, u19, u20, u21, u22, u23, u24, u25, u26, u27, undef], []⟩ _
      refine wpAny_take (i := 0) (v := .pointer (some ⟨w.heap.size + 1 + 1, 2, none⟩)) rfl (by kernel_rfl) (by kernel_rfl) (by kernel_rfl) (fun _ _ _ h => h) (Or.inl ⟨by rfl, ?_⟩) ?_
      · intro w
        go_simp
        try with_reducible rfl
      change wpAny _ _ _ _ _ #[true, false, false, false, false, false, false, false, false, false, false, false] ⟨#[.agg #[.string op, .string tag, .slice (some ⟨b, off, none⟩) k.length cap], .pointer (some ⟨w.heap.size, 0, none⟩), .pointer (some ⟨w.heap.size + 1, 0, none⟩), .pointer (some ⟨w.heap.size + 1 + 1, 0, none⟩), .int .i64 j, .pointer (some ⟨w.heap.size, 0, none⟩), .string op, .pointer (some ⟨w.heap.size, 1, none⟩), .string tag, .agg #[.string op, .string tag, .slice none 0 0], .int .i64 j, .pointer (some ⟨w.heap.size, 2, none⟩), .slice (some ⟨b, off, none⟩) k.length cap, .int .i64 k.length, .bool true, u15, u16, .pointer (some ⟨w.heap.size + 1 + 1, 2, none⟩), u18, u19, u20, u21, u22, u23, u24, u25, u26, u27, undef], []⟩ _
      refine wpAny_take (i := 2) (v := .pointer (some ⟨w.heap.size, 2, none⟩)) rfl (by kernel_rfl) (by kernel_rfl) (by kernel_rfl) (fun _ _ _ h => h) (Or.inl ⟨by rfl, ?_⟩) ?_
      · intro w
        go_simp
        try with_reducible rfl
      change wpAny _ _ _ _ _ #[true, false, true, false, false, false, false, false, false, false, false, false] ⟨#[.agg #[.string op, .string tag, .slice (some ⟨b, off, none⟩) k.length cap], .pointer (some ⟨w.heap.size, 0, none⟩), .pointer (some ⟨w.heap.size + 1, 0, none⟩), .pointer (some ⟨w.heap.size + 1 + 1, 0, none⟩), .int .i64 j, .pointer (some ⟨w.heap.size, 0, none⟩), .string op, .pointer (some ⟨w.heap.size, 1, none⟩), .string tag, .agg #[.string op, .string tag, .slice none 0 0], .int .i64 j, .pointer (some ⟨w.heap.size, 2, none⟩), .slice (some ⟨b, off, none⟩) k.length cap, .int .i64 k.length, .bool true, u15, u16, .pointer (some ⟨w.heap.size + 1 + 1, 2, none⟩), u18, .pointer (some ⟨w.heap.size, 2, none⟩), u20, u21, u22, u23, u24, u25, u26, u27, undef], []⟩ _
      refine wpAny_take (i := 4) (v := .int .i64 j) rfl (by kernel_rfl) (by kernel_rfl) (by kernel_rfl) (fun _ _ _ h => h) (Or.inl ⟨by rfl, ?_⟩) ?_
      · intro w
        go_simp
        try with_reducible rfl
      change wpAny _ _ _ _ _ #[true, false, true, false, true, false, false, false, false, false, false, false] ⟨#[.agg #[.string op, .string tag, .slice (some ⟨b, off, none⟩) k.length cap], .pointer (some ⟨w.heap.size, 0, none⟩), .pointer (some ⟨w.heap.size + 1, 0, none⟩), .pointer (some ⟨w.heap.size + 1 + 1, 0, none⟩), .int .i64 j, .pointer (some ⟨w.heap.size, 0, none⟩), .string op, .pointer (some ⟨w.heap.size, 1, none⟩), .string tag, .agg #[.string op, .string tag, .slice none 0 0], .int .i64 j, .pointer (some ⟨w.heap.size, 2, none⟩), .slice (some ⟨b, off, none⟩) k.length cap, .int .i64 k.length, .bool true, u15, u16, .pointer (some ⟨w.heap.size + 1 + 1, 2, none⟩), u18, .pointer (some ⟨w.heap.size, 2, none⟩), u20, .int .i64 j, u22, u23, u24, u25, u26, u27, undef], []⟩ _
      refine wpAny_ready (rs := [1, 3]) (by kernel_rfl) (by simp) ?_
      refine AllReady.cons rfl (fun K hK => ?_) (AllReady.cons rfl (fun K hK => ?_) (AllReady.nil))
      ·
        go_simp
        refine hK _ _ ?_
        clear hK K
        change wpAny _ _ _ _ _ #[true, true, true, false, true, false, false, false, false, false, false, false] ⟨#[.agg #[.string op, .string tag, .slice (some ⟨b, off, none⟩) k.length cap], .pointer (some ⟨w.heap.size, 0, none⟩), .pointer (some ⟨w.heap.size + 1, 0, none⟩), .pointer (some ⟨w.heap.size + 1 + 1, 0, none⟩), .int .i64 j, .pointer (some ⟨w.heap.size, 0, none⟩), .string op, .pointer (some ⟨w.heap.size, 1, none⟩), .string tag, .agg #[.string op, .string tag, .slice none 0 0], .int .i64 j, .pointer (some ⟨w.heap.size, 2, none⟩), .slice (some ⟨b, off, none⟩) k.length cap, .int .i64 k.length, .bool true, u15, u16, .pointer (some ⟨w.heap.size + 1 + 1, 2, none⟩), u, .pointer (some ⟨w.heap.size, 2, none⟩), u20, .int .i64 j, u22, u23, u24, u25, u26, u27, undef], []⟩ _
        refine wpAny_ready (rs := [3]) (by kernel_rfl) (by simp) ?_
        refine AllReady.cons rfl (fun K hK => ?_) (AllReady.nil)
        go_simp
        refine hK _ _ ?_
        clear hK K
        change wpAny _ _ _ _ _ #[true, true, true, true, true, false, false, false, false, false, false, false] ⟨#[.agg #[.string op, .string tag, .slice (some ⟨b, off, none⟩) k.length cap], .pointer (some ⟨w.heap.size, 0, none⟩), .pointer (some ⟨w.heap.size + 1, 0, none⟩), .pointer (some ⟨w.heap.size + 1 + 1, 0, none⟩), .int .i64 j, .pointer (some ⟨w.heap.size, 0, none⟩), .string op, .pointer (some ⟨w.heap.size, 1, none⟩), .string tag, .agg #[.string op, .string tag, .slice none 0 0], .int .i64 j, .pointer (some ⟨w.heap.size, 2, none⟩), .slice (some ⟨b, off, none⟩) k.length cap, .int .i64 k.length, .bool true, u15, u16, .pointer (some ⟨w.heap.size + 1 + 1, 2, none⟩), u, .pointer (some ⟨w.heap.size, 2, none⟩), .slice (some ⟨b, off, none⟩) k.length cap, .int .i64 j, u22, u23, u24, u25, u26, u27, undef], []⟩ _
        refine wpAny_take (i := 5) (v := .pointer (some ⟨b, off + j * 3, none⟩)) rfl (by kernel_rfl) (by kernel_rfl) (by kernel_rfl) (fun _ _ _ h => h) (Or.inl ⟨by rfl, ?_⟩) ?_
        · intro w
          go_simp
          try with_reducible rfl
        change wpAny _ _ _ _ _ #[true, true, true, true, true, true, false, false, false, false, false, false] ⟨#[.agg #[.string op, .string tag, .slice (some ⟨b, off, none⟩) k.length cap], .pointer (some ⟨w.heap.size, 0, none⟩), .pointer (some ⟨w.heap.size + 1, 0, none⟩), .pointer (some ⟨w.heap.size + 1 + 1, 0, none⟩), .int .i64 j, .pointer (some ⟨w.heap.size, 0, none⟩), .string op, .pointer (some ⟨w.heap.size, 1, none⟩), .string tag, .agg #[.string op, .string tag, .slice none 0 0], .int .i64 j, .pointer (some ⟨w.heap.size, 2, none⟩), .slice (some ⟨b, off, none⟩) k.length cap, .int .i64 k.length, .bool true, u15, u16, .pointer (some ⟨w.heap.size + 1 + 1, 2, none⟩), u, .pointer (some ⟨w.heap.size, 2, none⟩), .slice (some ⟨b, off, none⟩) k.length cap, .int .i64 j, .pointer (some ⟨b, off + j * 3, none⟩), u23, u24, u25, u26, u27, undef], []⟩ _
        refine wpAny_ready (rs := [6]) (by kernel_rfl) (by simp) ?_
        refine AllReady.cons rfl (fun K hK => ?_) (AllReady.nil)
        go_simp
        refine hK _ _ ?_
        clear hK K
        change wpAny _ _ _ _ _ #[true, true, true, true, true, true, true, false, false, false, false, false] ⟨#[.agg #[.string op, .string tag, .slice (some ⟨b, off, none⟩) k.length cap], .pointer (some ⟨w.heap.size, 0, none⟩), .pointer (some ⟨w.heap.size + 1, 0, none⟩), .pointer (some ⟨w.heap.size + 1 + 1, 0, none⟩), .int .i64 j, .pointer (some ⟨w.heap.size, 0, none⟩), .string op, .pointer (some ⟨w.heap.size, 1, none⟩), .string tag, .agg #[.string op, .string tag, .slice none 0 0], .int .i64 j, .pointer (some ⟨w.heap.size, 2, none⟩), .slice (some ⟨b, off, none⟩) k.length cap, .int .i64 k.length, .bool true, u15, u16, .pointer (some ⟨w.heap.size + 1 + 1, 2, none⟩), u, .pointer (some ⟨w.heap.size, 2, none⟩), .slice (some ⟨b, off, none⟩) k.length cap, .int .i64 j, .pointer (some ⟨b, off + j * 3, none⟩), .agg #[.string o3, .string t3, .slice a3 k3.length cap3], u24, u25, u26, u27, undef], []⟩ _
        refine wpAny_ready (rs := [7]) (by kernel_rfl) (by simp) ?_
        refine AllReady.cons rfl (fun K hK => ?_) (AllReady.nil)
        go_simp
        go_at_call 11
        refine (C3.out _ HD.out).mono ?_
        rintro e w2 ⟨hb2, u2, rfl, hx2⟩
        rw [ExtAt_eq] at hx2
        obtain ⟨a4, cap4, rfl, hl4⟩ := hx2
        refine hK _ _ ?_
        clear hK K
        change wpAny _ _ _ _ _ #[true, true, true, true, true, true, true, true, false, false, false, false] ⟨#[.agg #[.string op, .string tag, .slice (some ⟨b, off, none⟩) k.length cap], .pointer (some ⟨w.heap.size, 0, none⟩), .pointer (some ⟨w.heap.size + 1, 0, none⟩), .pointer (some ⟨w.heap.size + 1 + 1, 0, none⟩), .int .i64 j, .pointer (some ⟨w.heap.size, 0, none⟩), .string op, .pointer (some ⟨w.heap.size, 1, none⟩), .string tag, .agg #[.string op, .string tag, .slice none 0 0], .int .i64 j, .pointer (some ⟨w.heap.size, 2, none⟩), .slice (some ⟨b, off, none⟩) k.length cap, .int .i64 k.length, .bool true, u15, u16, .pointer (some ⟨w.heap.size + 1 + 1, 2, none⟩), u, .pointer (some ⟨w.heap.size, 2, none⟩), .slice (some ⟨b, off, none⟩) k.length cap, .int .i64 j, .pointer (some ⟨b, off + j * 3, none⟩), .agg #[.string o3, .string t3, .slice a3 k3.length cap3], .agg #[.string o3, .string t3, .slice a4 k3.length cap4], u25, u26, u27, undef], []⟩ _
        have HO2 := Lib.hid (HOD.out.step hb2)
        have HL4 := Lib.hid hl4
        have HSZ := Lib.hid hb2.size
        obtain ⟨⟨g0, g1, g2⟩, -⟩ := three_cells HO2.out.h2
        clear hl4 hb2
        refine wpAny_ready (rs := [8]) (by kernel_rfl) (by simp) ?_
        refine AllReady.cons rfl (fun K hK => ?_) (AllReady.nil)
        go_simp
        refine hK _ _ ?_
        clear hK K
        change wpAny _ _ _ _ _ #[true, true, true, true, true, true, true, true, true, false, false, false] ⟨#[.agg #[.string op, .string tag, .slice (some ⟨b, off, none⟩) k.length cap], .pointer (some ⟨w.heap.size, 0, none⟩), .pointer (some ⟨w.heap.size + 1, 0, none⟩), .pointer (some ⟨w.heap.size + 1 + 1, 0, none⟩), .int .i64 j, .pointer (some ⟨w.heap.size, 0, none⟩), .string op, .pointer (some ⟨w.heap.size, 1, none⟩), .string tag, .agg #[.string op, .string tag, .slice none 0 0], .int .i64 j, .pointer (some ⟨w.heap.size, 2, none⟩), .slice (some ⟨b, off, none⟩) k.length cap, .int .i64 k.length, .bool true, u15, u16, .pointer (some ⟨w.heap.size + 1 + 1, 2, none⟩), u, .pointer (some ⟨w.heap.size, 2, none⟩), .slice (some ⟨b, off, none⟩) k.length cap, .int .i64 j, .pointer (some ⟨b, off + j * 3, none⟩), .agg #[.string o3, .string t3, .slice a3 k3.length cap3], .agg #[.string o3, .string t3, .slice a4 k3.length cap4], .slice (some ⟨w2.heap.size, 0, none⟩) 1 1, u26, u27, undef], []⟩ _
        refine wpAny_ready (rs := [9]) (by kernel_rfl) (by simp) ?_
        refine AllReady.cons rfl (fun K hK => ?_) AllReady.nil
        refine step_app_ex rfl _ _ rfl (w.heap.size + 3) u j xs rfl (by have e := HO2.out.row; rw [HLEN.out] at e; exact e) rfl (by have := HKL.out.1; omega) (by have := lt_of_block HO2.out.h2; omega) ?_
        intro gb capr w3 hrow hg hv
        refine hK _ _ ?_
        clear hK K
        change wpAny _ _ _ _ _ #[true, true, true, true, true, true, true, true, true, true, false, false] ⟨#[.agg #[.string op, .string tag, .slice (some ⟨b, off, none⟩) k.length cap], .pointer (some ⟨w.heap.size, 0, none⟩), .pointer (some ⟨w.heap.size + 1, 0, none⟩), .pointer (some ⟨w.heap.size + 1 + 1, 0, none⟩), .int .i64 j, .pointer (some ⟨w.heap.size, 0, none⟩), .string op, .pointer (some ⟨w.heap.size, 1, none⟩), .string tag, .agg #[.string op, .string tag, .slice none 0 0], .int .i64 j, .pointer (some ⟨w.heap.size, 2, none⟩), .slice (some ⟨b, off, none⟩) k.length cap, .int .i64 k.length, .bool true, u15, u16, .pointer (some ⟨w.heap.size + 1 + 1, 2, none⟩), u, .pointer (some ⟨w.heap.size, 2, none⟩), .slice (some ⟨b, off, none⟩) k.length cap, .int .i64 j, .pointer (some ⟨b, off + j * 3, none⟩), .agg #[.string o3, .string t3, .slice a3 k3.length cap3], .agg #[.string o3, .string t3, .slice a4 k3.length cap4], .slice (some ⟨w2.heap.size, 0, none⟩) 1 1, .slice (some ⟨gb, 0, none⟩) (j + 1) capr, u27, undef], []⟩ _
        have HO3 := Lib.hid (HO2.out.more (w2 := wr.drew) HL4.out (by have := lt_of_block HOD.out.h2; omega) (fun g e => (HOD.out.row.lt g e).2) (by rw [HLEN.out]; exact hrow) hg hv)
        have hq3 := HO2.out.grown hg
        clear g0 g1 g2 hrow hg hv
        obtain ⟨⟨g0, g1, g2⟩, z0, z1, z2⟩ := three_cells hq3
        refine wpAny_take (i := 10) (v := .pointer (some ⟨w.heap.size + 1 + 1, 2, none⟩)) rfl (by kernel_rfl) (by kernel_rfl) (by kernel_rfl) (fun _ _ _ h => h) (Or.inl ⟨by rfl, ?_⟩) ?_
        · intro w
          go_simp
          try with_reducible rfl
        change wpAny _ _ _ _ _ #[true, true, true, true, true, true, true, true, true, true, true, false] ⟨#[.agg #[.string op, .string tag, .slice (some ⟨b, off, none⟩) k.length cap], .pointer (some ⟨w.heap.size, 0, none⟩), .pointer (some ⟨w.heap.size + 1, 0, none⟩), .pointer (some ⟨w.heap.size + 1 + 1, 0, none⟩), .int .i64 j, .pointer (some ⟨w.heap.size, 0, none⟩), .string op, .pointer (some ⟨w.heap.size, 1, none⟩), .string tag, .agg #[.string op, .string tag, .slice none 0 0], .int .i64 j, .pointer (some ⟨w.heap.size, 2, none⟩), .slice (some ⟨b, off, none⟩) k.length cap, .int .i64 k.length, .bool true, u15, u16, .pointer (some ⟨w.heap.size + 1 + 1, 2, none⟩), u, .pointer (some ⟨w.heap.size, 2, none⟩), .slice (some ⟨b, off, none⟩) k.length cap, .int .i64 j, .pointer (some ⟨b, off + j * 3, none⟩), .agg #[.string o3, .string t3, .slice a3 k3.length cap3], .agg #[.string o3, .string t3, .slice a4 k3.length cap4], .slice (some ⟨w2.heap.size, 0, none⟩) 1 1, .slice (some ⟨gb, 0, none⟩) (j + 1) capr, .pointer (some ⟨w.heap.size + 1 + 1, 2, none⟩), undef], []⟩ _
        refine wpAny_ready (rs := [11]) (by kernel_rfl) (by simp) ?_
        refine AllReady.cons rfl (fun K hK => ?_) AllReady.nil
        go_simp
        refine hK _ _ ?_
        clear hK K
        change wpAny _ _ _ _ _ #[true, true, true, true, true, true, true, true, true, true, true, true] ⟨#[.agg #[.string op, .string tag, .slice (some ⟨b, off, none⟩) k.length cap], .pointer (some ⟨w.heap.size, 0, none⟩), .pointer (some ⟨w.heap.size + 1, 0, none⟩), .pointer (some ⟨w.heap.size + 1 + 1, 0, none⟩), .int .i64 j, .pointer (some ⟨w.heap.size, 0, none⟩), .string op, .pointer (some ⟨w.heap.size, 1, none⟩), .string tag, .agg #[.string op, .string tag, .slice none 0 0], .int .i64 j, .pointer (some ⟨w.heap.size, 2, none⟩), .slice (some ⟨b, off, none⟩) k.length cap, .int .i64 k.length, .bool true, u15, u16, .pointer (some ⟨w.heap.size + 1 + 1, 2, none⟩), u, .pointer (some ⟨w.heap.size, 2, none⟩), .slice (some ⟨b, off, none⟩) k.length cap, .int .i64 j, .pointer (some ⟨b, off + j * 3, none⟩), .agg #[.string o3, .string t3, .slice a3 k3.length cap3], .agg #[.string o3, .string t3, .slice a4 k3.length cap4], .slice (some ⟨w2.heap.size, 0, none⟩) 1 1, .slice (some ⟨gb, 0, none⟩) (j + 1) capr, .pointer (some ⟨w.heap.size + 1 + 1, 2, none⟩), undef], []⟩ _
        refine wpAny_done (by kernel_rfl) ?_ _
        go_wp2
        go_roundw
        case rel => exact ⟨j + 1, _, _, by go_num, by omega, by have e := HO3.out; rw [take_more hy3]; exact e⟩
        case measure => simp [intOf]; omega
      ·
        go_simp
        refine hK _ _ ?_
        clear hK K
        change wpAny _ _ _ _ _ #[true, false, true, true, true, false, false, false, false, false, false, false] ⟨#[.agg #[.string op, .string tag, .slice (some ⟨b, off, none⟩) k.length cap], .pointer (some ⟨w.heap.size, 0, none⟩), .pointer (some ⟨w.heap.size + 1, 0, none⟩), .pointer (some ⟨w.heap.size + 1 + 1, 0, none⟩), .int .i64 j, .pointer (some ⟨w.heap.size, 0, none⟩), .string op, .pointer (some ⟨w.heap.size, 1, none⟩), .string tag, .agg #[.string op, .string tag, .slice none 0 0], .int .i64 j, .pointer (some ⟨w.heap.size, 2, none⟩), .slice (some ⟨b, off, none⟩) k.length cap, .int .i64 k.length, .bool true, u15, u16, .pointer (some ⟨w.heap.size + 1 + 1, 2, none⟩), u18, .pointer (some ⟨w.heap.size, 2, none⟩), .slice (some ⟨b, off, none⟩) k.length cap, .int .i64 j, u22, u23, u24, u25, u26, u27, undef], []⟩ _
        refine wpAny_take (i := 5) (v := .pointer (some ⟨b, off + j * 3, none⟩)) rfl (by kernel_rfl) (by kernel_rfl) (by kernel_rfl) (fun _ _ _ h => h) (Or.inl ⟨by rfl, ?_⟩) ?_
        · intro w
          go_simp
          try with_reducible rfl
        change wpAny _ _ _ _ _ #[true, false, true, true, true, true, false, false, false, false, false, false] ⟨#[.agg #[.string op, .string tag, .slice (some ⟨b, off, none⟩) k.length cap], .pointer (some ⟨w.heap.size, 0, none⟩), .pointer (some ⟨w.heap.size + 1, 0, none⟩), .pointer (some ⟨w.heap.size + 1 + 1, 0, none⟩), .int .i64 j, .pointer (some ⟨w.heap.size, 0, none⟩), .string op, .pointer (some ⟨w.heap.size, 1, none⟩), .string tag, .agg #[.string op, .string tag, .slice none 0 0], .int .i64 j, .pointer (some ⟨w.heap.size, 2, none⟩), .slice (some ⟨b, off, none⟩) k.length cap, .int .i64 k.length, .bool true, u15, u16, .pointer (some ⟨w.heap.size + 1 + 1, 2, none⟩), u18, .pointer (some ⟨w.heap.size, 2, none⟩), .slice (some ⟨b, off, none⟩) k.length cap, .int .i64 j, .pointer (some ⟨b, off + j * 3, none⟩), u23, u24, u25, u26, u27, undef], []⟩ _
        refine wpAny_ready (rs := [1, 6]) (by kernel_rfl) (by simp) ?_
        refine AllReady.cons rfl (fun K hK => ?_) (AllReady.cons rfl (fun K hK => ?_) (AllReady.nil))
        ·
          go_simp
          refine hK _ _ ?_
          clear hK K
          change wpAny _ _ _ _ _ #[true, true, true, true, true, true, false, false, false, false, false, false] ⟨#[.agg #[.string op, .string tag, .slice (some ⟨b, off, none⟩) k.length cap], .pointer (some ⟨w.heap.size, 0, none⟩), .pointer (some ⟨w.heap.size + 1, 0, none⟩), .pointer (some ⟨w.heap.size + 1 + 1, 0, none⟩), .int .i64 j, .pointer (some ⟨w.heap.size, 0, none⟩), .string op, .pointer (some ⟨w.heap.size, 1, none⟩), .string tag, .agg #[.string op, .string tag, .slice none 0 0], .int .i64 j, .pointer (some ⟨w.heap.size, 2, none⟩), .slice (some ⟨b, off, none⟩) k.length cap, .int .i64 k.length, .bool true, u15, u16, .pointer (some ⟨w.heap.size + 1 + 1, 2, none⟩), u, .pointer (some ⟨w.heap.size, 2, none⟩), .slice (some ⟨b, off, none⟩) k.length cap, .int .i64 j, .pointer (some ⟨b, off + j * 3, none⟩), u23, u24, u25, u26, u27, undef], []⟩ _
          refine wpAny_ready (rs := [6]) (by kernel_rfl) (by simp) ?_
          refine AllReady.cons rfl (fun K hK => ?_) (AllReady.nil)
          go_simp
          refine hK _ _ ?_
          clear hK K
          change wpAny _ _ _ _ _ #[true, true, true, true, true, true, true, false, false, false, false, false] ⟨#[.agg #[.string op, .string tag, .slice (some ⟨b, off, none⟩) k.length cap], .pointer (some ⟨w.heap.size, 0, none⟩), .pointer (some ⟨w.heap.size + 1, 0, none⟩), .pointer (some ⟨w.heap.size + 1 + 1, 0, none⟩), .int .i64 j, .pointer (some ⟨w.heap.size, 0, none⟩), .string op, .pointer (some ⟨w.heap.size, 1, none⟩), .string tag, .agg #[.string op, .string tag, .slice none 0 0], .int .i64 j, .pointer (some ⟨w.heap.size, 2, none⟩), .slice (some ⟨b, off, none⟩) k.length cap, .int .i64 k.length, .bool true, u15, u16, .pointer (some ⟨w.heap.size + 1 + 1, 2, none⟩), u, .pointer (some ⟨w.heap.size, 2, none⟩), .slice (some ⟨b, off, none⟩) k.length cap, .int .i64 j, .pointer (some ⟨b, off + j * 3, none⟩), .agg #[.string o3, .string t3, .slice a3 k3.length cap3], u24, u25, u26, u27, undef], []⟩ _
          refine wpAny_ready (rs := [7]) (by kernel_rfl) (by simp) ?_
          refine AllReady.cons rfl (fun K hK => ?_) (AllReady.nil)
          go_simp
          go_at_call 11
          refine (C3.out _ HD.out).mono ?_
          rintro e w2 ⟨hb2, u2, rfl, hx2⟩
          rw [ExtAt_eq] at hx2
          obtain ⟨a4, cap4, rfl, hl4⟩ := hx2
          refine hK _ _ ?_
          clear hK K
          change wpAny _ _ _ _ _ #[true, true, true, true, true, true, true, true, false, false, false, false] ⟨#[.agg #[.string op, .string tag, .slice (some ⟨b, off, none⟩) k.length cap], .pointer (some ⟨w.heap.size, 0, none⟩), .pointer (some ⟨w.heap.size + 1, 0, none⟩), .pointer (some ⟨w.heap.size + 1 + 1, 0, none⟩), .int .i64 j, .pointer (some ⟨w.heap.size, 0, none⟩), .string op, .pointer (some ⟨w.heap.size, 1, none⟩), .string tag, .agg #[.string op, .string tag, .slice none 0 0], .int .i64 j, .pointer (some ⟨w.heap.size, 2, none⟩), .slice (some ⟨b, off, none⟩) k.length cap, .int .i64 k.length, .bool true, u15, u16, .pointer (some ⟨w.heap.size + 1 + 1, 2, none⟩), u, .pointer (some ⟨w.heap.size, 2, none⟩), .slice (some ⟨b, off, none⟩) k.length cap, .int .i64 j, .pointer (some ⟨b, off + j * 3, none⟩), .agg #[.string o3, .string t3, .slice a3 k3.length cap3], .agg #[.string o3, .string t3, .slice a4 k3.length cap4], u25, u26, u27, undef], []⟩ _
          have HO2 := Lib.hid (HOD.out.step hb2)
          have HL4 := Lib.hid hl4
          have HSZ := Lib.hid hb2.size
          obtain ⟨⟨g0, g1, g2⟩, -⟩ := three_cells HO2.out.h2
          clear hl4 hb2
          refine wpAny_ready (rs := [8]) (by kernel_rfl) (by simp) ?_
          refine AllReady.cons rfl (fun K hK => ?_) (AllReady.nil)
          go_simp
          refine hK _ _ ?_
          clear hK K
          change wpAny _ _ _ _ _ #[true, true, true, true, true, true, true, true, true, false, false, false] ⟨#[.agg #[.string op, .string tag, .slice (some ⟨b, off, none⟩) k.length cap], .pointer (some ⟨w.heap.size, 0, none⟩), .pointer (some ⟨w.heap.size + 1, 0, none⟩), .pointer (some ⟨w.heap.size + 1 + 1, 0, none⟩), .int .i64 j, .pointer (some ⟨w.heap.size, 0, none⟩), .string op, .pointer (some ⟨w.heap.size, 1, none⟩), .string tag, .agg #[.string op, .string tag, .slice none 0 0], .int .i64 j, .pointer (some ⟨w.heap.size, 2, none⟩), .slice (some ⟨b, off, none⟩) k.length cap, .int .i64 k.length, .bool true, u15, u16, .pointer (some ⟨w.heap.size + 1 + 1, 2, none⟩), u, .pointer (some ⟨w.heap.size, 2, none⟩), .slice (some ⟨b, off, none⟩) k.length cap, .int .i64 j, .pointer (some ⟨b, off + j * 3, none⟩), .agg #[.string o3, .string t3, .slice a3 k3.length cap3], .agg #[.string o3, .string t3, .slice a4 k3.length cap4], .slice (some ⟨w2.heap.size, 0, none⟩) 1 1, u26, u27, undef], []⟩ _
          refine wpAny_ready (rs := [9]) (by kernel_rfl) (by simp) ?_
          refine AllReady.cons rfl (fun K hK => ?_) AllReady.nil
          refine step_app_ex rfl _ _ rfl (w.heap.size + 3) u j xs rfl (by have e := HO2.out.row; rw [HLEN.out] at e; exact e) rfl (by have := HKL.out.1; omega) (by have := lt_of_block HO2.out.h2; omega) ?_
          intro gb capr w3 hrow hg hv
          refine hK _ _ ?_
          clear hK K
          change wpAny _ _ _ _ _ #[true, true, true, true, true, true, true, true, true, true, false, false] ⟨#[.agg #[.string op, .string tag, .slice (some ⟨b, off, none⟩) k.length cap], .pointer (some ⟨w.heap.size, 0, none⟩), .pointer (some ⟨w.heap.size + 1, 0, none⟩), .pointer (some ⟨w.heap.size + 1 + 1, 0, none⟩), .int .i64 j, .pointer (some ⟨w.heap.size, 0, none⟩), .string op, .pointer (some ⟨w.heap.size, 1, none⟩), .string tag, .agg #[.string op, .string tag, .slice none 0 0], .int .i64 j, .pointer (some ⟨w.heap.size, 2, none⟩), .slice (some ⟨b, off, none⟩) k.length cap, .int .i64 k.length, .bool true, u15, u16, .pointer (some ⟨w.heap.size + 1 + 1, 2, none⟩), u, .pointer (some ⟨w.heap.size, 2, none⟩), .slice (some ⟨b, off, none⟩) k.length cap, .int .i64 j, .pointer (some ⟨b, off + j * 3, none⟩), .agg #[.string o3, .string t3, .slice a3 k3.length cap3], .agg #[.string o3, .string t3, .slice a4 k3.length cap4], .slice (some ⟨w2.heap.size, 0, none⟩) 1 1, .slice (some ⟨gb, 0, none⟩) (j + 1) capr, u27, undef], []⟩ _
          have HO3 := Lib.hid (HO2.out.more (w2 := wr.drew) HL4.out (by have := lt_of_block HOD.out.h2; omega) (fun g e => (HOD.out.row.lt g e).2) (by rw [HLEN.out]; exact hrow) hg hv)
          have hq3 := HO2.out.grown hg
          clear g0 g1 g2 hrow hg hv
          obtain ⟨⟨g0, g1, g2⟩, z0, z1, z2⟩ := three_cells hq3
          refine wpAny_take (i := 10) (v := .pointer (some ⟨w.heap.size + 1 + 1, 2, none⟩)) rfl (by kernel_rfl) (by kernel_rfl) (by kernel_rfl) (fun _ _ _ h => h) (Or.inl ⟨by rfl, ?_⟩) ?_
          · intro w
            go_simp
            try with_reducible rfl
          change wpAny _ _ _ _ _ #[true, true, true, true, true, true, true, true, true, true, true, false] ⟨#[.agg #[.string op, .string tag, .slice (some ⟨b, off, none⟩) k.length cap], .pointer (some ⟨w.heap.size, 0, none⟩), .pointer (some ⟨w.heap.size + 1, 0, none⟩), .pointer (some ⟨w.heap.size + 1 + 1, 0, none⟩), .int .i64 j, .pointer (some ⟨w.heap.size, 0, none⟩), .string op, .pointer (some ⟨w.heap.size, 1, none⟩), .string tag, .agg #[.string op, .string tag, .slice none 0 0], .int .i64 j, .pointer (some ⟨w.heap.size, 2, none⟩), .slice (some ⟨b, off, none⟩) k.length cap, .int .i64 k.length, .bool true, u15, u16, .pointer (some ⟨w.heap.size + 1 + 1, 2, none⟩), u, .pointer (some ⟨w.heap.size, 2, none⟩), .slice (some ⟨b, off, none⟩) k.length cap, .int .i64 j, .pointer (some ⟨b, off + j * 3, none⟩), .agg #[.string o3, .string t3, .slice a3 k3.length cap3], .agg #[.string o3, .string t3, .slice a4 k3.length cap4], .slice (some ⟨w2.heap.size, 0, none⟩) 1 1, .slice (some ⟨gb, 0, none⟩) (j + 1) capr, .pointer (some ⟨w.heap.size + 1 + 1, 2, none⟩), undef], []⟩ _
          refine wpAny_ready (rs := [11]) (by kernel_rfl) (by simp) ?_
          refine AllReady.cons rfl (fun K hK => ?_) AllReady.nil
          go_simp
          refine hK _ _ ?_
          clear hK K
          change wpAny _ _ _ _ _ #[true, true, true, true, true, true, true, true, true, true, true, true] ⟨#[.agg #[.string op, .string tag, .slice (some ⟨b, off, none⟩) k.length cap], .pointer (some ⟨w.heap.size, 0, none⟩), .pointer (some ⟨w.heap.size + 1, 0, none⟩), .pointer (some ⟨w.heap.size + 1 + 1, 0, none⟩), .int .i64 j, .pointer (some ⟨w.heap.size, 0, none⟩), .string op, .pointer (some ⟨w.heap.size, 1, none⟩), .string tag, .agg #[.string op, .string tag, .slice none 0 0], .int .i64 j, .pointer (some ⟨w.heap.size, 2, none⟩), .slice (some ⟨b, off, none⟩) k.length cap, .int .i64 k.length, .bool true, u15, u16, .pointer (some ⟨w.heap.size + 1 + 1, 2, none⟩), u, .pointer (some ⟨w.heap.size, 2, none⟩), .slice (some ⟨b, off, none⟩) k.length cap, .int .i64 j, .pointer (some ⟨b, off + j * 3, none⟩), .agg #[.string o3, .string t3, .slice a3 k3.length cap3], .agg #[.string o3, .string t3, .slice a4 k3.length cap4], .slice (some ⟨w2.heap.size, 0, none⟩) 1 1, .slice (some ⟨gb, 0, none⟩) (j + 1) capr, .pointer (some ⟨w.heap.size + 1 + 1, 2, none⟩), undef], []⟩ _
          refine wpAny_done (by kernel_rfl) ?_ _
          go_wp2
          go_roundw
          case rel => exact ⟨j + 1, _, _, by go_num, by omega, by have e := HO3.out; rw [take_more hy3]; exact e⟩
          case measure => simp [intOf]; omega
        ·
          go_simp
          refine hK _ _ ?_
          clear hK K
          change wpAny _ _ _ _ _ #[true, false, true, true, true, true, true, false, false, false, false, false] ⟨#[.agg #[.string op, .string tag, .slice (some ⟨b, off, none⟩) k.length cap], .pointer (some ⟨w.heap.size, 0, none⟩), .pointer (some ⟨w.heap.size + 1, 0, none⟩), .pointer (some ⟨w.heap.size + 1 + 1, 0, none⟩), .int .i64 j, .pointer (some ⟨w.heap.size, 0, none⟩), .string op, .pointer (some ⟨w.heap.size, 1, none⟩), .string tag, .agg #[.string op, .string tag, .slice none 0 0], .int .i64 j, .pointer (some ⟨w.heap.size, 2, none⟩), .slice (some ⟨b, off, none⟩) k.length cap, .int .i64 k.length, .bool true, u15, u16, .pointer (some ⟨w.heap.size + 1 + 1, 2, none⟩), u18, .pointer (some ⟨w.heap.size, 2, none⟩), .slice (some ⟨b, off, none⟩) k.length cap, .int .i64 j, .pointer (some ⟨b, off + j * 3, none⟩), .agg #[.string o3, .string t3, .slice a3 k3.length cap3], u24, u25, u26, u27, undef], []⟩ _
          refine wpAny_ready (rs := [1, 7]) (by kernel_rfl) (by simp) ?_
          refine AllReady.cons rfl (fun K hK => ?_) (AllReady.cons rfl (fun K hK => ?_) (AllReady.nil))
          ·
            go_simp
            refine hK _ _ ?_
            clear hK K
            change wpAny _ _ _ _ _ #[true, true, true, true, true, true, true, false, false, false, false, false] ⟨#[.agg #[.string op, .string tag, .slice (some ⟨b, off, none⟩) k.length cap], .pointer (some ⟨w.heap.size, 0, none⟩), .pointer (some ⟨w.heap.size + 1, 0, none⟩), .pointer (some ⟨w.heap.size + 1 + 1, 0, none⟩), .int .i64 j, .pointer (some ⟨w.heap.size, 0, none⟩), .string op, .pointer (some ⟨w.heap.size, 1, none⟩), .string tag, .agg #[.string op, .string tag, .slice none 0 0], .int .i64 j, .pointer (some ⟨w.heap.size, 2, none⟩), .slice (some ⟨b, off, none⟩) k.length cap, .int .i64 k.length, .bool true, u15, u16, .pointer (some ⟨w.heap.size + 1 + 1, 2, none⟩), u, .pointer (some ⟨w.heap.size, 2, none⟩), .slice (some ⟨b, off, none⟩) k.length cap, .int .i64 j, .pointer (some ⟨b, off + j * 3, none⟩), .agg #[.string o3, .string t3, .slice a3 k3.length cap3], u24, u25, u26, u27, undef], []⟩ _
            refine wpAny_ready (rs := [7]) (by kernel_rfl) (by simp) ?_
            refine AllReady.cons rfl (fun K hK => ?_) (AllReady.nil)
            go_simp
            go_at_call 11
            refine (C3.out _ HD.out).mono ?_
            rintro e w2 ⟨hb2, u2, rfl, hx2⟩
            rw [ExtAt_eq] at hx2
            obtain ⟨a4, cap4, rfl, hl4⟩ := hx2
            refine hK _ _ ?_
            clear hK K
            change wpAny _ _ _ _ _ #[true, true, true, true, true, true, true, true, false, false, false, false] ⟨#[.agg #[.string op, .string tag, .slice (some ⟨b, off, none⟩) k.length cap], .pointer (some ⟨w.heap.size, 0, none⟩), .pointer (some ⟨w.heap.size + 1, 0, none⟩), .pointer (some ⟨w.heap.size + 1 + 1, 0, none⟩), .int .i64 j, .pointer (some ⟨w.heap.size, 0, none⟩), .string op, .pointer (some ⟨w.heap.size, 1, none⟩), .string tag, .agg #[.string op, .string tag, .slice none 0 0], .int .i64 j, .pointer (some ⟨w.heap.size, 2, none⟩), .slice (some ⟨b, off, none⟩) k.length cap, .int .i64 k.length, .bool true, u15, u16, .pointer (some ⟨w.heap.size + 1 + 1, 2, none⟩), u, .pointer (some ⟨w.heap.size, 2, none⟩), .slice (some ⟨b, off, none⟩) k.length cap, .int .i64 j, .pointer (some ⟨b, off + j * 3, none⟩), .agg #[.string o3, .string t3, .slice a3 k3.length cap3], .agg #[.string o3, .string t3, .slice a4 k3.length cap4], u25, u26, u27, undef], []⟩ _
            have HO2 := Lib.hid (HOD.out.step hb2)
            have HL4 := Lib.hid hl4
            have HSZ := Lib.hid hb2.size
            obtain ⟨⟨g0, g1, g2⟩, -⟩ := three_cells HO2.out.h2
            clear hl4 hb2
            refine wpAny_ready (rs := [8]) (by kernel_rfl) (by simp) ?_
            refine AllReady.cons rfl (fun K hK => ?_) (AllReady.nil)
            go_simp
            refine hK _ _ ?_
            clear hK K
            change wpAny _ _ _ _ _ #[true, true, true, true, true, true, true, true, true, false, false, false] ⟨#[.agg #[.string op, .string tag, .slice (some ⟨b, off, none⟩) k.length cap], .pointer (some ⟨w.heap.size, 0, none⟩), .pointer (some ⟨w.heap.size + 1, 0, none⟩), .pointer (some ⟨w.heap.size + 1 + 1, 0, none⟩), .int .i64 j, .pointer (some ⟨w.heap.size, 0, none⟩), .string op, .pointer (some ⟨w.heap.size, 1, none⟩), .string tag, .agg #[.string op, .string tag, .slice none 0 0], .int .i64 j, .pointer (some ⟨w.heap.size, 2, none⟩), .slice (some ⟨b, off, none⟩) k.length cap, .int .i64 k.length, .bool true, u15, u16, .pointer (some ⟨w.heap.size + 1 + 1, 2, none⟩), u, .pointer (some ⟨w.heap.size, 2, none⟩), .slice (some ⟨b, off, none⟩) k.length cap, .int .i64 j, .pointer (some ⟨b, off + j * 3, none⟩), .agg #[.string o3, .string t3, .slice a3 k3.length cap3], .agg #[.string o3, .string t3, .slice a4 k3.length cap4], .slice (some ⟨w2.heap.size, 0, none⟩) 1 1, u26, u27, undef], []⟩ _
            refine wpAny_ready (rs := [9]) (by kernel_rfl) (by simp) ?_
            refine AllReady.cons rfl (fun K hK => ?_) AllReady.nil
            refine step_app_ex rfl _ _ rfl (w.heap.size + 3) u j xs rfl (by have e := HO2.out.row; rw [HLEN.out] at e; exact e) rfl (by have := HKL.out.1; omega) (by have := lt_of_block HO2.out.h2; omega) ?_
            intro gb capr w3 hrow hg hv
            refine hK _ _ ?_
            clear hK K
            change wpAny _ _ _ _ _ #[true, true, true, true, true, true, true, true, true, true, false, false] ⟨#[.agg #[.string op, .string tag, .slice (some ⟨b, off, none⟩) k.length cap], .pointer (some ⟨w.heap.size, 0, none⟩), .pointer (some ⟨w.heap.size + 1, 0, none⟩), .pointer (some ⟨w.heap.size + 1 + 1, 0, none⟩), .int .i64 j, .pointer (some ⟨w.heap.size, 0, none⟩), .string op, .pointer (some ⟨w.heap.size, 1, none⟩), .string tag, .agg #[.string op, .string tag, .slice none 0 0], .int .i64 j, .pointer (some ⟨w.heap.size, 2, none⟩), .slice (some ⟨b, off, none⟩) k.length cap, .int .i64 k.length, .bool true, u15, u16, .pointer (some ⟨w.heap.size + 1 + 1, 2, none⟩), u, .pointer (some ⟨w.heap.size, 2, none⟩), .slice (some ⟨b, off, none⟩) k.length cap, .int .i64 j, .pointer (some ⟨b, off + j * 3, none⟩), .agg #[.string o3, .string t3, .slice a3 k3.length cap3], .agg #[.string o3, .string t3, .slice a4 k3.length cap4], .slice (some ⟨w2.heap.size, 0, none⟩) 1 1, .slice (some ⟨gb, 0, none⟩) (j + 1) capr, u27, undef], []⟩ _
            have HO3 := Lib.hid (HO2.out.more (w2 := wr.drew) HL4.out (by have := lt_of_block HOD.out.h2; omega) (fun g e => (HOD.out.row.lt g e).2) (by rw [HLEN.out]; exact hrow) hg hv)
            have hq3 := HO2.out.grown hg
            clear g0 g1 g2 hrow hg hv
            obtain ⟨⟨g0, g1, g2⟩, z0, z1, z2⟩ := three_cells hq3
            refine wpAny_take (i := 10) (v := .pointer (some ⟨w.heap.size + 1 + 1, 2, none⟩)) rfl (by kernel_rfl) (by kernel_rfl) (by kernel_rfl) (fun _ _ _ h => h) (Or.inl ⟨by rfl, ?_⟩) ?_
            · intro w
              go_simp
              try with_reducible rfl
            change wpAny _ _ _ _ _ #[true, true, true, true, true, true, true, true, true, true, true, false] ⟨#[.agg #[.string op, .string tag, .slice (some ⟨b, off, none⟩) k.length cap], .pointer (some ⟨w.heap.size, 0, none⟩), .pointer (some ⟨w.heap.size + 1, 0, none⟩), .pointer (some ⟨w.heap.size + 1 + 1, 0, none⟩), .int .i64 j, .pointer (some ⟨w.heap.size, 0, none⟩), .string op, .pointer (some ⟨w.heap.size, 1, none⟩), .string tag, .agg #[.string op, .string tag, .slice none 0 0], .int .i64 j, .pointer (some ⟨w.heap.size, 2, none⟩), .slice (some ⟨b, off, none⟩) k.length cap, .int .i64 k.length, .bool true, u15, u16, .pointer (some ⟨w.heap.size + 1 + 1, 2, none⟩), u, .pointer (some ⟨w.heap.size, 2, none⟩), .slice (some ⟨b, off, none⟩) k.length cap, .int .i64 j, .pointer (some ⟨b, off + j * 3, none⟩), .agg #[.string o3, .string t3, .slice a3 k3.length cap3], .agg #[.string o3, .string t3, .slice a4 k3.length cap4], .slice (some ⟨w2.heap.size, 0, none⟩) 1 1, .slice (some ⟨gb, 0, none⟩) (j + 1) capr, .pointer (some ⟨w.heap.size + 1 + 1, 2, none⟩), undef], []⟩ _
            refine wpAny_ready (rs := [11]) (by kernel_rfl) (by simp) ?_
            refine AllReady.cons rfl (fun K hK => ?_) AllReady.nil
            go_simp
            refine hK _ _ ?_
            clear hK K
            change wpAny _ _ _ _ _ #[true, true, true, true, true, true, true, true, true, true, true, true] ⟨#[.agg #[.string op, .string tag, .slice (some ⟨b, off, none⟩) k.length cap], .pointer (some ⟨w.heap.size, 0, none⟩), .pointer (some ⟨w.heap.size + 1, 0, none⟩), .pointer (some ⟨w.heap.size + 1 + 1, 0, none⟩), .int .i64 j, .pointer (some ⟨w.heap.size, 0, none⟩), .string op, .pointer (some ⟨w.heap.size, 1, none⟩), .string tag, .agg #[.string op, .string tag, .slice none 0 0], .int .i64 j, .pointer (some ⟨w.heap.size, 2, none⟩), .slice (some ⟨b, off, none⟩) k.length cap, .int .i64 k.length, .bool true, u15, u16, .pointer (some ⟨w.heap.size + 1 + 1, 2, none⟩), u, .pointer (some ⟨w.heap.size, 2, none⟩), .slice (some ⟨b, off, none⟩) k.length cap, .int .i64 j, .pointer (some ⟨b, off + j * 3, none⟩), .agg #[.string o3, .string t3, .slice a3 k3.length cap3], .agg #[.string o3, .string t3, .slice a4 k3.length cap4], .slice (some ⟨w2.heap.size, 0, none⟩) 1 1, .slice (some ⟨gb, 0, none⟩) (j + 1) capr, .pointer (some ⟨w.heap.size + 1 + 1, 2, none⟩), undef], []⟩ _
            refine wpAny_done (by kernel_rfl) ?_ _
            go_wp2
            go_roundw
            case rel => exact ⟨j + 1, _, _, by go_num, by omega, by have e := HO3.out; rw [take_more hy3]; exact e⟩
            case measure => simp [intOf]; omega
          ·
            go_simp
            go_at_call 11
            refine (C3.out _ HD.out).mono ?_
            rintro e w2 ⟨hb2, u2, rfl, hx2⟩
            rw [ExtAt_eq] at hx2
            obtain ⟨a4, cap4, rfl, hl4⟩ := hx2
            refine hK _ _ ?_
            clear hK K
            change wpAny _ _ _ _ _ #[true, false, true, true, true, true, true, true, false, false, false, false] ⟨#[.agg #[.string op, .string tag, .slice (some ⟨b, off, none⟩) k.length cap], .pointer (some ⟨w.heap.size, 0, none⟩), .pointer (some ⟨w.heap.size + 1, 0, none⟩), .pointer (some ⟨w.heap.size + 1 + 1, 0, none⟩), .int .i64 j, .pointer (some ⟨w.heap.size, 0, none⟩), .string op, .pointer (some ⟨w.heap.size, 1, none⟩), .string tag, .agg #[.string op, .string tag, .slice none 0 0], .int .i64 j, .pointer (some ⟨w.heap.size, 2, none⟩), .slice (some ⟨b, off, none⟩) k.length cap, .int .i64 k.length, .bool true, u15, u16, .pointer (some ⟨w.heap.size + 1 + 1, 2, none⟩), u18, .pointer (some ⟨w.heap.size, 2, none⟩), .slice (some ⟨b, off, none⟩) k.length cap, .int .i64 j, .pointer (some ⟨b, off + j * 3, none⟩), .agg #[.string o3, .string t3, .slice a3 k3.length cap3], .agg #[.string o3, .string t3, .slice a4 k3.length cap4], u25, u26, u27, undef], []⟩ _
            have HO2 := Lib.hid (HOD.out.step hb2)
            have HL4 := Lib.hid hl4
            have HSZ := Lib.hid hb2.size
            obtain ⟨⟨g0, g1, g2⟩, -⟩ := three_cells HO2.out.h2
            clear hl4 hb2
            refine wpAny_ready (rs := [1, 8]) (by kernel_rfl) (by simp) ?_
            refine AllReady.cons rfl (fun K hK => ?_) (AllReady.cons rfl (fun K hK => ?_) (AllReady.nil))
            ·
              go_simp
              refine hK _ _ ?_
              clear hK K
              change wpAny _ _ _ _ _ #[true, true, true, true, true, true, true, true, false, false, false, false] ⟨#[.agg #[.string op, .string tag, .slice (some ⟨b, off, none⟩) k.length cap], .pointer (some ⟨w.heap.size, 0, none⟩), .pointer (some ⟨w.heap.size + 1, 0, none⟩), .pointer (some ⟨w.heap.size + 1 + 1, 0, none⟩), .int .i64 j, .pointer (some ⟨w.heap.size, 0, none⟩), .string op, .pointer (some ⟨w.heap.size, 1, none⟩), .string tag, .agg #[.string op, .string tag, .slice none 0 0], .int .i64 j, .pointer (some ⟨w.heap.size, 2, none⟩), .slice (some ⟨b, off, none⟩) k.length cap, .int .i64 k.length, .bool true, u15, u16, .pointer (some ⟨w.heap.size + 1 + 1, 2, none⟩), u, .pointer (some ⟨w.heap.size, 2, none⟩), .slice (some ⟨b, off, none⟩) k.length cap, .int .i64 j, .pointer (some ⟨b, off + j * 3, none⟩), .agg #[.string o3, .string t3, .slice a3 k3.length cap3], .agg #[.string o3, .string t3, .slice a4 k3.length cap4], u25, u26, u27, undef], []⟩ _
              refine wpAny_ready (rs := [8]) (by kernel_rfl) (by simp) ?_
              refine AllReady.cons rfl (fun K hK => ?_) (AllReady.nil)
              go_simp
              refine hK _ _ ?_
              clear hK K
              change wpAny _ _ _ _ _ #[true, true, true, true, true, true, true, true, true, false, false, false] ⟨#[.agg #[.string op, .string tag, .slice (some ⟨b, off, none⟩) k.length cap], .pointer (some ⟨w.heap.size, 0, none⟩), .pointer (some ⟨w.heap.size + 1, 0, none⟩), .pointer (some ⟨w.heap.size + 1 + 1, 0, none⟩), .int .i64 j, .pointer (some ⟨w.heap.size, 0, none⟩), .string op, .pointer (some ⟨w.heap.size, 1, none⟩), .string tag, .agg #[.string op, .string tag, .slice none 0 0], .int .i64 j, .pointer (some ⟨w.heap.size, 2, none⟩), .slice (some ⟨b, off, none⟩) k.length cap, .int .i64 k.length, .bool true, u15, u16, .pointer (some ⟨w.heap.size + 1 + 1, 2, none⟩), u, .pointer (some ⟨w.heap.size, 2, none⟩), .slice (some ⟨b, off, none⟩) k.length cap, .int .i64 j, .pointer (some ⟨b, off + j * 3, none⟩), .agg #[.string o3, .string t3, .slice a3 k3.length cap3], .agg #[.string o3, .string t3, .slice a4 k3.length cap4], .slice (some ⟨w2.heap.size, 0, none⟩) 1 1, u26, u27, undef], []⟩ _
              refine wpAny_ready (rs := [9]) (by kernel_rfl) (by simp) ?_
              refine AllReady.cons rfl (fun K hK => ?_) AllReady.nil
              refine step_app_ex rfl _ _ rfl (w.heap.size + 3) u j xs rfl (by have e := HO2.out.row; rw [HLEN.out] at e; exact e) rfl (by have := HKL.out.1; omega) (by have := lt_of_block HO2.out.h2; omega) ?_
              intro gb capr w3 hrow hg hv
              refine hK _ _ ?_
              clear hK K
              change wpAny _ _ _ _ _ #[true, true, true, true, true, true, true, true, true, true, false, false] ⟨#[.agg #[.string op, .string tag, .slice (some ⟨b, off, none⟩) k.length cap], .pointer (some ⟨w.heap.size, 0, none⟩), .pointer (some ⟨w.heap.size + 1, 0, none⟩), .pointer (some ⟨w.heap.size + 1 + 1, 0, none⟩), .int .i64 j, .pointer (some ⟨w.heap.size, 0, none⟩), .string op, .pointer (some ⟨w.heap.size, 1, none⟩), .string tag, .agg #[.string op, .string tag, .slice none 0 0], .int .i64 j, .pointer (some ⟨w.heap.size, 2, none⟩), .slice (some ⟨b, off, none⟩) k.length cap, .int .i64 k.length, .bool true, u15, u16, .pointer (some ⟨w.heap.size + 1 + 1, 2, none⟩), u, .pointer (some ⟨w.heap.size, 2, none⟩), .slice (some ⟨b, off, none⟩) k.length cap, .int .i64 j, .pointer (some ⟨b, off + j * 3, none⟩), .agg #[.string o3, .string t3, .slice a3 k3.length cap3], .agg #[.string o3, .string t3, .slice a4 k3.length cap4], .slice (some ⟨w2.heap.size, 0, none⟩) 1 1, .slice (some ⟨gb, 0, none⟩) (j + 1) capr, u27, undef], []⟩ _
              have HO3 := Lib.hid (HO2.out.more (w2 := wr.drew) HL4.out (by have := lt_of_block HOD.out.h2; omega) (fun g e => (HOD.out.row.lt g e).2) (by rw [HLEN.out]; exact hrow) hg hv)
              have hq3 := HO2.out.grown hg
              clear g0 g1 g2 hrow hg hv
              obtain ⟨⟨g0, g1, g2⟩, z0, z1, z2⟩ := three_cells hq3
              refine wpAny_take (i := 10) (v := .pointer (some ⟨w.heap.size + 1 + 1, 2, none⟩)) rfl (by kernel_rfl) (by kernel_rfl) (by kernel_rfl) (fun _ _ _ h => h) (Or.inl ⟨by rfl, ?_⟩) ?_
              · intro w
                go_simp
                try with_reducible rfl
              change wpAny _ _ _ _ _ #[true, true, true, true, true, true, true, true, true, true, true, false] ⟨#[.agg #[.string op, .string tag, .slice (some ⟨b, off, none⟩) k.length cap], .pointer (some ⟨w.heap.size, 0, none⟩), .pointer (some ⟨w.heap.size + 1, 0, none⟩), .pointer (some ⟨w.heap.size + 1 + 1, 0, none⟩), .int .i64 j, .pointer (some ⟨w.heap.size, 0, none⟩), .string op, .pointer (some ⟨w.heap.size, 1, none⟩), .string tag, .agg #[.string op, .string tag, .slice none 0 0], .int .i64 j, .pointer (some ⟨w.heap.size, 2, none⟩), .slice (some ⟨b, off, none⟩) k.length cap, .int .i64 k.length, .bool true, u15, u16, .pointer (some ⟨w.heap.size + 1 + 1, 2, none⟩), u, .pointer (some ⟨w.heap.size, 2, none⟩), .slice (some ⟨b, off, none⟩) k.length cap, .int .i64 j, .pointer (some ⟨b, off + j * 3, none⟩), .agg #[.string o3, .string t3, .slice a3 k3.length cap3], .agg #[.string o3, .string t3, .slice a4 k3.length cap4], .slice (some ⟨w2.heap.size, 0, none⟩) 1 1, .slice (some ⟨gb, 0, none⟩) (j + 1) capr, .pointer (some ⟨w.heap.size + 1 + 1, 2, none⟩), undef], []⟩ _
              refine wpAny_ready (rs := [11]) (by kernel_rfl) (by simp) ?_
              refine AllReady.cons rfl (fun K hK => ?_) AllReady.nil
              go_simp
              refine hK _ _ ?_
              clear hK K
              change wpAny _ _ _ _ _ #[true, true, true, true, true, true, true, true, true, true, true, true] ⟨#[.agg #[.string op, .string tag, .slice (some ⟨b, off, none⟩) k.length cap], .pointer (some ⟨w.heap.size, 0, none⟩), .pointer (some ⟨w.heap.size + 1, 0, none⟩), .pointer (some ⟨w.heap.size + 1 + 1, 0, none⟩), .int .i64 j, .pointer (some ⟨w.heap.size, 0, none⟩), .string op, .pointer (some ⟨w.heap.size, 1, none⟩), .string tag, .agg #[.string op, .string tag, .slice none 0 0], .int .i64 j, .pointer (some ⟨w.heap.size, 2, none⟩), .slice (some ⟨b, off, none⟩) k.length cap, .int .i64 k.length, .bool true, u15, u16, .pointer (some ⟨w.heap.size + 1 + 1, 2, none⟩), u, .pointer (some ⟨w.heap.size, 2, none⟩), .slice (some ⟨b, off, none⟩) k.length cap, .int .i64 j, .pointer (some ⟨b, off + j * 3, none⟩), .agg #[.string o3, .string t3, .slice a3 k3.length cap3], .agg #[.string o3, .string t3, .slice a4 k3.length cap4], .slice (some ⟨w2.heap.size, 0, none⟩) 1 1, .slice (some ⟨gb, 0, none⟩) (j + 1) capr, .pointer (some ⟨w.heap.size + 1 + 1, 2, none⟩), undef], []⟩ _
              refine wpAny_done (by kernel_rfl) ?_ _
              go_wp2
              go_roundw
              case rel => exact ⟨j + 1, _, _, by go_num, by omega, by have e := HO3.out; rw [take_more hy3]; exact e⟩
              case measure => simp [intOf]; omega
            ·
              go_simp
              refine hK _ _ ?_
              clear hK K
              change wpAny _ _ _ _ _ #[true, false, true, true, true, true, true, true, true, false, false, false] ⟨#[.agg #[.string op, .string tag, .slice (some ⟨b, off, none⟩) k.length cap], .pointer (some ⟨w.heap.size, 0, none⟩), .pointer (some ⟨w.heap.size + 1, 0, none⟩), .pointer (some ⟨w.heap.size + 1 + 1, 0, none⟩), .int .i64 j, .pointer (some ⟨w.heap.size, 0, none⟩), .string op, .pointer (some ⟨w.heap.size, 1, none⟩), .string tag, .agg #[.string op, .string tag, .slice none 0 0], .int .i64 j, .pointer (some ⟨w.heap.size, 2, none⟩), .slice (some ⟨b, off, none⟩) k.length cap, .int .i64 k.length, .bool true, u15, u16, .pointer (some ⟨w.heap.size + 1 + 1, 2, none⟩), u18, .pointer (some ⟨w.heap.size, 2, none⟩), .slice (some ⟨b, off, none⟩) k.length cap, .int .i64 j, .pointer (some ⟨b, off + j * 3, none⟩), .agg #[.string o3, .string t3, .slice a3 k3.length cap3], .agg #[.string o3, .string t3, .slice a4 k3.length cap4], .slice (some ⟨w2.heap.size, 0, none⟩) 1 1, u26, u27, undef], []⟩ _
              have g2' := (heap_alloc_old w2 (.cells #[.string o3, .string t3, .slice a4 k3.length cap4] 29) (lt_of_block HO2.out.h2)).trans HO2.out.h2
              obtain ⟨⟨g0, g1, g2⟩, -⟩ := three_cells g2'
              refine wpAny_ready (rs := [1]) (by kernel_rfl) (by simp) ?_
              refine AllReady.cons rfl (fun K hK => ?_) (AllReady.nil)
              go_simp
              refine hK _ _ ?_
              clear hK K
              change wpAny _ _ _ _ _ #[true, true, true, true, true, true, true, true, true, false, false, false] ⟨#[.agg #[.string op, .string tag, .slice (some ⟨b, off, none⟩) k.length cap], .pointer (some ⟨w.heap.size, 0, none⟩), .pointer (some ⟨w.heap.size + 1, 0, none⟩), .pointer (some ⟨w.heap.size + 1 + 1, 0, none⟩), .int .i64 j, .pointer (some ⟨w.heap.size, 0, none⟩), .string op, .pointer (some ⟨w.heap.size, 1, none⟩), .string tag, .agg #[.string op, .string tag, .slice none 0 0], .int .i64 j, .pointer (some ⟨w.heap.size, 2, none⟩), .slice (some ⟨b, off, none⟩) k.length cap, .int .i64 k.length, .bool true, u15, u16, .pointer (some ⟨w.heap.size + 1 + 1, 2, none⟩), u, .pointer (some ⟨w.heap.size, 2, none⟩), .slice (some ⟨b, off, none⟩) k.length cap, .int .i64 j, .pointer (some ⟨b, off + j * 3, none⟩), .agg #[.string o3, .string t3, .slice a3 k3.length cap3], .agg #[.string o3, .string t3, .slice a4 k3.length cap4], .slice (some ⟨w2.heap.size, 0, none⟩) 1 1, u26, u27, undef], []⟩ _
              refine wpAny_ready (rs := [9]) (by kernel_rfl) (by simp) ?_
              refine AllReady.cons rfl (fun K hK => ?_) AllReady.nil
              refine step_app_ex rfl _ _ rfl (w.heap.size + 3) u j xs rfl (by have e := HO2.out.row; rw [HLEN.out] at e; exact e) rfl (by have := HKL.out.1; omega) (by have := lt_of_block HO2.out.h2; omega) ?_
              intro gb capr w3 hrow hg hv
              refine hK _ _ ?_
              clear hK K
              change wpAny _ _ _ _ _ #[true, true, true, true, true, true, true, true, true, true, false, false] ⟨#[.agg #[.string op, .string tag, .slice (some ⟨b, off, none⟩) k.length cap], .pointer (some ⟨w.heap.size, 0, none⟩), .pointer (some ⟨w.heap.size + 1, 0, none⟩), .pointer (some ⟨w.heap.size + 1 + 1, 0, none⟩), .int .i64 j, .pointer (some ⟨w.heap.size, 0, none⟩), .string op, .pointer (some ⟨w.heap.size, 1, none⟩), .string tag, .agg #[.string op, .string tag, .slice none 0 0], .int .i64 j, .pointer (some ⟨w.heap.size, 2, none⟩), .slice (some ⟨b, off, none⟩) k.length cap, .int .i64 k.length, .bool true, u15, u16, .pointer (some ⟨w.heap.size + 1 + 1, 2, none⟩), u, .pointer (some ⟨w.heap.size, 2, none⟩), .slice (some ⟨b, off, none⟩) k.length cap, .int .i64 j, .pointer (some ⟨b, off + j * 3, none⟩), .agg #[.string o3, .string t3, .slice a3 k3.length cap3], .agg #[.string o3, .string t3, .slice a4 k3.length cap4], .slice (some ⟨w2.heap.size, 0, none⟩) 1 1, .slice (some ⟨gb, 0, none⟩) (j + 1) capr, u27, undef], []⟩ _
              have HO3 := Lib.hid (HO2.out.more (w2 := wr.drew) HL4.out (by have := lt_of_block HOD.out.h2; omega) (fun g e => (HOD.out.row.lt g e).2) (by rw [HLEN.out]; exact hrow) hg hv)
              have hq3 := HO2.out.grown hg
              clear g0 g1 g2 hrow hg hv
              obtain ⟨⟨g0, g1, g2⟩, z0, z1, z2⟩ := three_cells hq3
              refine wpAny_take (i := 10) (v := .pointer (some ⟨w.heap.size + 1 + 1, 2, none⟩)) rfl (by kernel_rfl) (by kernel_rfl) (by kernel_rfl) (fun _ _ _ h => h) (Or.inl ⟨by rfl, ?_⟩) ?_
              · intro w
                go_simp
                try with_reducible rfl
              change wpAny _ _ _ _ _ #[true, true, true, true, true, true, true, true, true, true, true, false] ⟨#[.agg #[.string op, .string tag, .slice (some ⟨b, off, none⟩) k.length cap], .pointer (some ⟨w.heap.size, 0, none⟩), .pointer (some ⟨w.heap.size + 1, 0, none⟩), .pointer (some ⟨w.heap.size + 1 + 1, 0, none⟩), .int .i64 j, .pointer (some ⟨w.heap.size, 0, none⟩), .string op, .pointer (some ⟨w.heap.size, 1, none⟩), .string tag, .agg #[.string op, .string tag, .slice none 0 0], .int .i64 j, .pointer (some ⟨w.heap.size, 2, none⟩), .slice (some ⟨b, off, none⟩) k.length cap, .int .i64 k.length, .bool true, u15, u16, .pointer (some ⟨w.heap.size + 1 + 1, 2, none⟩), u, .pointer (some ⟨w.heap.size, 2, none⟩), .slice (some ⟨b, off, none⟩) k.length cap, .int .i64 j, .pointer (some ⟨b, off + j * 3, none⟩), .agg #[.string o3, .string t3, .slice a3 k3.length cap3], .agg #[.string o3, .string t3, .slice a4 k3.length cap4], .slice (some ⟨w2.heap.size, 0, none⟩) 1 1, .slice (some ⟨gb, 0, none⟩) (j + 1) capr, .pointer (some ⟨w.heap.size + 1 + 1, 2, none⟩), undef], []⟩ _
              refine wpAny_ready (rs := [11]) (by kernel_rfl) (by simp) ?_
              refine AllReady.cons rfl (fun K hK => ?_) AllReady.nil
              go_simp
              refine hK _ _ ?_
              clear hK K
              change wpAny _ _ _ _ _ #[true, true, true, true, true, true, true, true, true, true, true, true] ⟨#[.agg #[.string op, .string tag, .slice (some ⟨b, off, none⟩) k.length cap], .pointer (some ⟨w.heap.size, 0, none⟩), .pointer (some ⟨w.heap.size + 1, 0, none⟩), .pointer (some ⟨w.heap.size + 1 + 1, 0, none⟩), .int .i64 j, .pointer (some ⟨w.heap.size, 0, none⟩), .string op, .pointer (some ⟨w.heap.size, 1, none⟩), .string tag, .agg #[.string op, .string tag, .slice none 0 0], .int .i64 j, .pointer (some ⟨w.heap.size, 2, none⟩), .slice (some ⟨b, off, none⟩) k.length cap, .int .i64 k.length, .bool true, u15, u16, .pointer (some ⟨w.heap.size + 1 + 1, 2, none⟩), u, .pointer (some ⟨w.heap.size, 2, none⟩), .slice (some ⟨b, off, none⟩) k.length cap, .int .i64 j, .pointer (some ⟨b, off + j * 3, none⟩), .agg #[.string o3, .string t3, .slice a3 k3.length cap3], .agg #[.string o3, .string t3, .slice a4 k3.length cap4], .slice (some ⟨w2.heap.size, 0, none⟩) 1 1, .slice (some ⟨gb, 0, none⟩) (j + 1) capr, .pointer (some ⟨w.heap.size + 1 + 1, 2, none⟩), undef], []⟩ _
              refine wpAny_done (by kernel_rfl) ?_ _
              go_wp2
              go_roundw
              case rel => exact ⟨j + 1, _, _, by go_num, by omega, by have e := HO3.out; rw [take_more hy3]; exact e⟩
              case measure => simp [intOf]; omega
    · have gl : decide ((j : Int) < (k.length : Int)) = false := by simp; omega
      have hjk : j = k.length := by omega
      subst hjk
      have ho := HO.out
      rw [List.take_length] at ho
      obtain ⟨a', cap', rfl, hE⟩ := ho.fin
      obtain ⟨⟨q0, q1, q2⟩, z0, z1, z2⟩ := three_cells ho.h1
      have HQ := Lib.hid (three_set (a := .string op) (b := .string tag) (c := .slice a' k.length cap') ho.h1)
      have HB := Lib.hid (((ho.below.setCell (p := ⟨w.heap.size + 1, 0, none⟩) (by show w.heap.size ≤ w.heap.size + 1; omega) (.string op)).setCell (p := ⟨w.heap.size + 1, 1, none⟩) (by show w.heap.size ≤ w.heap.size + 1; omega) (.string tag)).setCell (p := ⟨w.heap.size + 1, 2, none⟩) (by show w.heap.size ≤ w.heap.size + 1; omega) (.slice a' k.length cap'))
      have HE := Lib.hid (ExtK.moves (w' := ((wr.setCell ⟨w.heap.size + 1, 0, none⟩ (.string op)).setCell ⟨w.heap.size + 1, 1, none⟩ (.string tag)).setCell ⟨w.heap.size + 1, 2, none⟩ (.slice a' k.length cap')) (ok' := fun i => w.heap.size ≤ i) (fun i hi hok => by
        have hok' : w.heap.size + 3 ≤ i := hok
        refine ⟨by omega, ?_⟩
        rw [Below.heap_setCell _ _ _ _ (by show i ≠ w.heap.size + 1; omega), Below.heap_setCell _ _ _ _ (by show i ≠ w.heap.size + 1; omega), Below.heap_setCell _ _ _ _ (by show i ≠ w.heap.size + 1; omega)]) _ _ _ hE)
      clear ho hE HO
      go_wp2
      refine bodyPost_ret (ex_results _ _ rfl _ _ _ _ _ _ rfl HQ.out) rfl ?_
      refine ⟨HB.out, _, rfl, ?_⟩
      rw [ExtAt_eq]
      exact ⟨a', cap', rfl, HE.out⟩
theorem of_all : ∀ n, OfOk n
  | 0 => by
    intro x v w ok hb
    obtain ⟨op, tag, k⟩ := x
    rw [bulkE] at hb
    omega
  | n + 1 => of_step n (of_all n)
theorem of_any (x : Ex) (v : Value) (w : World) (ok : Nat → Prop) (hb : bulkE x ≤ 1048576) (hx : ExtAt w ok x v) : Calls Tryd.prog 11 #[v] w fun e w' => Below w.heap.size w w' ∧ ∃ u, e = .returned u ∧ ExtAt w' (fun k => w.heap.size ≤ k) x u := of_all _ x v w ok hb (Nat.le_refl _) hx
end Go.Proofs.YtojdhlmmnhjolaaDoor
