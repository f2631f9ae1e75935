/- TagTurns: not, both, one, as they hold (made by tools/gentag26.py). -/
import Derived.Test.YtojdhlmmnhjolaaDoorTag20
import Derived.Test.YtojdhlmmnhjolaaDoorTagU
import Derived.Test.YtojdhlmmnhjolaaDoorTagF
import Derived.Test.YtojdhlmmnhjolaaDoorTagT
import Derived.Test.YtojdhlmmnhjolaaDoorInv
namespace Go.Proofs.YtojdhlmmnhjolaaDoor
open Go.RowKit
set_option linter.unusedVariables false

def ze3 : Obj := .cells #[.string ⟨#[]⟩, .string ⟨#[]⟩, .slice none 0 0] 29
def okT (b4 b5 : Bool) (s7 s8 : Value) : Nat → Prop := fun i => (b4 = true → s7 ≠ .pointer (some ⟨i, 0, none⟩)) ∧ (b5 = true → s8 ≠ .pointer (some ⟨i, 0, none⟩))
/-- What lies in memory while both constraints are made, whatever has come up so far. -/
structure T3 (w3 : World) (X Y : Value) (op tag : ByteArray) (k : List Ex) (op' tag' : ByteArray) (k' : List Ex) (b0 b1 b2 b3 b4 b5 : Bool) (s27 s28 s29 s30 s7 s8 : Value) (W : World) : Prop where
  below : Below w3.heap.size w3 W
  f0 : b0 = true → s27 = X
  f2 : b2 = true → s29 = Y
  f1 : b1 = true → ∃ e c, s28 = .agg #[.string op, .string tag, .slice e k.length c] ∧ ExtK W (okT b4 b5 s7 s8) k e c
  f3 : b3 = true → ∃ e c, s30 = .agg #[.string op', .string tag', .slice e k'.length c] ∧ ExtK W (okT b4 b5 s7 s8) k' e c
  f4 : b4 = true → ∃ g, s7 = .pointer (some ⟨g, 0, none⟩) ∧ w3.heap.size ≤ g ∧ W.heap[g]? = some ze3
  f5 : b5 = true → ∃ g, s8 = .pointer (some ⟨g, 0, none⟩) ∧ w3.heap.size ≤ g ∧ W.heap[g]? = some ze3
  f45 : b4 = true → b5 = true → s7 ≠ s8
  f32 : b3 = true → b2 = true
section
variable {w3 : World} {X Y : Value} {op tag : ByteArray} {k : List Ex} {op' tag' : ByteArray} {k' : List Ex} {b0 b1 b2 b3 b4 b5 : Bool} {s27 s28 s29 s30 s7 s8 : Value} {W W' : World}
theorem ptr_ne {a i : Nat} (h : a ≠ i) : (Value.pointer (some ⟨a, 0, none⟩)) ≠ .pointer (some ⟨i, 0, none⟩) := by
  intro e
  injection e with e
  injection e with e
  injection e with e _ _
  exact h e
theorem T3.step (h : T3 w3 X Y op tag k op' tag' k' b0 b1 b2 b3 b4 b5 s27 s28 s29 s30 s7 s8 W) (hb : Below W.heap.size W W') : T3 w3 X Y op tag k op' tag' k' b0 b1 b2 b3 b4 b5 s27 s28 s29 s30 s7 s8 W' := by
  refine ⟨h.below.trans (hb.mono h.below.size), h.f0, h.f2, fun e => ?_, fun e => ?_, fun e => ?_, fun e => ?_, h.f45, h.f32⟩
  · obtain ⟨e1, c1, h1, h2⟩ := h.f1 e
    exact ⟨e1, c1, h1, h2.below hb⟩
  · obtain ⟨e1, c1, h1, h2⟩ := h.f3 e
    exact ⟨e1, c1, h1, h2.below hb⟩
  · obtain ⟨g, h1, h2, h3⟩ := h.f4 e
    exact ⟨g, h1, h2, (hb.block _ (lt_of_block h3)).trans h3⟩
  · obtain ⟨g, h1, h2, h3⟩ := h.f5 e
    exact ⟨g, h1, h2, (hb.block _ (lt_of_block h3)).trans h3⟩
theorem T3.load0 (h : T3 w3 X Y op tag k op' tag' k' b0 b1 b2 b3 b4 b5 s27 s28 s29 s30 s7 s8 W) : T3 w3 X Y op tag k op' tag' k' true b1 b2 b3 b4 b5 X s28 s29 s30 s7 s8 W := ⟨h.below, fun _ => rfl, h.f2, h.f1, h.f3, h.f4, h.f5, h.f45, h.f32⟩
theorem T3.load2 (h : T3 w3 X Y op tag k op' tag' k' b0 b1 b2 b3 b4 b5 s27 s28 s29 s30 s7 s8 W) : T3 w3 X Y op tag k op' tag' k' b0 b1 true b3 b4 b5 s27 s28 Y s30 s7 s8 W := ⟨h.below, h.f0, fun _ => rfl, h.f1, h.f3, h.f4, h.f5, h.f45, fun _ => rfl⟩
theorem T3.fresh (h : T3 w3 X Y op tag k op' tag' k' b0 b1 b2 b3 b4 b5 s27 s28 s29 s30 s7 s8 W) {l : List Ex} {e : Option Addr} {c : Nat} (hx : ExtK W' (fun i => W.heap.size ≤ i) l e c) : ExtK W' (okT b4 b5 s7 s8) l e c := by
  refine ExtK.moves (fun i _ hi => ⟨⟨fun e4 => ?_, fun e5 => ?_⟩, rfl⟩) _ _ _ hx
  · obtain ⟨g, h1, h2, h3⟩ := h.f4 e4
    rw [h1]
    have hlt := lt_of_block h3
    have hi' : W.heap.size ≤ i := hi
    exact ptr_ne (by omega)
  · obtain ⟨g, h1, h2, h3⟩ := h.f5 e5
    rw [h1]
    have hlt := lt_of_block h3
    have hi' : W.heap.size ≤ i := hi
    exact ptr_ne (by omega)
theorem T3.of1 (h : T3 w3 X Y op tag k op' tag' k' b0 b1 b2 b3 b4 b5 s27 s28 s29 s30 s7 s8 W) (hb : Below W.heap.size W W') {e : Option Addr} {c : Nat} (hx : ExtK W' (fun i => W.heap.size ≤ i) k e c) : T3 w3 X Y op tag k op' tag' k' b0 true b2 b3 b4 b5 s27 (.agg #[.string op, .string tag, .slice e k.length c]) s29 s30 s7 s8 W' := by
  have hs := h.step hb
  exact ⟨hs.below, hs.f0, hs.f2, fun _ => ⟨e, c, rfl, h.fresh hx⟩, hs.f3, hs.f4, hs.f5, hs.f45, hs.f32⟩
theorem T3.of3 (h : T3 w3 X Y op tag k op' tag' k' b0 b1 true b3 b4 b5 s27 s28 s29 s30 s7 s8 W) (hb : Below W.heap.size W W') {e : Option Addr} {c : Nat} (hx : ExtK W' (fun i => W.heap.size ≤ i) k' e c) : T3 w3 X Y op tag k op' tag' k' b0 b1 true true b4 b5 s27 s28 s29 (.agg #[.string op', .string tag', .slice e k'.length c]) s7 s8 W' := by
  have hs := h.step hb
  exact ⟨hs.below, hs.f0, hs.f2, hs.f1, fun _ => ⟨e, c, rfl, h.fresh hx⟩, hs.f4, hs.f5, hs.f45, fun _ => rfl⟩
theorem below_ze (W : World) : Below W.heap.size W (W.alloc ze3) := (Below.refl W.heap.size W).alloc (Nat.le_refl _) ze3
theorem T3.alloc4 (h : T3 w3 X Y op tag k op' tag' k' b0 b1 b2 b3 false b5 s27 s28 s29 s30 s7 s8 W) : T3 w3 X Y op tag k op' tag' k' b0 b1 b2 b3 true b5 s27 s28 s29 s30 (.pointer (some ⟨W.heap.size, 0, none⟩)) s8 (W.alloc ze3) := by
  have hs := h.step (below_ze W)
  have hm : Moves W (W.alloc ze3) (okT false b5 s7 s8) (okT true b5 (.pointer (some ⟨W.heap.size, 0, none⟩)) s8) := fun i hi hok => ⟨⟨fun _ => ptr_ne (by omega), hok.2⟩, heap_alloc_old _ _ hi⟩
  refine ⟨hs.below, hs.f0, hs.f2, fun e => ?_, fun e => ?_, fun _ => ⟨_, rfl, h.below.size, heap_alloc_new _ _⟩, hs.f5, fun _ e5 => ?_, hs.f32⟩
  · obtain ⟨e1, c1, h1, h2⟩ := h.f1 e
    exact ⟨e1, c1, h1, ExtK.moves hm _ _ _ h2⟩
  · obtain ⟨e1, c1, h1, h2⟩ := h.f3 e
    exact ⟨e1, c1, h1, ExtK.moves hm _ _ _ h2⟩
  · obtain ⟨g, h1, h2, h3⟩ := h.f5 e5
    have hlt := lt_of_block h3
    rw [h1]
    exact ptr_ne (by omega)
theorem T3.alloc5 (h : T3 w3 X Y op tag k op' tag' k' b0 b1 b2 b3 b4 false s27 s28 s29 s30 s7 s8 W) : T3 w3 X Y op tag k op' tag' k' b0 b1 b2 b3 b4 true s27 s28 s29 s30 s7 (.pointer (some ⟨W.heap.size, 0, none⟩)) (W.alloc ze3) := by
  have hs := h.step (below_ze W)
  have hm : Moves W (W.alloc ze3) (okT b4 false s7 s8) (okT b4 true s7 (.pointer (some ⟨W.heap.size, 0, none⟩))) := fun i hi hok => ⟨⟨hok.1, fun _ => ptr_ne (by omega)⟩, heap_alloc_old _ _ hi⟩
  refine ⟨hs.below, hs.f0, hs.f2, fun e => ?_, fun e => ?_, hs.f4, fun _ => ⟨_, rfl, h.below.size, heap_alloc_new _ _⟩, fun e4 _ => ?_, hs.f32⟩
  · obtain ⟨e1, c1, h1, h2⟩ := h.f1 e
    exact ⟨e1, c1, h1, ExtK.moves hm _ _ _ h2⟩
  · obtain ⟨e1, c1, h1, h2⟩ := h.f3 e
    exact ⟨e1, c1, h1, ExtK.moves hm _ _ _ h2⟩
  · obtain ⟨g, h1, h2, h3⟩ := h.f4 e4
    have hlt := lt_of_block h3
    rw [h1]
    exact ptr_ne (by omega)
def set3 (W : World) (g : Nat) (x y z : Value) : World := ((W.setCell ⟨g, 0, none⟩ x).setCell ⟨g, 1, none⟩ y).setCell ⟨g, 2, none⟩ z
theorem set3_other (W : World) (g : Nat) (x y z : Value) {i : Nat} (h : i ≠ g) : (set3 W g x y z).heap[i]? = W.heap[i]? :=
  ((Below.heap_setCell _ ⟨g, 2, none⟩ _ i (by exact h)).trans (Below.heap_setCell _ ⟨g, 1, none⟩ _ i (by exact h))).trans (Below.heap_setCell _ ⟨g, 0, none⟩ _ i (by exact h))
theorem T3.fin (h : T3 w3 X Y op tag k op' tag' k' true true true true true true s27 s28 s29 s30 s7 s8 W) : ∃ g g' e c e' c', s7 = .pointer (some ⟨g, 0, none⟩) ∧ s8 = .pointer (some ⟨g', 0, none⟩) ∧ g ≠ g' ∧ s28 = .agg #[.string op, .string tag, .slice e k.length c] ∧ s30 = .agg #[.string op', .string tag', .slice e' k'.length c'] ∧
    Hid (W.heap[g]? = some ze3) ∧ Hid (W.heap[g']? = some ze3) ∧ ∀ Z, Z = set3 (set3 W g (.string op) (.string tag) (.slice e k.length c)) g' (.string op') (.string tag') (.slice e' k'.length c') →
      Below w3.heap.size w3 Z ∧ Z.heap[g]? = some (.cells #[.string op, .string tag, .slice e k.length c] 29 (0, 0)) ∧ Z.heap[g']? = some (.cells #[.string op', .string tag', .slice e' k'.length c'] 29 (0, 0)) ∧
      ExtK Z (fun _ => True) k e c ∧ ExtK Z (fun _ => True) k' e' c' := by
  obtain ⟨g, rfl, hg, hq⟩ := h.f4 rfl
  obtain ⟨g', rfl, hg', hq'⟩ := h.f5 rfl
  obtain ⟨e, c, rfl, hx⟩ := h.f1 rfl
  obtain ⟨e', c', rfl, hx'⟩ := h.f3 rfl
  have hne : g ≠ g' := fun e => h.f45 rfl rfl (by rw [e])
  refine ⟨g, g', e, c, e', c', rfl, rfl, hne, rfl, rfl, hq, hq', fun Z hZ => ?_⟩
  subst hZ
  have hoth : ∀ i, i ≠ g → i ≠ g' → (set3 (set3 W g (.string op) (.string tag) (.slice e k.length c)) g' (.string op') (.string tag') (.slice e' k'.length c')).heap[i]? = W.heap[i]? := fun i h1 h2 => (set3_other _ _ _ _ _ h2).trans (set3_other _ _ _ _ _ h1)
  have hm : Moves W (set3 (set3 W g (.string op) (.string tag) (.slice e k.length c)) g' (.string op') (.string tag') (.slice e' k'.length c')) (okT true true (.pointer (some ⟨g, 0, none⟩)) (.pointer (some ⟨g', 0, none⟩))) (fun _ => True) := fun i _ hok => ⟨trivial, hoth i (fun e => hok.1 rfl (by rw [e])) (fun e => hok.2 rfl (by rw [e]))⟩
  refine ⟨?_, ?_, ?_, ExtK.moves hm _ _ _ hx, ExtK.moves hm _ _ _ hx'⟩
  · exact ((((((h.below.setCell (p := ⟨g, 0, none⟩) hg _).setCell (p := ⟨g, 1, none⟩) hg _).setCell (p := ⟨g, 2, none⟩) hg _).setCell (p := ⟨g', 0, none⟩) hg' _).setCell (p := ⟨g', 1, none⟩) hg' _).setCell (p := ⟨g', 2, none⟩) hg' _)
  · exact (set3_other _ _ _ _ _ hne).trans (three_set hq)
  · exact three_set ((set3_other _ _ _ _ _ hne.symm).trans hq')
end

theorem laid2 (Z : World) (o1 o2 : Obj) : ((Z.alloc o1).alloc o2).heap[Z.heap.size]? = some o1 ∧ ((Z.alloc o1).alloc o2).heap[Z.heap.size + 1]? = some o2 ∧ (∀ (i : Nat) (X : Obj), Z.heap[i]? = some X → ((Z.alloc o1).alloc o2).heap[i]? = some X) ∧ Below Z.heap.size Z ((Z.alloc o1).alloc o2) ∧ ((Z.alloc o1).alloc o2).heap.size = Z.heap.size + 1 + 1 := by
  have s1 : (Z.alloc o1).heap.size = Z.heap.size + 1 := by simp
  refine ⟨(heap_alloc_old _ _ (by omega)).trans (heap_alloc_new Z o1), ?_, fun i X h => ?_, ((Below.refl _ Z).alloc (Nat.le_refl _) _).alloc (by omega) _, by simp⟩
  · rw [← s1]
    exact heap_alloc_new _ _
  · have hlt := lt_of_block h
    exact (heap_alloc_old _ _ (by omega)).trans ((heap_alloc_old _ _ hlt).trans h)
theorem ext_one {F : World} {r : Nat} {o t : ByteArray} {k : List Ex} {e : Option Addr} {c : Nat} (h : F.heap[r]? = some (.cells #[.string o, .string t, .slice e k.length c] 29 (0, 0))) (hx : ExtK F (fun _ => True) k e c) : ExtK F (fun _ => True) [.mk o t k] (some ⟨r, 0, none⟩) 1 := by
  obtain ⟨⟨c0, c1, c2⟩, -⟩ := three_cells h
  refine ⟨?_, Nat.le_refl _⟩
  rw [ExtL, ExtL]
  exact ⟨⟨r, 0, _, _, _, rfl, trivial, c0, c1, c2, by rw [ExtAt_eq]; exact ⟨e, c, rfl, hx⟩⟩, trivial⟩
theorem ext_two {F : World} {r : Nat} {o t o' t' : ByteArray} {k k' : List Ex} {e e' : Option Addr} {c c' : Nat} (h : F.heap[r]? = some (.cells #[.string o, .string t, .slice e k.length c, .string o', .string t', .slice e' k'.length c'] 29 (0, 0))) (hx : ExtK F (fun _ => True) k e c) (hx' : ExtK F (fun _ => True) k' e' c') : ExtK F (fun _ => True) [.mk o t k, .mk o' t' k'] (some ⟨r, 0, none⟩) 2 := by
  refine ⟨?_, Nat.le_refl _⟩
  rw [ExtL, ExtL, ExtL]
  have hc : ∀ j : Nat, F.cell? ⟨r, j, none⟩ = #[Value.string o, .string t, .slice e k.length c, .string o', .string t', .slice e' k'.length c'][j]? := fun j => by simp [World.cell?, h]
  exact ⟨⟨r, 0, _, _, _, rfl, trivial, hc 0, hc 1, hc 2, by rw [ExtAt_eq]; exact ⟨e, c, rfl, hx⟩⟩, ⟨r, 0, _, _, _, rfl, trivial, hc 3, hc 4, hc 5, by rw [ExtAt_eq]; exact ⟨e', c', rfl, hx'⟩⟩, trivial⟩

set_option maxRecDepth 100000 in
theorem turns_long (x : Ex) (v : Value) (w : World) (ok : Nat → Prop) (hb : bulkE x ≤ 1048576) (hx : ExtAt w ok x v) (y : Ex) (v' : Value) (ok' : Nat → Prop) (hb' : bulkE y ≤ 1048576) (hx' : ExtAt w ok' y v') (a : Option Addr) (n cap : Nat) (hl : 100 < nodesE x ∨ (nodesE x ≤ 100 ∧ 100 < nodesE y) ∨ (nodesE x ≤ 100 ∧ nodesE y ≤ 100 ∧ 20 < n)) :
    Calls Tryd.prog 5 #[v, v', .slice a n cap] w fun e w' => e = .returned (.bool true) ∧ Below w.heap.size w w' := by
  obtain ⟨op, tag, k⟩ := x
  obtain ⟨op', tag', k'⟩ := y
  have hxx := hx
  have hxx' := hx'
  rw [ExtAt_eq] at hxx hxx'
  obtain ⟨b, c, rfl, hk⟩ := hxx
  obtain ⟨b', c', rfl, hk'⟩ := hxx'
  have hW1 := (Below.refl w.heap.size w).alloc (Nat.le_refl _) (.cells #[.string op, .string tag, .slice b k.length c] 24)
  have hW2 := hW1.alloc hW1.size (.cells #[.string op', .string tag', .slice b' k'.length c'] 24)
  have hs1 : (w.alloc (.cells #[.string op, .string tag, .slice b k.length c] 24)).heap.size = w.heap.size + 1 := by simp
  have hq := (heap_alloc_old _ (.cells #[.string op', .string tag', .slice b' k'.length c'] 24) (by omega)).trans (heap_alloc_new w (.cells #[.string op, .string tag, .slice b k.length c] 24))
  have hq' := heap_alloc_new (w.alloc (.cells #[.string op, .string tag, .slice b k.length c] 24)) (.cells #[.string op', .string tag', .slice b' k'.length c'] 24)
  rw [hs1] at hq'
  obtain ⟨⟨d0, d1, d2⟩, -⟩ := three_cells hq
  obtain ⟨⟨d0', d1', d2'⟩, -⟩ := three_cells hq'
  have CS := Lib.hid (fun W (h : Below w.heap.size w W) => size_any (.mk op tag k) (.agg #[.string op, .string tag, .slice b k.length c]) W ok hb (by rw [ExtAt_eq]; exact ⟨b, c, rfl, hk.below h⟩))
  have CS' := Lib.hid (fun W (h : Below w.heap.size w W) => size_any (.mk op' tag' k') (.agg #[.string op', .string tag', .slice b' k'.length c']) W ok' hb' (by rw [ExtAt_eq]; exact ⟨b', c', rfl, hk'.below h⟩))
  have HW1 := Lib.hid hW2
  have HQ := Lib.hid hq
  have HQ' := Lib.hid hq'
  clear hW1 hW2 hx hk hb hq hx' hk' hb' hq' hs1
  generalize nodesE (.mk op tag k) = q at *
  generalize nodesE (.mk op' tag' k') = q' at *
  rcases hl with h1 | ⟨h1, h2⟩ | ⟨h1, h2, h3⟩
  · have g1 : decide ((100 : Int) < (q : Int)) = true := by simp; omega
    go_enter Tryd.func5, Tryd.ntmps5
    go_wp2_with fail
    refine (CS.out _ HW1.out).mono ?_
    rintro e w2 ⟨rfl, hb2⟩
    go_wp2
    go_ret
    exact ⟨rfl, HW1.out.trans (hb2.mono HW1.out.size)⟩
  · have g1 : decide ((100 : Int) < (q : Int)) = false := by simp; omega
    have g2 : decide ((100 : Int) < (q' : Int)) = true := by simp; omega
    go_enter Tryd.func5, Tryd.ntmps5
    go_wp2_with fail
    refine (CS.out _ HW1.out).mono ?_
    rintro e w2 ⟨rfl, hb2⟩
    have HB2 := Lib.hid (HW1.out.trans (hb2.mono HW1.out.size))
    obtain ⟨⟨f0, f1, f2⟩, -⟩ := three_cells ((hb2.block _ (lt_of_block HQ'.out)).trans HQ'.out)
    clear d0 d1 d2 d0' d1' d2' hb2
    go_wp2_with fail
    refine (CS'.out _ HB2.out).mono ?_
    rintro e w3 ⟨rfl, hb3⟩
    go_wp2
    go_ret
    exact ⟨rfl, HB2.out.trans (hb3.mono HB2.out.size)⟩
  · have g1 : decide ((100 : Int) < (q : Int)) = false := by simp; omega
    have g2 : decide ((100 : Int) < (q' : Int)) = false := by simp; omega
    have g3 : decide ((20 : Int) < (n : Int)) = true := by simp; omega
    go_enter Tryd.func5, Tryd.ntmps5
    go_wp2_with fail
    refine (CS.out _ HW1.out).mono ?_
    rintro e w2 ⟨rfl, hb2⟩
    have HB2 := Lib.hid (HW1.out.trans (hb2.mono HW1.out.size))
    obtain ⟨⟨f0, f1, f2⟩, -⟩ := three_cells ((hb2.block _ (lt_of_block HQ'.out)).trans HQ'.out)
    clear d0 d1 d2 d0' d1' d2' hb2
    go_wp2_with fail
    refine (CS'.out _ HB2.out).mono ?_
    rintro e w3 ⟨rfl, hb3⟩
    go_wp2
    go_ret
    exact ⟨rfl, HB2.out.trans (hb3.mono HB2.out.size)⟩

set_option maxHeartbeats 16000000 in
set_option maxRecDepth 100000 in
theorem turns_go (x : Ex) (v : Value) (w : World) (ok : Nat → Prop) (hb : bulkE x ≤ 1048576) (hx : ExtAt w ok x v) (y : Ex) (v' : Value) (ok' : Nat → Prop) (hb' : bulkE y ≤ 1048576) (hx' : ExtAt w ok' y v') (a : Option Addr) (n cap : Nat) (zs : List ByteArray) (hz : TagRow w a n zs) (h1 : nodesE x ≤ 100) (h1' : nodesE y ≤ 100) (h2 : n ≤ 20) :
    Calls Tryd.prog 5 #[v, v', .slice a n cap] w fun e w' => e = .returned (.bool true) ∧ Below w.heap.size w w' := by
  obtain ⟨op, tag, k⟩ := x
  obtain ⟨op', tag', k'⟩ := y
  have hxx := hx
  have hxx' := hx'
  rw [ExtAt_eq] at hxx hxx'
  obtain ⟨b, c, rfl, hk⟩ := hxx
  obtain ⟨b', c', rfl, hk'⟩ := hxx'
  have hW1 := (Below.refl w.heap.size w).alloc (Nat.le_refl _) (.cells #[.string op, .string tag, .slice b k.length c] 24)
  have hW2 := hW1.alloc hW1.size (.cells #[.string op', .string tag', .slice b' k'.length c'] 24)
  have hs1 : (w.alloc (.cells #[.string op, .string tag, .slice b k.length c] 24)).heap.size = w.heap.size + 1 := by simp
  have hq := (heap_alloc_old _ (.cells #[.string op', .string tag', .slice b' k'.length c'] 24) (by omega)).trans (heap_alloc_new w (.cells #[.string op, .string tag, .slice b k.length c] 24))
  have hq' := heap_alloc_new (w.alloc (.cells #[.string op, .string tag, .slice b k.length c] 24)) (.cells #[.string op', .string tag', .slice b' k'.length c'] 24)
  rw [hs1] at hq'
  obtain ⟨⟨d0, d1, d2⟩, -⟩ := three_cells hq
  obtain ⟨⟨d0', d1', d2'⟩, -⟩ := three_cells hq'
  have CS := Lib.hid (fun W (h : Below w.heap.size w W) => size_any (.mk op tag k) (.agg #[.string op, .string tag, .slice b k.length c]) W ok hb (by rw [ExtAt_eq]; exact ⟨b, c, rfl, hk.below h⟩))
  have CS' := Lib.hid (fun W (h : Below w.heap.size w W) => size_any (.mk op' tag' k') (.agg #[.string op', .string tag', .slice b' k'.length c']) W ok' hb' (by rw [ExtAt_eq]; exact ⟨b', c', rfl, hk'.below h⟩))
  have COF := Lib.hid (fun W (h : Below w.heap.size w W) => of_any (.mk op tag k) (.agg #[.string op, .string tag, .slice b k.length c]) W ok hb (by rw [ExtAt_eq]; exact ⟨b, c, rfl, hk.below h⟩))
  have COF' := Lib.hid (fun W (h : Below w.heap.size w W) => of_any (.mk op' tag' k') (.agg #[.string op', .string tag', .slice b' k'.length c']) W ok' hb' (by rw [ExtAt_eq]; exact ⟨b', c', rfl, hk'.below h⟩))
  have HTG := Lib.hid (fun W (h : Below w.heap.size w W) => (hz.below h).ok cap (by omega))
  have HSM := Lib.hid (small_bulk _ hb)
  have HSM' := Lib.hid (small_bulk _ hb')
  have HW1 := Lib.hid hW2
  have HQ := Lib.hid hq
  have HQ' := Lib.hid hq'
  have g1 : decide ((100 : Int) < (nodesE (.mk op tag k) : Int)) = false := by simp; omega
  have g1' : decide ((100 : Int) < (nodesE (.mk op' tag' k') : Int)) = false := by simp; omega
  have g2 : decide ((20 : Int) < (n : Int)) = false := by simp; omega
  clear hW1 hW2 hx hk hb hq hx' hk' hb' hq' hz h1 h1' h2 hs1
  generalize nodesE (.mk op tag k) = q at *
  generalize nodesE (.mk op' tag' k') = q' at *
  go_enter Tryd.func5, Tryd.ntmps5
  go_wp2_with fail
  refine (CS.out _ HW1.out).mono ?_
  rintro e w2 ⟨rfl, hb2⟩
  have HB2 := Lib.hid (HW1.out.trans (hb2.mono HW1.out.size))
  have HQ2 := Lib.hid ((hb2.block _ (lt_of_block HQ.out)).trans HQ.out)
  have HQ2' := Lib.hid ((hb2.block _ (lt_of_block HQ'.out)).trans HQ'.out)
  clear d0 d1 d2 d0' d1' d2'
  obtain ⟨⟨d0, d1, d2⟩, -⟩ := three_cells HQ2'.out
  clear hb2
  go_wp2_with fail
  refine (CS'.out _ HB2.out).mono ?_
  rintro e w3 ⟨rfl, hb3⟩
  have HB3 := Lib.hid (HB2.out.trans (hb3.mono HB2.out.size))
  have HQ3 := Lib.hid ((hb3.block _ (lt_of_block HQ2.out)).trans HQ2.out)
  have HQ3' := Lib.hid ((hb3.block _ (lt_of_block HQ2'.out)).trans HQ2'.out)
  clear d0 d1 d2 hb3
  go_wp2_with fail
  refine wp_region_any (by kernel_rfl) ?_
  change wpAny _ _ _ _ _ _ _ (World.drew _)
  refine wpAny_inv (I := fun listed act W => ∃ b0 b1 b2 b3 b4 b5 s27 s28 s29 s30 s7 s8, listed = #[b0, b1, b2, b3, b4, b5, false, false] ∧ act = ⟨#[.agg #[.string op, .string tag, .slice b k.length c], .agg #[.string op', .string tag', .slice b' k'.length c'], .slice a n cap, .pointer (some ⟨w.heap.size, 0, none⟩), .pointer (some ⟨w.heap.size + 1, 0, none⟩), undef, .bool false, s7, s8, undef, undef, undef, undef, undef, .agg #[.string op, .string tag, .slice b k.length c], .int .i64 q, .bool false, .bool false, .agg #[.string op', .string tag', .slice b' k'.length c'], (.int .i64 q' : Value), .bool false, .bool false, .bool false, .slice a n cap, .int .i64 n, .bool false, .bool false, s27, s28, s29, s30, undef, undef, undef, undef, undef, undef, undef, undef, undef, undef, undef, undef, undef, undef, undef, undef, undef, undef, undef, undef, undef, undef, undef, undef, undef, undef, undef, undef, undef, undef, undef, undef, undef, undef, undef, undef, undef, undef, undef, undef, undef, undef, undef, undef, undef, undef, undef, undef, undef, undef, undef, undef, undef, undef, undef, undef, undef, undef, undef, undef, undef, undef, undef, undef, undef, undef, undef, undef, undef, undef, undef, undef, undef, undef, undef, undef, undef, undef, undef, undef, undef, undef, undef, undef, undef], []⟩ ∧ Hid (T3 w3 (.agg #[.string op, .string tag, .slice b k.length c]) (.agg #[.string op', .string tag', .slice b' k'.length c']) op tag k op' tag' k' b0 b1 b2 b3 b4 b5 s27 s28 s29 s30 s7 s8 W)) (stop := fun l => l.getD 0 false && (l.getD 1 false && (l.getD 2 false && (l.getD 3 false && (l.getD 4 false && l.getD 5 false))))) ?_ ?_ ?_ _ _ _ _ (by rfl) ?start
  case start =>
    refine ⟨false, false, false, false, false, false, undef, undef, undef, undef, undef, undef, rfl, rfl, ?_⟩
    exact ⟨(Below.refl _ w3).drew, fun h => by (cases h), fun h => by (cases h), fun h => by (cases h), fun h => by (cases h), fun h => by (cases h), fun h => by (cases h), fun h => by (cases h), fun h => by (cases h)⟩
  · rintro listed act W ⟨b0, b1, b2, b3, b4, b5, s27, s28, s29, s30, s7, s8, rfl, rfl, HT⟩ hst i o ho hi hdep K hK
    have hq0 := (HT.out.below.block _ (lt_of_block HQ3.out)).trans HQ3.out
    have hq1 := (HT.out.below.block _ (lt_of_block HQ3'.out)).trans HQ3'.out
    obtain ⟨⟨x0, x1, x2⟩, -⟩ := three_cells hq0
    obtain ⟨⟨y0, y1, y2⟩, -⟩ := three_cells hq1
    have HBW := Lib.hid (HB3.out.trans (HT.out.below.mono HB3.out.size))
    have hdep' := fun (j : Nat) (e : Edge) (h : o.after[j]? = some e) => hdep e (Array.mem_of_getElem? h)
    match i with
    | 0 =>
      obtain rfl := (Option.some.inj ho).symm
      go_simp
      refine hK _ _ ⟨true, b1, b2, b3, b4, b5, .agg #[.string op, .string tag, .slice b k.length c], s28, s29, s30, s7, s8, rfl, rfl, ?_⟩
      exact HT.out.load0
    | 1 =>
      obtain rfl := (Option.some.inj ho).symm
      obtain rfl : b0 = true := hdep' 0 _ rfl rfl
      obtain rfl := HT.out.f0 rfl
      go_simp
      go_at_call 11
      refine (COF.out _ HBW.out).mono ?_
      rintro e W' ⟨hb, u, rfl, hx⟩
      rw [ExtAt_eq] at hx
      obtain ⟨a1, c1, rfl, hx⟩ := hx
      refine hK _ _ ⟨true, true, b2, b3, b4, b5, .agg #[.string op, .string tag, .slice b k.length c], .agg #[.string op, .string tag, .slice a1 k.length c1], s29, s30, s7, s8, rfl, rfl, ?_⟩
      exact HT.out.of1 hb hx
    | 2 =>
      obtain rfl := (Option.some.inj ho).symm
      go_simp
      refine hK _ _ ⟨b0, b1, true, b3, b4, b5, s27, s28, .agg #[.string op', .string tag', .slice b' k'.length c'], s30, s7, s8, rfl, rfl, ?_⟩
      exact HT.out.load2
    | 3 =>
      obtain rfl := (Option.some.inj ho).symm
      obtain rfl : b2 = true := hdep' 0 _ rfl rfl
      obtain rfl := HT.out.f2 rfl
      go_simp
      go_at_call 11
      refine (COF'.out _ HBW.out).mono ?_
      rintro e W' ⟨hb, u, rfl, hx⟩
      rw [ExtAt_eq] at hx
      obtain ⟨a1, c1, rfl, hx⟩ := hx
      refine hK _ _ ⟨b0, b1, true, true, b4, b5, s27, s28, .agg #[.string op', .string tag', .slice b' k'.length c'], .agg #[.string op', .string tag', .slice a1 k'.length c1], s7, s8, rfl, rfl, ?_⟩
      exact HT.out.of3 hb hx
    | 4 =>
      obtain rfl := (Option.some.inj ho).symm
      obtain rfl : b4 = false := hi
      go_simp
      refine hK _ _ ⟨b0, b1, b2, b3, true, b5, s27, s28, s29, s30, .pointer (some ⟨W.heap.size, 0, none⟩), s8, rfl, rfl, ?_⟩
      exact HT.out.alloc4
    | 5 =>
      obtain rfl := (Option.some.inj ho).symm
      obtain rfl : b5 = false := hi
      go_simp
      refine hK _ _ ⟨b0, b1, b2, b3, b4, true, s27, s28, s29, s30, s7, .pointer (some ⟨W.heap.size, 0, none⟩), rfl, rfl, ?_⟩
      exact HT.out.alloc5
    | 6 =>
      obtain rfl := (Option.some.inj ho).symm
      exfalso
      obtain rfl : b4 = true := hdep' 0 _ rfl rfl
      obtain rfl : b1 = true := hdep' 1 _ rfl rfl
      obtain rfl : b3 = true := hdep' 2 _ rfl rfl
      obtain rfl : b0 = true := hdep' 3 _ rfl rfl
      obtain rfl : b5 = true := hdep' 8 _ rfl rfl
      obtain rfl := HT.out.f32 rfl
      cases hst
    | 7 =>
      obtain rfl := (Option.some.inj ho).symm
      exact absurd (show false = true from hdep' 2 _ rfl rfl) (by decide)
    | i + 8 => simp at ho
  · rintro listed act W ⟨b0, b1, b2, b3, b4, b5, s27, s28, s29, s30, s7, s8, rfl, rfl, HT⟩ hst
    cases b4 with
    | false =>
      exact List.ne_nil_of_mem (a := 4) (mem_ready.2 ⟨rfl, _, rfl, fun e he _ => by simp at he⟩)
    | true =>
      cases b5 with
      | false =>
        exact List.ne_nil_of_mem (a := 5) (mem_ready.2 ⟨rfl, _, rfl, fun e he _ => by simp at he⟩)
      | true =>
        cases b0 with
        | false =>
          exact List.ne_nil_of_mem (a := 0) (mem_ready.2 ⟨rfl, _, rfl, fun e he _ => by simp at he⟩)
        | true =>
          cases b2 with
          | false =>
            exact List.ne_nil_of_mem (a := 2) (mem_ready.2 ⟨rfl, _, rfl, fun e he _ => by simp at he⟩)
          | true =>
            cases b1 with
            | false =>
              exact List.ne_nil_of_mem (a := 1) (mem_ready.2 ⟨rfl, _, rfl, fun e he _ => by simp at he; subst he; rfl⟩)
            | true =>
              cases b3 with
              | false =>
                exact List.ne_nil_of_mem (a := 3) (mem_ready.2 ⟨rfl, _, rfl, fun e he _ => by simp at he; rcases he with rfl | rfl <;> rfl⟩)
              | true =>
                cases hst
  · rintro listed act W ⟨b0, b1, b2, b3, b4, b5, s27, s28, s29, s30, s7, s8, rfl, rfl, HT⟩ hst
    have hst' : (b0 && (b1 && (b2 && (b3 && (b4 && b5))))) = true := hst
    simp only [Bool.and_eq_true] at hst'
    obtain ⟨rfl, rfl, rfl, rfl, rfl, rfl⟩ := hst'
    obtain ⟨g, g', e1, c1, e2, c2, rfl, rfl, hne, rfl, rfl, hz, hz', hZ⟩ := HT.out.fin
    obtain rfl := HT.out.f0 rfl
    obtain rfl := HT.out.f2 rfl
    have hgz : W.heap[g]? = some (.cells #[.string ⟨#[]⟩, .string ⟨#[]⟩, .slice none 0 0] 29 (0, 0)) := hz.out
    have hgz' : (set3 W g (.string op) (.string tag) (.slice e1 k.length c1)).heap[g']? = some (.cells #[.string ⟨#[]⟩, .string ⟨#[]⟩, .slice none 0 0] 29 (0, 0)) := (set3_other _ _ _ _ _ hne.symm).trans hz'.out
    have HZ := Lib.hid hZ
    obtain ⟨⟨u0, u1, u2⟩, v0, v1, v2⟩ := three_cells hgz
    clear hz hz' hst hZ HT
    change wpAny _ _ _ _ 2 #[true, true, true, true, true, true, false, false] ⟨#[.agg #[.string op, .string tag, .slice b k.length c], .agg #[.string op', .string tag', .slice b' k'.length c'], .slice a n cap, .pointer (some ⟨w.heap.size, 0, none⟩), .pointer (some ⟨w.heap.size + 1, 0, none⟩), undef, .bool false, .pointer (some ⟨g, 0, none⟩), .pointer (some ⟨g', 0, none⟩), undef, undef, undef, undef, undef, .agg #[.string op, .string tag, .slice b k.length c], .int .i64 q, .bool false, .bool false, .agg #[.string op', .string tag', .slice b' k'.length c'], (.int .i64 q' : Value), .bool false, .bool false, .bool false, .slice a n cap, .int .i64 n, .bool false, .bool false, .agg #[.string op, .string tag, .slice b k.length c], .agg #[.string op, .string tag, .slice e1 k.length c1], .agg #[.string op', .string tag', .slice b' k'.length c'], .agg #[.string op', .string tag', .slice e2 k'.length c2], undef, undef, undef, undef, undef, undef, undef, undef, undef, undef, undef, undef, undef, undef, undef, undef, undef, undef, undef, undef, undef, undef, undef, undef, undef, undef, undef, undef, undef, undef, undef, undef, undef, undef, undef, undef, undef, undef, undef, undef, undef, undef, undef, undef, undef, undef, undef, undef, undef, undef, undef, undef, undef, undef, undef, undef, undef, undef, undef, undef, undef, undef, undef, undef, undef, undef, undef, undef, undef, undef, undef, undef, undef, undef, undef, undef, undef, undef, undef, undef, undef, undef, undef, undef, undef], []⟩ _
    refine wpAny_ready (rs := [6]) (by kernel_rfl) (by simp) ?_
    refine AllReady.cons rfl (fun K hK => ?_) AllReady.nil
    go_simp
    refine hK _ _ ?_
    clear hK K
    change wpAny _ _ _ _ _ #[true, true, true, true, true, true, true, false] ⟨#[.agg #[.string op, .string tag, .slice b k.length c], .agg #[.string op', .string tag', .slice b' k'.length c'], .slice a n cap, .pointer (some ⟨w.heap.size, 0, none⟩), .pointer (some ⟨w.heap.size + 1, 0, none⟩), undef, .bool false, .pointer (some ⟨g, 0, none⟩), .pointer (some ⟨g', 0, none⟩), undef, undef, undef, undef, undef, .agg #[.string op, .string tag, .slice b k.length c], .int .i64 q, .bool false, .bool false, .agg #[.string op', .string tag', .slice b' k'.length c'], (.int .i64 q' : Value), .bool false, .bool false, .bool false, .slice a n cap, .int .i64 n, .bool false, .bool false, .agg #[.string op, .string tag, .slice b k.length c], .agg #[.string op, .string tag, .slice e1 k.length c1], .agg #[.string op', .string tag', .slice b' k'.length c'], .agg #[.string op', .string tag', .slice e2 k'.length c2], undef, undef, undef, undef, undef, undef, undef, undef, undef, undef, undef, undef, undef, undef, undef, undef, undef, undef, undef, undef, undef, undef, undef, undef, undef, undef, undef, undef, undef, undef, undef, undef, undef, undef, undef, undef, undef, undef, undef, undef, undef, undef, undef, undef, undef, undef, undef, undef, undef, undef, undef, undef, undef, undef, undef, undef, undef, undef, undef, undef, undef, undef, undef, undef, undef, undef, undef, undef, undef, undef, undef, undef, undef, undef, undef, undef, undef, undef, undef, undef, undef, undef, undef, undef, undef], []⟩ (set3 W g (.string op) (.string tag) (.slice e1 k.length c1))
    clear u0 u1 u2 v0 v1 v2
    obtain ⟨⟨u0, u1, u2⟩, v0, v1, v2⟩ := three_cells hgz'
    refine wpAny_ready (rs := [7]) (by kernel_rfl) (by simp) ?_
    refine AllReady.cons rfl (fun K hK => ?_) AllReady.nil
    go_simp
    refine hK _ _ ?_
    clear hK K
    change wpAny _ _ _ _ _ #[true, true, true, true, true, true, true, true] ⟨#[.agg #[.string op, .string tag, .slice b k.length c], .agg #[.string op', .string tag', .slice b' k'.length c'], .slice a n cap, .pointer (some ⟨w.heap.size, 0, none⟩), .pointer (some ⟨w.heap.size + 1, 0, none⟩), undef, .bool false, .pointer (some ⟨g, 0, none⟩), .pointer (some ⟨g', 0, none⟩), undef, undef, undef, undef, undef, .agg #[.string op, .string tag, .slice b k.length c], .int .i64 q, .bool false, .bool false, .agg #[.string op', .string tag', .slice b' k'.length c'], (.int .i64 q' : Value), .bool false, .bool false, .bool false, .slice a n cap, .int .i64 n, .bool false, .bool false, .agg #[.string op, .string tag, .slice b k.length c], .agg #[.string op, .string tag, .slice e1 k.length c1], .agg #[.string op', .string tag', .slice b' k'.length c'], .agg #[.string op', .string tag', .slice e2 k'.length c2], undef, undef, undef, undef, undef, undef, undef, undef, undef, undef, undef, undef, undef, undef, undef, undef, undef, undef, undef, undef, undef, undef, undef, undef, undef, undef, undef, undef, undef, undef, undef, undef, undef, undef, undef, undef, undef, undef, undef, undef, undef, undef, undef, undef, undef, undef, undef, undef, undef, undef, undef, undef, undef, undef, undef, undef, undef, undef, undef, undef, undef, undef, undef, undef, undef, undef, undef, undef, undef, undef, undef, undef, undef, undef, undef, undef, undef, undef, undef, undef, undef, undef, undef, undef, undef], []⟩ (set3 (set3 W g (.string op) (.string tag) (.slice e1 k.length c1)) g' (.string op') (.string tag') (.slice e2 k'.length c2))
    refine wpAny_done (by kernel_rfl) ?_ _
    obtain ⟨hZ0, hZ1, hZ2, hZ3, hZ4⟩ := HZ.out _ rfl
    clear u0 u1 u2 v0 v1 v2 hgz hgz' HZ
    generalize set3 (set3 W g (.string op) (.string tag) (.slice e1 k.length c1)) g' (.string op') (.string tag') (.slice e2 k'.length c2) = Z at *
    have HBZ := Lib.hid (HB3.out.trans (hZ0.mono HB3.out.size))
    obtain ⟨⟨x0, x1, x2⟩, -⟩ := three_cells hZ1
    obtain ⟨⟨y0, y1, y2⟩, -⟩ := three_cells hZ2
    obtain ⟨l0, l1, l2, l3, l4⟩ := laid2 Z (.cells #[.string op, .string tag, .slice e1 k.length c1] 29) (.cells #[.string ⟨#[33]⟩, .string ⟨#[]⟩, .slice (some ⟨Z.heap.size, 0, none⟩) 1 1] 29)
    obtain ⟨m0, m1, m2, m3, m4⟩ := laid2 ((Z.alloc (.cells #[.string op, .string tag, .slice e1 k.length c1] 29)).alloc (.cells #[.string ⟨#[33]⟩, .string ⟨#[]⟩, .slice (some ⟨Z.heap.size, 0, none⟩) 1 1] 29)) (.cells #[.string op, .string tag, .slice e1 k.length c1, .string op', .string tag', .slice e2 k'.length c2] 29) (.cells #[.string ⟨#[38, 38]⟩, .string ⟨#[]⟩, .slice (some ⟨Z.heap.size + 1 + 1, 0, none⟩) 2 2] 29)
    obtain ⟨n0, n1, n2, n3, n4⟩ := laid2 ((((Z.alloc (.cells #[.string op, .string tag, .slice e1 k.length c1] 29)).alloc (.cells #[.string ⟨#[33]⟩, .string ⟨#[]⟩, .slice (some ⟨Z.heap.size, 0, none⟩) 1 1] 29)).alloc (.cells #[.string op, .string tag, .slice e1 k.length c1, .string op', .string tag', .slice e2 k'.length c2] 29)).alloc (.cells #[.string ⟨#[38, 38]⟩, .string ⟨#[]⟩, .slice (some ⟨Z.heap.size + 1 + 1, 0, none⟩) 2 2] 29)) (.cells #[.string op, .string tag, .slice e1 k.length c1, .string op', .string tag', .slice e2 k'.length c2] 29) (.cells #[.string ⟨#[124, 124]⟩, .string ⟨#[]⟩, .slice (some ⟨Z.heap.size + 1 + 1 + 1 + 1, 0, none⟩) 2 2] 29)
    rw [l4] at m0 m1 m4
    rw [m4] at n0 n1 n4
    obtain ⟨⟨x3, x4, x5⟩, -⟩ := three_cells (l2 _ _ hZ1)
    obtain ⟨⟨y3, y4, y5⟩, -⟩ := three_cells (l2 _ _ hZ2)
    obtain ⟨⟨x6, x7, x8⟩, -⟩ := three_cells (m2 _ _ (l2 _ _ hZ1))
    obtain ⟨⟨y6, y7, y8⟩, -⟩ := three_cells (m2 _ _ (l2 _ _ hZ2))
    have hF1 := n2 _ _ (m2 _ _ (l2 _ _ hZ1))
    have hF2 := n2 _ _ (m2 _ _ (l2 _ _ hZ2))
    have hFn := n2 _ _ (m2 _ _ l1)
    have hFb := n2 _ _ m1
    have hFo := n1
    have hRn := n2 _ _ (m2 _ _ l0)
    have hRb := n2 _ _ m0
    have hRo := n0
    have hBF : Below Z.heap.size Z ((((((Z.alloc (.cells #[.string op, .string tag, .slice e1 k.length c1] 29)).alloc (.cells #[.string ⟨#[33]⟩, .string ⟨#[]⟩, .slice (some ⟨Z.heap.size, 0, none⟩) 1 1] 29)).alloc (.cells #[.string op, .string tag, .slice e1 k.length c1, .string op', .string tag', .slice e2 k'.length c2] 29)).alloc (.cells #[.string ⟨#[38, 38]⟩, .string ⟨#[]⟩, .slice (some ⟨Z.heap.size + 1 + 1, 0, none⟩) 2 2] 29)).alloc (.cells #[.string op, .string tag, .slice e1 k.length c1, .string op', .string tag', .slice e2 k'.length c2] 29)).alloc (.cells #[.string ⟨#[124, 124]⟩, .string ⟨#[]⟩, .slice (some ⟨Z.heap.size + 1 + 1 + 1 + 1, 0, none⟩) 2 2] 29)) := l3.trans ((m3.mono l3.size).trans (n3.mono (Nat.le_trans l3.size m3.size)))
    have HBF := Lib.hid (HBZ.out.trans (hBF.mono HBZ.out.size))
    have hE1 := hZ3.below hBF
    have hE2 := hZ4.below hBF
    replace hFn := Lib.hid hFn
    replace hFb := Lib.hid hFb
    replace hFo := Lib.hid hFo
    replace hRn := Lib.hid hRn
    replace hRb := Lib.hid hRb
    replace hRo := Lib.hid hRo
    replace hF1 := Lib.hid hF1
    replace hF2 := Lib.hid hF2
    replace hE1 := Lib.hid hE1
    replace hE2 := Lib.hid hE2
    obtain ⟨⟨p0, p1, p2⟩, -⟩ := three_cells hFn.out
    clear l0 l1 l2 l3 l4 m0 m1 m2 m3 m4 n0 n1 n2 n3 n4 hBF hZ0 hZ1 hZ2 hZ3 hZ4
    go_wp2_with fail
    clear x0 x1 x2 y0 y1 y2 x3 x4 x5 y3 y4 y5 x6 x7 x8 y6 y7 y8 p0 p1 p2
    generalize ((((((Z.alloc (.cells #[.string op, .string tag, .slice e1 k.length c1] 29)).alloc (.cells #[.string ⟨#[33]⟩, .string ⟨#[]⟩, .slice (some ⟨Z.heap.size, 0, none⟩) 1 1] 29)).alloc (.cells #[.string op, .string tag, .slice e1 k.length c1, .string op', .string tag', .slice e2 k'.length c2] 29)).alloc (.cells #[.string ⟨#[38, 38]⟩, .string ⟨#[]⟩, .slice (some ⟨Z.heap.size + 1 + 1, 0, none⟩) 2 2] 29)).alloc (.cells #[.string op, .string tag, .slice e1 k.length c1, .string op', .string tag', .slice e2 k'.length c2] 29)).alloc (.cells #[.string ⟨#[124, 124]⟩, .string ⟨#[]⟩, .slice (some ⟨Z.heap.size + 1 + 1 + 1 + 1, 0, none⟩) 2 2] 29)) = F at *
    have hkN : ExtK F (fun _ => True) [(.mk op tag k)] (some ⟨Z.heap.size, 0, none⟩) 1 := ext_one hRn.out hE1.out
    have hkB : ExtK F (fun _ => True) [(.mk op tag k), (.mk op' tag' k')] (some ⟨Z.heap.size + 1 + 1, 0, none⟩) 2 := ext_two hRb.out hE1.out hE2.out
    have hkO : ExtK F (fun _ => True) [(.mk op tag k), (.mk op' tag' k')] (some ⟨Z.heap.size + 1 + 1 + 1 + 1, 0, none⟩) 2 := ext_two hRo.out hE1.out hE2.out
    have CRN := Lib.hid (fun W' (h : Below F.heap.size F W') => Right_any (notX (.mk op tag k)) (.agg #[.string ⟨#[33]⟩, .string ⟨#[]⟩, .slice (some ⟨Z.heap.size, 0, none⟩) 1 1]) W' (fun _ => True) (small_one HSM.out) (by unfold notX; rw [ExtAt_eq]; exact ⟨_, 1, rfl, hkN.below h⟩))
    have CHN := Lib.hid (fun W' (h : Below F.heap.size F W') => Holds_any (notX (.mk op tag k)) (.agg #[.string ⟨#[33]⟩, .string ⟨#[]⟩, .slice (some ⟨Z.heap.size, 0, none⟩) 1 1]) (.slice a n cap) (Lib.containsS zs) W' (fun _ => True) (small_one HSM.out) (by unfold notX; rw [ExtAt_eq]; exact ⟨_, 1, rfl, hkN.below h⟩) (HTG.out W' (HBF.out.trans (h.mono HBF.out.size))))
    have CLN := Lib.hid (fun W' (h : Below F.heap.size F W') => Least_any (notX (.mk op tag k)) (.agg #[.string ⟨#[33]⟩, .string ⟨#[]⟩, .slice (some ⟨Z.heap.size, 0, none⟩) 1 1]) W' (fun _ => True) (small_one HSM.out) (by unfold notX; rw [ExtAt_eq]; exact ⟨_, 1, rfl, hkN.below h⟩))
    have CRB := Lib.hid (fun W' (h : Below F.heap.size F W') => Right_any (bothX (.mk op tag k) (.mk op' tag' k')) (.agg #[.string ⟨#[38, 38]⟩, .string ⟨#[]⟩, .slice (some ⟨Z.heap.size + 1 + 1, 0, none⟩) 2 2]) W' (fun _ => True) (small_two HSM.out HSM'.out) (by unfold bothX; rw [ExtAt_eq]; exact ⟨_, 2, rfl, hkB.below h⟩))
    have CHB := Lib.hid (fun W' (h : Below F.heap.size F W') => Holds_any (bothX (.mk op tag k) (.mk op' tag' k')) (.agg #[.string ⟨#[38, 38]⟩, .string ⟨#[]⟩, .slice (some ⟨Z.heap.size + 1 + 1, 0, none⟩) 2 2]) (.slice a n cap) (Lib.containsS zs) W' (fun _ => True) (small_two HSM.out HSM'.out) (by unfold bothX; rw [ExtAt_eq]; exact ⟨_, 2, rfl, hkB.below h⟩) (HTG.out W' (HBF.out.trans (h.mono HBF.out.size))))
    have CLB := Lib.hid (fun W' (h : Below F.heap.size F W') => Least_any (bothX (.mk op tag k) (.mk op' tag' k')) (.agg #[.string ⟨#[38, 38]⟩, .string ⟨#[]⟩, .slice (some ⟨Z.heap.size + 1 + 1, 0, none⟩) 2 2]) W' (fun _ => True) (small_two HSM.out HSM'.out) (by unfold bothX; rw [ExtAt_eq]; exact ⟨_, 2, rfl, hkB.below h⟩))
    have CRO := Lib.hid (fun W' (h : Below F.heap.size F W') => Right_any (oneX (.mk op tag k) (.mk op' tag' k')) (.agg #[.string ⟨#[124, 124]⟩, .string ⟨#[]⟩, .slice (some ⟨Z.heap.size + 1 + 1 + 1 + 1, 0, none⟩) 2 2]) W' (fun _ => True) (small_two HSM.out HSM'.out) (by unfold oneX; rw [ExtAt_eq]; exact ⟨_, 2, rfl, hkO.below h⟩))
    have CHO := Lib.hid (fun W' (h : Below F.heap.size F W') => Holds_any (oneX (.mk op tag k) (.mk op' tag' k')) (.agg #[.string ⟨#[124, 124]⟩, .string ⟨#[]⟩, .slice (some ⟨Z.heap.size + 1 + 1 + 1 + 1, 0, none⟩) 2 2]) (.slice a n cap) (Lib.containsS zs) W' (fun _ => True) (small_two HSM.out HSM'.out) (by unfold oneX; rw [ExtAt_eq]; exact ⟨_, 2, rfl, hkO.below h⟩) (HTG.out W' (HBF.out.trans (h.mono HBF.out.size))))
    have CLO := Lib.hid (fun W' (h : Below F.heap.size F W') => Least_any (oneX (.mk op tag k) (.mk op' tag' k')) (.agg #[.string ⟨#[124, 124]⟩, .string ⟨#[]⟩, .slice (some ⟨Z.heap.size + 1 + 1 + 1 + 1, 0, none⟩) 2 2]) W' (fun _ => True) (small_two HSM.out HSM'.out) (by unfold oneX; rw [ExtAt_eq]; exact ⟨_, 2, rfl, hkO.below h⟩))
    have CHP := Lib.hid (fun W' (h : Below F.heap.size F W') => Holds_any (.mk op tag k) (.agg #[.string op, .string tag, .slice e1 k.length c1]) (.slice a n cap) (Lib.containsS zs) W' (fun _ => True) HSM.out (by rw [ExtAt_eq]; exact ⟨_, _, rfl, hE1.out.below h⟩) (HTG.out W' (HBF.out.trans (h.mono HBF.out.size))))
    have CLP := Lib.hid (fun W' (h : Below F.heap.size F W') => Least_any (.mk op tag k) (.agg #[.string op, .string tag, .slice e1 k.length c1]) W' (fun _ => True) HSM.out (by rw [ExtAt_eq]; exact ⟨_, _, rfl, hE1.out.below h⟩))
    have CHQ := Lib.hid (fun W' (h : Below F.heap.size F W') => Holds_any (.mk op' tag' k') (.agg #[.string op', .string tag', .slice e2 k'.length c2]) (.slice a n cap) (Lib.containsS zs) W' (fun _ => True) HSM'.out (by rw [ExtAt_eq]; exact ⟨_, _, rfl, hE2.out.below h⟩) (HTG.out W' (HBF.out.trans (h.mono HBF.out.size))))
    have CLQ := Lib.hid (fun W' (h : Below F.heap.size F W') => Least_any (.mk op' tag' k') (.agg #[.string op', .string tag', .slice e2 k'.length c2]) W' (fun _ => True) HSM'.out (by rw [ExtAt_eq]; exact ⟨_, _, rfl, hE2.out.below h⟩))
    have H1 := Lib.hid (fun h => holds_not' (Lib.containsS zs) (p := (.mk op tag k)) h)
    have H2 := Lib.hid (fun h => holds_both (Lib.containsS zs) (p := (.mk op tag k)) (q := (.mk op' tag' k')) h)
    have H3 := Lib.hid (fun h => holds_one (Lib.containsS zs) (p := (.mk op tag k)) (q := (.mk op' tag' k')) h)
    have L1 := Lib.hid (fun h => least_not' (p := (.mk op tag k)) h)
    have L2 := Lib.hid (fun h => least_both (p := (.mk op tag k)) (q := (.mk op' tag' k')) h)
    have L3 := Lib.hid (fun h => least_one (p := (.mk op tag k)) (q := (.mk op' tag' k')) h)
    clear hkN hkB hkO hRn hRb hRo hE1 hE2 HTG HSM HSM'
    generalize holdsM (Lib.containsS zs) (notX (.mk op tag k)) = hn at *
    generalize holdsM (Lib.containsS zs) (bothX (.mk op tag k) (.mk op' tag' k')) = hb at *
    generalize holdsM (Lib.containsS zs) (oneX (.mk op tag k) (.mk op' tag' k')) = ho at *
    generalize leastM (notX (.mk op tag k)) = ln at *
    generalize leastM (bothX (.mk op tag k) (.mk op' tag' k')) = lb at *
    generalize leastM (oneX (.mk op tag k) (.mk op' tag' k')) = lo at *
    generalize holdsM (Lib.containsS zs) (.mk op tag k) = hp at *
    generalize holdsM (Lib.containsS zs) (.mk op' tag' k') = hq at *
    generalize leastM (.mk op tag k) = lp at *
    generalize leastM (.mk op' tag' k') = lq at *
    generalize rightE 100 (notX (.mk op tag k)) = r1 at *
    generalize rightE 100 (bothX (.mk op tag k) (.mk op' tag' k')) = r2 at *
    generalize rightE 100 (oneX (.mk op tag k) (.mk op' tag' k')) = r3 at *
    obtain ⟨⟨p0, p1, p2⟩, -⟩ := three_cells hFn.out
    refine (CRN.out _ (Below.refl _ _)).mono ?_
    rintro e w4 ⟨rfl, hb4⟩
    have HV4 := Lib.hid hb4
    clear hb4 p0 p1 p2
    obtain ⟨⟨p0, p1, p2⟩, -⟩ := three_cells ((HV4.out.block _ (lt_of_block hFb.out)).trans hFb.out)
    cases r1 with
    | false =>
      go_wp2_with fail
      refine (awake_any _).mono ?_
      rintro e w9 ⟨rfl, hb9⟩
      go_wp2
      go_ret
      exact ⟨rfl, HBF.out.trans ((HV4.out.trans (hb9.mono HV4.out.size)).mono HBF.out.size)⟩
    | true =>
    go_wp2_with fail
    refine (CRB.out _ HV4.out).mono ?_
    rintro e w5 ⟨rfl, hb5⟩
    have HV5 := Lib.hid (HV4.out.trans (hb5.mono HV4.out.size))
    clear hb5 p0 p1 p2
    obtain ⟨⟨p0, p1, p2⟩, -⟩ := three_cells ((HV5.out.block _ (lt_of_block hFo.out)).trans hFo.out)
    cases r2 with
    | false =>
      go_wp2_with fail
      refine (awake_any _).mono ?_
      rintro e w9 ⟨rfl, hb9⟩
      go_wp2
      go_ret
      exact ⟨rfl, HBF.out.trans ((HV5.out.trans (hb9.mono HV5.out.size)).mono HBF.out.size)⟩
    | true =>
    go_wp2_with fail
    refine (CRO.out _ HV5.out).mono ?_
    rintro e w6 ⟨rfl, hb6⟩
    have HV6 := Lib.hid (HV5.out.trans (hb6.mono HV5.out.size))
    clear hb6 p0 p1 p2
    cases r3 with
    | false =>
      go_wp2_with fail
      refine (awake_any _).mono ?_
      rintro e w9 ⟨rfl, hb9⟩
      go_wp2
      go_ret
      exact ⟨rfl, HBF.out.trans ((HV6.out.trans (hb9.mono HV6.out.size)).mono HBF.out.size)⟩
    | true =>
    have E1 := H1.out (by trivial)
    have E2 := H2.out (by trivial)
    have E3 := H3.out (by trivial)
    obtain rfl := L1.out (by trivial)
    have M2 := Lib.hid (L2.out (by trivial))
    have M3 := Lib.hid (L3.out (by trivial))
    replace E1 := Lib.hid E1
    replace E2 := Lib.hid E2
    replace E3 := Lib.hid E3
    have hmx : Tryd.prog.follows .mixedOrders = true := by kernel_rfl
    obtain ⟨⟨x0, x1, x2⟩, -⟩ := three_cells ((HV6.out.block _ (lt_of_block hF1.out)).trans hF1.out)
    replace x0 := fun X : Kept w6 => Kept.cell x0 X
    replace x1 := fun X : Kept w6 => Kept.cell x1 X
    replace x2 := fun X : Kept w6 => Kept.cell x2 X
    obtain ⟨⟨y0, y1, y2⟩, -⟩ := three_cells ((HV6.out.block _ (lt_of_block hF2.out)).trans hF2.out)
    replace y0 := fun X : Kept w6 => Kept.cell y0 X
    replace y1 := fun X : Kept w6 => Kept.cell y1 X
    replace y2 := fun X : Kept w6 => Kept.cell y2 X
    have KK := Lib.hid (fun X : Kept w6 => HV6.out.trans (X.h.mono HV6.out.size))
    go_wp2_with fail
    refine wp_region_kept hmx (by kernel_rfl) ?_
    go_big_quiet_step ((fail))
    go_big_quiet_step ((fail))
    go_big_quiet_step ((go_at_call 14; exact kept_call (CHP.out _ (KK.out _))))
    go_big_quiet_step ((fail))
    go_big_quiet_step ((fail))
    go_big_quiet_step ((go_at_call 14; exact kept_call (CHQ.out _ (KK.out _))))
    go_big_quiet_step ((fail))
    go_big_quiet_step ((fail))
    refine wpQuiet_nil ?_
    rintro _ ⟨v0, rfl⟩
    have HV7 := Lib.hid (KK.out v0)
    clear x0 x1 x2 y0 y1 y2 KK
    generalize v0.W = w7 at *
    clear v0
    obtain ⟨⟨x0, x1, x2⟩, -⟩ := three_cells ((HV7.out.block _ (lt_of_block hF1.out)).trans hF1.out)
    replace x0 := fun X : Kept w7 => Kept.cell x0 X
    replace x1 := fun X : Kept w7 => Kept.cell x1 X
    replace x2 := fun X : Kept w7 => Kept.cell x2 X
    obtain ⟨⟨y0, y1, y2⟩, -⟩ := three_cells ((HV7.out.block _ (lt_of_block hF2.out)).trans hF2.out)
    replace y0 := fun X : Kept w7 => Kept.cell y0 X
    replace y1 := fun X : Kept w7 => Kept.cell y1 X
    replace y2 := fun X : Kept w7 => Kept.cell y2 X
    obtain ⟨⟨n0, n1, n2⟩, -⟩ := three_cells ((HV7.out.block _ (lt_of_block hFn.out)).trans hFn.out)
    replace n0 := fun X : Kept w7 => Kept.cell n0 X
    replace n1 := fun X : Kept w7 => Kept.cell n1 X
    replace n2 := fun X : Kept w7 => Kept.cell n2 X
    obtain ⟨⟨b0, b1, b2⟩, -⟩ := three_cells ((HV7.out.block _ (lt_of_block hFb.out)).trans hFb.out)
    replace b0 := fun X : Kept w7 => Kept.cell b0 X
    replace b1 := fun X : Kept w7 => Kept.cell b1 X
    replace b2 := fun X : Kept w7 => Kept.cell b2 X
    obtain ⟨⟨o0, o1, o2⟩, -⟩ := three_cells ((HV7.out.block _ (lt_of_block hFo.out)).trans hFo.out)
    replace o0 := fun X : Kept w7 => Kept.cell o0 X
    replace o1 := fun X : Kept w7 => Kept.cell o1 X
    replace o2 := fun X : Kept w7 => Kept.cell o2 X
    have KK := Lib.hid (fun X : Kept w7 => HV7.out.trans (X.h.mono HV7.out.size))
    clear CRN CRB CRO H1 H2 H3 L1 L2 L3
    have gB : (lb == max lp lq) = true := beq_iff_eq.2 M2.out
    have gO : (lo == min lp lq) = true := beq_iff_eq.2 M3.out
    cases hp with
    | false =>
      cases hq with
      | false =>
        obtain rfl : hn = true := E1.out
        obtain rfl : hb = false := E2.out
        obtain rfl : ho = false := E3.out
        go_wp2_with fail
        refine wp_region_kept hmx (by kernel_rfl) ?_
        go_big_quiet_step ((fail))
        go_big_quiet_step ((fail))
        go_big_quiet_step ((go_at_call 14; exact kept_call (CHN.out _ (KK.out _))))
        go_big_quiet_step ((fail))
        go_big_quiet_step ((fail))
        go_big_quiet_step ((fail))
        go_big_quiet_step ((fail))
        go_big_quiet_step ((fail))
        go_big_quiet_step ((fail))
        go_big_quiet_step ((go_at_call 14; exact kept_call (CHB.out _ (KK.out _))))
        go_big_quiet_step ((fail))
        go_big_quiet_step ((fail))
        go_big_quiet_step ((fail))
        go_big_quiet_step ((fail))
        go_big_quiet_step ((fail))
        go_big_quiet_step ((fail))
        go_big_quiet_step ((fail))
        go_big_quiet_step ((fail))
        go_big_quiet_step ((fail))
        go_big_quiet_step ((go_at_call 14; exact kept_call (CHO.out _ (KK.out _))))
        go_big_quiet_step ((fail))
        go_big_quiet_step ((fail))
        go_big_quiet_step ((fail))
        go_big_quiet_step ((fail))
        go_big_quiet_step ((fail))
        go_big_quiet_step ((fail))
        go_big_quiet_step ((fail))
        go_big_quiet_step ((fail))
        go_big_quiet_step ((go_at_call 15; exact kept_call (CLB.out _ (KK.out _))))
        go_big_quiet_step ((fail))
        go_big_quiet_step ((go_at_call 15; exact kept_call (CLP.out _ (KK.out _))))
        go_big_quiet_step ((fail))
        go_big_quiet_step ((go_at_call 15; exact kept_call (CLQ.out _ (KK.out _))))
        go_big_quiet_step ((fail))
        go_big_quiet_step ((first | rw [M2.out] | (simp [M2.out])))
        go_big_quiet_step ((fail))
        go_big_quiet_step ((fail))
        go_big_quiet_step ((fail))
        go_big_quiet_step ((go_at_call 15; exact kept_call (CLO.out _ (KK.out _))))
        go_big_quiet_step ((fail))
        go_big_quiet_step ((go_at_call 15; exact kept_call (CLP.out _ (KK.out _))))
        go_big_quiet_step ((fail))
        go_big_quiet_step ((go_at_call 15; exact kept_call (CLQ.out _ (KK.out _))))
        go_big_quiet_step ((fail))
        go_big_quiet_step ((first | rw [M3.out] | (simp [M3.out])))
        go_big_quiet_step ((fail))
        go_big_quiet_step ((fail))
        go_big_quiet_step ((fail))
        go_big_quiet_step ((go_at_call 15; exact kept_call (CLN.out _ (KK.out _))))
        go_big_quiet_step ((fail))
        go_big_quiet_step ((fail))
        go_big_quiet_step ((fail))
        go_big_quiet_step ((go_at_call 17; exact kept_call (awake_any _)))
        go_big_quiet_step ((fail))
        go_big_quiet_step ((fail))
        refine wpQuiet_nil ?_
        rintro _ ⟨v0, rfl⟩
        have HV8 := Lib.hid (KK.out v0)
        go_wp2
        go_ret
        exact ⟨rfl, HBF.out.trans (HV8.out.mono HBF.out.size)⟩
      | true =>
        obtain rfl : hn = true := E1.out
        obtain rfl : hb = false := E2.out
        obtain rfl : ho = true := E3.out
        go_wp2_with fail
        refine wp_region_kept hmx (by kernel_rfl) ?_
        go_big_quiet_step ((fail))
        go_big_quiet_step ((fail))
        go_big_quiet_step ((go_at_call 14; exact kept_call (CHN.out _ (KK.out _))))
        go_big_quiet_step ((fail))
        go_big_quiet_step ((fail))
        go_big_quiet_step ((fail))
        go_big_quiet_step ((fail))
        go_big_quiet_step ((fail))
        go_big_quiet_step ((fail))
        go_big_quiet_step ((go_at_call 14; exact kept_call (CHB.out _ (KK.out _))))
        go_big_quiet_step ((fail))
        go_big_quiet_step ((fail))
        go_big_quiet_step ((fail))
        go_big_quiet_step ((fail))
        go_big_quiet_step ((fail))
        go_big_quiet_step ((fail))
        go_big_quiet_step ((fail))
        go_big_quiet_step ((fail))
        go_big_quiet_step ((fail))
        go_big_quiet_step ((go_at_call 14; exact kept_call (CHO.out _ (KK.out _))))
        go_big_quiet_step ((fail))
        go_big_quiet_step ((fail))
        go_big_quiet_step ((fail))
        go_big_quiet_step ((fail))
        go_big_quiet_step ((fail))
        go_big_quiet_step ((fail))
        go_big_quiet_step ((fail))
        go_big_quiet_step ((fail))
        go_big_quiet_step ((go_at_call 15; exact kept_call (CLB.out _ (KK.out _))))
        go_big_quiet_step ((fail))
        go_big_quiet_step ((go_at_call 15; exact kept_call (CLP.out _ (KK.out _))))
        go_big_quiet_step ((fail))
        go_big_quiet_step ((go_at_call 15; exact kept_call (CLQ.out _ (KK.out _))))
        go_big_quiet_step ((fail))
        go_big_quiet_step ((first | rw [M2.out] | (simp [M2.out])))
        go_big_quiet_step ((fail))
        go_big_quiet_step ((fail))
        go_big_quiet_step ((fail))
        go_big_quiet_step ((go_at_call 15; exact kept_call (CLO.out _ (KK.out _))))
        go_big_quiet_step ((fail))
        go_big_quiet_step ((go_at_call 15; exact kept_call (CLP.out _ (KK.out _))))
        go_big_quiet_step ((fail))
        go_big_quiet_step ((go_at_call 15; exact kept_call (CLQ.out _ (KK.out _))))
        go_big_quiet_step ((fail))
        go_big_quiet_step ((first | rw [M3.out] | (simp [M3.out])))
        go_big_quiet_step ((fail))
        go_big_quiet_step ((fail))
        go_big_quiet_step ((fail))
        go_big_quiet_step ((go_at_call 15; exact kept_call (CLN.out _ (KK.out _))))
        go_big_quiet_step ((fail))
        go_big_quiet_step ((fail))
        go_big_quiet_step ((fail))
        go_big_quiet_step ((go_at_call 17; exact kept_call (awake_any _)))
        go_big_quiet_step ((fail))
        go_big_quiet_step ((fail))
        refine wpQuiet_nil ?_
        rintro _ ⟨v0, rfl⟩
        have HV8 := Lib.hid (KK.out v0)
        go_wp2
        go_ret
        exact ⟨rfl, HBF.out.trans (HV8.out.mono HBF.out.size)⟩
    | true =>
      cases hq with
      | false =>
        obtain rfl : hn = false := E1.out
        obtain rfl : hb = false := E2.out
        obtain rfl : ho = true := E3.out
        go_wp2_with fail
        refine wp_region_kept hmx (by kernel_rfl) ?_
        go_big_quiet_step ((fail))
        go_big_quiet_step ((fail))
        go_big_quiet_step ((go_at_call 14; exact kept_call (CHN.out _ (KK.out _))))
        go_big_quiet_step ((fail))
        go_big_quiet_step ((fail))
        go_big_quiet_step ((fail))
        go_big_quiet_step ((fail))
        go_big_quiet_step ((fail))
        go_big_quiet_step ((fail))
        go_big_quiet_step ((go_at_call 14; exact kept_call (CHB.out _ (KK.out _))))
        go_big_quiet_step ((fail))
        go_big_quiet_step ((fail))
        go_big_quiet_step ((fail))
        go_big_quiet_step ((fail))
        go_big_quiet_step ((fail))
        go_big_quiet_step ((fail))
        go_big_quiet_step ((fail))
        go_big_quiet_step ((fail))
        go_big_quiet_step ((fail))
        go_big_quiet_step ((go_at_call 14; exact kept_call (CHO.out _ (KK.out _))))
        go_big_quiet_step ((fail))
        go_big_quiet_step ((fail))
        go_big_quiet_step ((fail))
        go_big_quiet_step ((fail))
        go_big_quiet_step ((fail))
        go_big_quiet_step ((fail))
        go_big_quiet_step ((fail))
        go_big_quiet_step ((fail))
        go_big_quiet_step ((go_at_call 15; exact kept_call (CLB.out _ (KK.out _))))
        go_big_quiet_step ((fail))
        go_big_quiet_step ((go_at_call 15; exact kept_call (CLP.out _ (KK.out _))))
        go_big_quiet_step ((fail))
        go_big_quiet_step ((go_at_call 15; exact kept_call (CLQ.out _ (KK.out _))))
        go_big_quiet_step ((fail))
        go_big_quiet_step ((first | rw [M2.out] | (simp [M2.out])))
        go_big_quiet_step ((fail))
        go_big_quiet_step ((fail))
        go_big_quiet_step ((fail))
        go_big_quiet_step ((go_at_call 15; exact kept_call (CLO.out _ (KK.out _))))
        go_big_quiet_step ((fail))
        go_big_quiet_step ((go_at_call 15; exact kept_call (CLP.out _ (KK.out _))))
        go_big_quiet_step ((fail))
        go_big_quiet_step ((go_at_call 15; exact kept_call (CLQ.out _ (KK.out _))))
        go_big_quiet_step ((fail))
        go_big_quiet_step ((first | rw [M3.out] | (simp [M3.out])))
        go_big_quiet_step ((fail))
        go_big_quiet_step ((fail))
        go_big_quiet_step ((fail))
        go_big_quiet_step ((go_at_call 15; exact kept_call (CLN.out _ (KK.out _))))
        go_big_quiet_step ((fail))
        go_big_quiet_step ((fail))
        go_big_quiet_step ((fail))
        go_big_quiet_step ((go_at_call 17; exact kept_call (awake_any _)))
        go_big_quiet_step ((fail))
        go_big_quiet_step ((fail))
        refine wpQuiet_nil ?_
        rintro _ ⟨v0, rfl⟩
        have HV8 := Lib.hid (KK.out v0)
        go_wp2
        go_ret
        exact ⟨rfl, HBF.out.trans (HV8.out.mono HBF.out.size)⟩
      | true =>
        obtain rfl : hn = false := E1.out
        obtain rfl : hb = true := E2.out
        obtain rfl : ho = true := E3.out
        go_wp2_with fail
        refine wp_region_kept hmx (by kernel_rfl) ?_
        go_big_quiet_step ((fail))
        go_big_quiet_step ((fail))
        go_big_quiet_step ((go_at_call 14; exact kept_call (CHN.out _ (KK.out _))))
        go_big_quiet_step ((fail))
        go_big_quiet_step ((fail))
        go_big_quiet_step ((fail))
        go_big_quiet_step ((fail))
        go_big_quiet_step ((fail))
        go_big_quiet_step ((fail))
        go_big_quiet_step ((go_at_call 14; exact kept_call (CHB.out _ (KK.out _))))
        go_big_quiet_step ((fail))
        go_big_quiet_step ((fail))
        go_big_quiet_step ((fail))
        go_big_quiet_step ((fail))
        go_big_quiet_step ((fail))
        go_big_quiet_step ((fail))
        go_big_quiet_step ((fail))
        go_big_quiet_step ((fail))
        go_big_quiet_step ((fail))
        go_big_quiet_step ((go_at_call 14; exact kept_call (CHO.out _ (KK.out _))))
        go_big_quiet_step ((fail))
        go_big_quiet_step ((fail))
        go_big_quiet_step ((fail))
        go_big_quiet_step ((fail))
        go_big_quiet_step ((fail))
        go_big_quiet_step ((fail))
        go_big_quiet_step ((fail))
        go_big_quiet_step ((fail))
        go_big_quiet_step ((go_at_call 15; exact kept_call (CLB.out _ (KK.out _))))
        go_big_quiet_step ((fail))
        go_big_quiet_step ((go_at_call 15; exact kept_call (CLP.out _ (KK.out _))))
        go_big_quiet_step ((fail))
        go_big_quiet_step ((go_at_call 15; exact kept_call (CLQ.out _ (KK.out _))))
        go_big_quiet_step ((fail))
        go_big_quiet_step ((first | rw [M2.out] | (simp [M2.out])))
        go_big_quiet_step ((fail))
        go_big_quiet_step ((fail))
        go_big_quiet_step ((fail))
        go_big_quiet_step ((go_at_call 15; exact kept_call (CLO.out _ (KK.out _))))
        go_big_quiet_step ((fail))
        go_big_quiet_step ((go_at_call 15; exact kept_call (CLP.out _ (KK.out _))))
        go_big_quiet_step ((fail))
        go_big_quiet_step ((go_at_call 15; exact kept_call (CLQ.out _ (KK.out _))))
        go_big_quiet_step ((fail))
        go_big_quiet_step ((first | rw [M3.out] | (simp [M3.out])))
        go_big_quiet_step ((fail))
        go_big_quiet_step ((fail))
        go_big_quiet_step ((fail))
        go_big_quiet_step ((go_at_call 15; exact kept_call (CLN.out _ (KK.out _))))
        go_big_quiet_step ((fail))
        go_big_quiet_step ((fail))
        go_big_quiet_step ((fail))
        go_big_quiet_step ((go_at_call 17; exact kept_call (awake_any _)))
        go_big_quiet_step ((fail))
        go_big_quiet_step ((fail))
        refine wpQuiet_nil ?_
        rintro _ ⟨v0, rfl⟩
        have HV8 := Lib.hid (KK.out v0)
        go_wp2
        go_ret
        exact ⟨rfl, HBF.out.trans (HV8.out.mono HBF.out.size)⟩
theorem turns_walk (x : Ex) (v : Value) (w : World) (ok : Nat → Prop) (hb : bulkE x ≤ 1048576) (hx : ExtAt w ok x v) (y : Ex) (v' : Value) (ok' : Nat → Prop) (hb' : bulkE y ≤ 1048576) (hx' : ExtAt w ok' y v') (a : Option Addr) (n cap : Nat) (zs : List ByteArray) (hz : TagRow w a n zs) :
    Calls Tryd.prog 5 #[v, v', .slice a n cap] w fun e w' => e = .returned (.bool true) ∧ Below w.heap.size w w' := by
  by_cases h1 : 100 < nodesE x
  · exact turns_long x v w ok hb hx y v' ok' hb' hx' a n cap (.inl h1)
  by_cases h2 : 100 < nodesE y
  · exact turns_long x v w ok hb hx y v' ok' hb' hx' a n cap (.inr (.inl ⟨by omega, h2⟩))
  by_cases h3 : 20 < n
  · exact turns_long x v w ok hb hx y v' ok' hb' hx' a n cap (.inr (.inr ⟨by omega, by omega, h3⟩))
  exact turns_go x v w ok hb hx y v' ok' hb' hx' a n cap zs hz (by omega) (by omega) (by omega)
end Go.Proofs.YtojdhlmmnhjolaaDoor
