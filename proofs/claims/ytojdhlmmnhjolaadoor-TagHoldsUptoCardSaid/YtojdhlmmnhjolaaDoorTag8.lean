/- package tag: a constraint, its parts being known. -/
import Derived.Test.YtojdhlmmnhjolaaDoorTag7
namespace Go.Proofs.YtojdhlmmnhjolaaDoor
open Go.RowKit
set_option linter.unusedVariables false

theorem FacEnds.since {b : Nat} {r : Option (Ex × List UInt8)} {u W w' : World} {e : Ending} (hb : But b u W) (h : FacEnds b r W e w') : FacEnds b r u e w' := by
  refine ⟨hb.trans h.1, ?_⟩
  cases r with
  | none => exact h.2
  | some y =>
    obtain ⟨x, l⟩ := y
    obtain ⟨⟨v, e, hx⟩, hr⟩ := h.2
    exact ⟨⟨v, e, ExtAt.moves (fun k hk hok => ⟨Nat.le_trans hb.size hok, rfl⟩) x v hx⟩, hr⟩
theorem fac_fin {b : Nat} {W w2 : World} {x : Ex} {l : List UInt8} {v : Value} (hbl : b < W.heap.size)
    (h : FacEnds b (some (x, l)) (W.alloc (.cells #[.string ⟨#[]⟩, .string ⟨#[]⟩, .slice none 0 0] 29)) (.returned v) w2) :
    ∃ o t a n c, v = .agg #[.string o, .string t, .slice a n c] ∧ w2.heap[W.heap.size]? = some (.cells #[.string ⟨#[]⟩, .string ⟨#[]⟩, .slice none 0 0] 29 (0, 0)) ∧
      (((w2.setCell ⟨W.heap.size, 0, none⟩ (.string o)).setCell ⟨W.heap.size, 1, none⟩ (.string t)).setCell ⟨W.heap.size, 2, none⟩ (.slice a n c)).heap[W.heap.size]? = some (.cells #[.string o, .string t, .slice a n c] 29 (0, 0)) ∧
      FacEnds b (some (x, l)) W (.returned (.agg #[.string o, .string t, .slice a n c])) (((w2.setCell ⟨W.heap.size, 0, none⟩ (.string o)).setCell ⟨W.heap.size, 1, none⟩ (.string t)).setCell ⟨W.heap.size, 2, none⟩ (.slice a n c)) := by
  obtain ⟨hb, ⟨v', e, hx⟩, hr⟩ := h
  injection e with e
  subst e
  obtain ⟨o, t, k⟩ := x
  rw [ExtAt_eq] at hx
  obtain ⟨a, c, rfl, hl⟩ := hx
  have hq : w2.heap[W.heap.size]? = some (.cells #[.string ⟨#[]⟩, .string ⟨#[]⟩, .slice none 0 0] 29 (0, 0)) := (hb.block _ (by simp) (by omega)).trans (heap_alloc_new _ _)
  have hB : But b W w2 := ((But.refl b W).alloc _).trans hb
  have hne : ∀ i, i ≠ W.heap.size → (((w2.setCell ⟨W.heap.size, 0, none⟩ (.string o)).setCell ⟨W.heap.size, 1, none⟩ (.string t)).setCell ⟨W.heap.size, 2, none⟩ (.slice a k.length c)).heap[i]? = w2.heap[i]? := fun i hi =>
    ((Below.heap_setCell _ ⟨W.heap.size, 2, none⟩ _ i (by exact hi)).trans (Below.heap_setCell _ ⟨W.heap.size, 1, none⟩ _ i (by exact hi))).trans (Below.heap_setCell _ ⟨W.heap.size, 0, none⟩ _ i (by exact hi))
  refine ⟨o, t, a, k.length, c, rfl, hq, three_set hq, ((hB.setCell (.inl (Nat.le_refl _)) _).setCell (.inl (Nat.le_refl _)) _).setCell (.inl (Nat.le_refl _)) _, ⟨_, rfl, ?_⟩, (hne b (by omega)).trans hr⟩
  rw [ExtAt_eq]
  refine ⟨a, c, rfl, ExtK.moves (fun i hi hok => ?_) _ _ _ hl⟩
  have hok' : W.heap.size + 1 ≤ i := by simpa using hok
  exact ⟨by omega, hne i (by omega)⟩

def FacOk (b f : Nat) : Prop := ∀ (l : ByteArray) (W : World), l.size < f → RdAt b l W → Calls Tryd.prog 49 #[.pointer (some ⟨b, 0, none⟩)] W fun e w' => FacEnds b (factorF f (ls l)) W e w'

set_option maxRecDepth 100000 in
theorem and_any (b q N : Nat) (hqb : q ≠ b) (hN : N ≤ 1000) (hf : FacOk b (N + 1)) (l : ByteArray) (w : World) (hl : l.size ≤ N) (hr : RdAt b l w) (hq : w.heap[q]? = some (.cells #[.pointer (some ⟨b, 0, none⟩)] 77 (0, 0))) :
    Calls Tryd.prog 48 #[.pointer (some ⟨q, 0, none⟩)] w fun e w' => FacEnds b (partsP andL (factorF (N + 1)) (ls l)) w e w' := by
  have hbl := lt_of_block hr
  have hql := lt_of_block hq
  have hr1 : RdAt b l (w.alloc (.cells #[.string ⟨#[]⟩, .string ⟨#[]⟩, .slice none 0 0] 29)) := (Below.heap_alloc _ _ _ hbl).trans hr
  have hq1 := (Below.heap_alloc w (.cells #[.string ⟨#[]⟩, .string ⟨#[]⟩, .slice none 0 0] 29) _ hql).trans hq
  have hW1 := (But.refl b w).alloc (.cells #[.string ⟨#[]⟩, .string ⟨#[]⟩, .slice none 0 0] 29)
  obtain ⟨d0, -⟩ := one_cell hq1
  have c1 := partsM_any b ⟨#[38, 38]⟩ (by decide) 49 (.pointer (some ⟨b, 0, none⟩)) (factorF (N + 1)) (factorF_eats _) (fun _ => True) (fun _ _ _ _ => trivial) (fun args W => by kernel_rfl) N hN (fun l W hl hr _ => hf l W (by omega) hr) l _ hl hr1 trivial
  have HBL := Lib.hid hbl
  have HW1 := Lib.hid hW1
  clear hr1 hq1 hW1 hf hbl hql hq hr
  have e : ls ⟨#[38, 38]⟩ = andL := rfl
  rw [e] at c1
  clear e
  cases hp : partsP andL (factorF (N + 1)) (ls l) with
  | none =>
    rw [hp] at c1
    clear hp
    go_enter Tryd.func48, Tryd.ntmps48
    go_wp2_with fail
    refine c1.mono ?_
    rintro e w2 ⟨hb2, he⟩
    obtain rfl : e = _ := he
    exact ⟨rfl, HW1.out.trans hb2, rfl⟩
  | some y =>
    obtain ⟨x, r⟩ := y
    rw [hp] at c1
    clear hp
    go_enter Tryd.func48, Tryd.ntmps48
    go_wp2_with fail
    refine c1.mono ?_
    intro e w2 h2
    obtain ⟨v, rfl, -⟩ := h2.2.1
    obtain ⟨o, t, a, n, c, rfl, hq2, hq3, hfin⟩ := fac_fin HBL.out h2
    obtain ⟨⟨e0, e1, e2⟩, z0, z1, z2⟩ := three_cells hq2
    have HF := Lib.hid hfin
    have HQ3 := Lib.hid hq3
    clear h2 hq2 hq3 hfin c1
    go_wp2
    refine bodyPost_end (ex_results _ _ rfl _ _ _ _ _ _ rfl HQ3.out) rfl ?_
    exact HF.out

set_option maxRecDepth 100000 in
theorem constraint_any (b N : Nat) (hN : N ≤ 1000) (hf : FacOk b (N + 1)) (l : ByteArray) (w : World) (hl : l.size ≤ N) (hr : RdAt b l w) :
    Calls Tryd.prog 38 #[.pointer (some ⟨b, 0, none⟩)] w fun e w' => FacEnds b (orP (factorF (N + 1)) (ls l)) w e w' := by
  have hbl := lt_of_block hr
  have hW1 := (But.refl b w).alloc (.cells #[.pointer (some ⟨b, 0, none⟩)] 77)
  have hb1 : b < (w.alloc (.cells #[.pointer (some ⟨b, 0, none⟩)] 77)).heap.size := by simp; omega
  have hr1 : RdAt b l (w.alloc (.cells #[.pointer (some ⟨b, 0, none⟩)] 77)) := (Below.heap_alloc _ _ _ hbl).trans hr
  have hq1 := heap_alloc_new w (.cells #[.pointer (some ⟨b, 0, none⟩)] 77)
  have hql := lt_of_block hq1
  have hsz : (w.alloc (.cells #[.pointer (some ⟨b, 0, none⟩)] 77)).heap.size = w.heap.size + 1 := by simp
  obtain ⟨q, hqe⟩ : ∃ q, q = w.heap.size := ⟨_, rfl⟩
  rw [← hqe] at hq1 hql
  have hqb : q ≠ b := by omega
  have hW2 := hW1.alloc (.cells #[.string ⟨#[]⟩, .string ⟨#[]⟩, .slice none 0 0] 29)
  have hr2 := (Below.heap_alloc _ (.cells #[.string ⟨#[]⟩, .string ⟨#[]⟩, .slice none 0 0] 29) _ hb1).trans hr1
  have hq2 := (Below.heap_alloc _ (.cells #[.string ⟨#[]⟩, .string ⟨#[]⟩, .slice none 0 0] 29) _ hql).trans hq1
  have c1 := partsC_any b ⟨#[124, 124]⟩ (by decide) 48 (.pointer (some ⟨q, 0, none⟩)) (partsP andL (factorF (N + 1))) (partsP_eats _ _ (factorF_eats _)) (fun W => W.heap[q]? = some (.cells #[.pointer (some ⟨b, 0, none⟩)] 77 (0, 0))) (fun W W' h hb => (hb.block q (lt_of_block h) hqb).trans h) (fun args W => by kernel_rfl) N hN (fun l W hl hr hi => and_any b q N hqb hN hf l W hl hr hi) l _ hl hr2 hq2
  obtain ⟨d0, -⟩ := one_cell hq2
  have HB1 := Lib.hid hb1
  have HW1 := Lib.hid hW1
  have HW2 := Lib.hid hW2
  have HSZ := Lib.hid hsz
  rw [hqe] at c1 d0
  clear hr1 hq1 hW1 hf hbl hql hr hr2 hq2 hb1 hsz hqe hqb hW2
  have e : ls ⟨#[124, 124]⟩ = orL := rfl
  rw [e] at c1
  clear e
  unfold orP
  cases hp : partsP orL (partsP andL (factorF (N + 1))) (ls l) with
  | none =>
    rw [hp] at c1
    clear hp
    go_enter Tryd.func38, Tryd.ntmps38
    go_wp2_with fail
    refine c1.mono ?_
    rintro e w2 ⟨hb2, he⟩
    obtain rfl : e = _ := he
    exact ⟨rfl, HW2.out.trans hb2, rfl⟩
  | some y =>
    obtain ⟨x, r⟩ := y
    rw [hp] at c1
    clear hp
    go_enter Tryd.func38, Tryd.ntmps38
    go_wp2_with fail
    refine c1.mono ?_
    intro e w2 h2
    obtain ⟨v, rfl, -⟩ := h2.2.1
    obtain ⟨o, t, a, n, c, rfl, hq2, hq3, hfin⟩ := fac_fin HB1.out h2
    rw [HSZ.out] at hq2 hq3 hfin
    obtain ⟨⟨e0, e1, e2⟩, z0, z1, z2⟩ := three_cells hq2
    have HF := Lib.hid (hfin.since HW1.out)
    have HQ3 := Lib.hid hq3
    clear h2 hq2 hq3 hfin c1
    go_wp2
    refine bodyPost_end (ex_results _ _ rfl _ _ _ _ _ _ rfl HQ3.out) rfl ?_
    exact HF.out
end Go.Proofs.YtojdhlmmnhjolaaDoor
