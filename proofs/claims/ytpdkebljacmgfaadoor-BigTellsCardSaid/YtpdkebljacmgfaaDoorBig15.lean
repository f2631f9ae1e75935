/- package big: sums of different signs; what is reckoned. -/
import Derived.Test.YtpdkebljacmgfaaDoorBig14
namespace Go.Proofs.YtpdkebljacmgfaaDoor
open Go.RowKit
set_option linter.unusedVariables false

theorem Boxes.swap {w W : World} {x0 x1 y0 y1 : Value} {z : Array Value} (h : Boxes w #[x0, x1] #[y0, y1] z W) :
    Boxes w #[y0, y1] #[x0, x1] z ((((W.setCell ⟨w.heap.size, 0, none⟩ y0).setCell ⟨w.heap.size, 1, none⟩ y1).setCell ⟨w.heap.size + 1, 0, none⟩ x0).setCell ⟨w.heap.size + 1, 1, none⟩ x1) := by
  have b1 := but_two W w.heap.size y0 y1
  have b2 := but_two ((W.setCell ⟨w.heap.size, 0, none⟩ y0).setCell ⟨w.heap.size, 1, none⟩ y1) (w.heap.size + 1) x0 x1
  have hs := h.size
  have s1 := b1.size
  refine ⟨(b2.block _ (by omega) (by omega)).trans (set_two h.one), set_two ((b1.block _ (by omega) (by omega)).trans h.two), (b2.block _ (by omega) (by omega)).trans ((b1.block _ (by omega) (by omega)).trans h.out), ?_, Nat.le_trans hs (Nat.le_trans s1 b2.size)⟩
  exact (h.below.trans (b1.below (Nat.le_refl _) (by omega))).trans (b2.below (by omega) (by omega))

set_option maxHeartbeats 4000000 in
set_option maxRecDepth 100000 in
theorem sum_diff (b1 b2 : Bool) (m1 m2 g1 o1 k1 g2 o2 k2 : Nat) (w : World) (h1 : RowAt w (some ⟨g1, o1, none⟩) (dgs m1)) (h2 : RowAt w (some ⟨g2, o2, none⟩) (dgs m2)) (l1 : (dgs m1).length ≤ 100) (l2 : (dgs m2).length ≤ 100) (hd : b1 = !b2) :
    Calls Tryd.prog 28 #[.agg #[.bool b1, .slice (some ⟨g1, o1, none⟩) (dgs m1).length k1], .agg #[.bool b2, .slice (some ⟨g2, o2, none⟩) (dgs m2).length k2]] w (MadeNum w (sgn b1 m1 + sgn b2 m2)) := by
  have CM := fun (W : World) (r1 : RowAt W (some ⟨g1, o1, none⟩) (dgs m1)) (r2 : RowAt W (some ⟨g2, o2, none⟩) (dgs m2)) (h : m2 ≤ m1) => minus_any m1 m2 g1 o1 (some ⟨g2, o2, none⟩) k1 k2 W r1 r2 h (by omega) (by omega)
  have CN := fun (W : World) (r1 : RowAt W (some ⟨g1, o1, none⟩) (dgs m1)) (r2 : RowAt W (some ⟨g2, o2, none⟩) (dgs m2)) (h : m1 ≤ m2) => minus_any m2 m1 g2 o2 (some ⟨g1, o1, none⟩) k2 k1 W r2 r1 h (by omega) (by omega)
  have CC := fun (W : World) (r1 : RowAt W (some ⟨g1, o1, none⟩) (dgs m1)) (r2 : RowAt W (some ⟨g2, o2, none⟩) (dgs m2)) => compare_any m1 m2 _ _ k1 k2 W r1 r2 (by omega) (by omega)
  obtain ⟨n1, hn1⟩ : ∃ n1, n1 = (dgs m1).length := ⟨_, rfl⟩
  obtain ⟨n2, hn2⟩ : ∃ n2, n2 = (dgs m2).length := ⟨_, rfl⟩
  rw [← hn1, ← hn2] at CM CN CC
  rw [← hn1, ← hn2]
  have HX := Lib.hid (boxed_boxes w #[.bool b1, .slice (some ⟨g1, o1, none⟩) n1 k1] #[.bool b2, .slice (some ⟨g2, o2, none⟩) n2 k2])
  have H1 := Lib.hid h1
  have H2 := Lib.hid h2
  have HCM := Lib.hid CM
  have HCN := Lib.hid CN
  have HCC := Lib.hid CC
  clear hn1 hn2 CM CN CC h1 h2 l1 l2
  have hne : (b1 == b2) = false := by subst hd; cases b2 <;> rfl
  have HD := Lib.hid hd
  clear hd
  go_enter Tryd.func28, Tryd.ntmps28
  go_wp2_with fail
  rw [show ((w.alloc (.cells #[.bool b1, .slice (some ⟨g1, o1, none⟩) n1 k1] 44)).alloc (.cells #[.bool b2, .slice (some ⟨g2, o2, none⟩) n2 k2] 44)).alloc (.cells #[.bool false, .slice none 0 0] 44) = boxed w #[.bool b1, .slice (some ⟨g1, o1, none⟩) n1 k1] #[.bool b2, .slice (some ⟨g2, o2, none⟩) n2 k2] from rfl]
  generalize boxed w #[.bool b1, .slice (some ⟨g1, o1, none⟩) n1 k1] #[.bool b2, .slice (some ⟨g2, o2, none⟩) n2 k2] = W0 at *
  have CC := HCC.out W0 (H1.out.below HX.out.below) (H2.out.below HX.out.below)
  refine CC.mono ?_
  rintro e W1 ⟨rfl, hb1⟩
  have HX1 := Lib.hid (HX.out.kept hb1)
  clear CC hb1 HX
  by_cases hlt : m1 < m2
  · rw [ordI_lt (show ((m1 : Nat) : Int) < ((m2 : Nat) : Int) by omega)]
    obtain ⟨⟨e0, e1⟩, ⟨e2, e3⟩⟩ := two_cells HX1.out.one
    obtain ⟨⟨f0, f1⟩, ⟨f2, f3⟩⟩ := two_cells HX1.out.two
    have HX := Lib.hid HX1.out.swap
    have HLT := Lib.hid hlt
    clear hlt
    go_wp2_with fail
    clear e0 e1 e2 e3 f0 f1 f2 f3 HX1
    generalize (((W1.setCell ⟨w.heap.size, 0, none⟩ (.bool b2)).setCell ⟨w.heap.size, 1, none⟩ (.slice (some ⟨g2, o2, none⟩) n2 k2)).setCell ⟨w.heap.size + 1, 0, none⟩ (.bool b1)).setCell ⟨w.heap.size + 1, 1, none⟩ (.slice (some ⟨g1, o1, none⟩) n1 k1) = W2 at *
    have c1 := fun x : ButOf (w.heap.size + 2) W2 => x.cell (two_cells HX.out.one).1.1 (by omega)
    have c2 := fun x : ButOf (w.heap.size + 2) W2 => x.cell (two_cells HX.out.one).1.2 (by omega)
    have c3 := fun x : ButOf (w.heap.size + 2) W2 => x.cell (two_cells HX.out.two).1.2 (by omega)
    refine wp_region_but (w.heap.size + 2) 6 (by kernel_rfl) (by kernel_rfl) (fun d _ _ _ _ h => by cases d <;> exact h) ?_
    simp only [List.take_succ_cons, List.take_zero, List.drop_succ_cons, List.drop_zero]
    repeat (go_big_quiet_step (fail))
    refine wpQuiet_nil ?_
    clear c1 c2 c3
    have hb0 : Below W2.heap.size W2 W2.drew := (Below.refl _ _).drew
    have hbx := HX.out.kept hb0
    have C := HCN.out _ (H1.out.below hbx.below) (H2.out.below hbx.below) (Nat.le_of_lt HLT.out)
    refine wpC_step fun K hK => ?_
    go_simp
    go_at_call 36
    refine C.mono ?_
    rintro e w' ⟨g, rfl, hg, hr, hb⟩
    have hbut := But.of_below (b := w.heap.size + 2) (hb0.trans hb)
    refine hK _ _ ⟨⟨_, hbut⟩, rfl⟩ ?_
    clear hK K
    have hby := hbx.kept hb
    have hg3 : w.heap.size + 3 ≤ g := Nat.le_trans hbx.size hg
    obtain ⟨⟨e0, e1⟩, ⟨e2, e3⟩⟩ := two_cells (show w'.heap[w.heap.size + 1 + 1]? = _ from hby.out)
    have hfin := hby.fin b2 (m2 - m1) g hg3 hr (sgn b1 m1 + sgn b2 m2) (by have := HLT.out; rw [HD.out]; cases b2 <;> simp [sgn] <;> omega)
    refine wpC_step fun K hK => ?_
    go_simp
    refine hK _ _ ⟨⟨_, hbut⟩, rfl⟩ ?_
    clear hK K
    refine wpC_step fun K hK => ?_
    go_simp
    refine hK _ _ ⟨⟨_, hbut.trans (but_two w' (w.heap.size + 2) _ _)⟩, rfl⟩ ?_
    clear hK K
    refine wpC_nil ?_
    have HF := Lib.hid hfin
    clear hfin hby hbut C hbx hb0 hb hr e0 e1 e2 e3
    go_wp2
    exact bodyPost_ret (num_result _ (by kernel_rfl) _ _ (w.heap.size + 2) _ _ rfl HF.out.1) rfl HF.out.2
  · have hge : m2 ≤ m1 := by omega
    have hor : ∃ c, ordI (m1 : Nat) (m2 : Nat) = c ∧ 0 ≤ c := by
      rcases ordI_cases (m1 : Nat) (m2 : Nat) with ⟨h, e⟩ | ⟨h, e⟩ | ⟨h, e⟩
      · omega
      · exact ⟨1, e, by omega⟩
      · exact ⟨0, e, by omega⟩
    obtain ⟨c, hc, hc0⟩ := hor
    rw [hc]
    have HX := Lib.hid HX1.out
    have HLT := Lib.hid hge
    clear hlt hge hc HX1
    go_wp2_with fail
    have c1 := fun x : ButOf (w.heap.size + 2) W1 => x.cell (two_cells HX.out.one).1.1 (by omega)
    have c2 := fun x : ButOf (w.heap.size + 2) W1 => x.cell (two_cells HX.out.one).1.2 (by omega)
    have c3 := fun x : ButOf (w.heap.size + 2) W1 => x.cell (two_cells HX.out.two).1.2 (by omega)
    refine wp_region_but (w.heap.size + 2) 6 (by kernel_rfl) (by kernel_rfl) (fun d _ _ _ _ h => by cases d <;> exact h) ?_
    simp only [List.take_succ_cons, List.take_zero, List.drop_succ_cons, List.drop_zero]
    repeat (go_big_quiet_step (fail))
    refine wpQuiet_nil ?_
    clear c1 c2 c3
    have hb0 : Below W1.heap.size W1 W1.drew := (Below.refl _ _).drew
    have hbx := HX.out.kept hb0
    have C := HCM.out _ (H1.out.below hbx.below) (H2.out.below hbx.below) HLT.out
    refine wpC_step fun K hK => ?_
    go_simp
    go_at_call 36
    refine C.mono ?_
    rintro e w' ⟨g, rfl, hg, hr, hb⟩
    have hbut := But.of_below (b := w.heap.size + 2) (hb0.trans hb)
    refine hK _ _ ⟨⟨_, hbut⟩, rfl⟩ ?_
    clear hK K
    have hby := hbx.kept hb
    have hg3 : w.heap.size + 3 ≤ g := Nat.le_trans hbx.size hg
    obtain ⟨⟨e0, e1⟩, ⟨e2, e3⟩⟩ := two_cells (show w'.heap[w.heap.size + 1 + 1]? = _ from hby.out)
    have hfin := hby.fin b1 (m1 - m2) g hg3 hr (sgn b1 m1 + sgn b2 m2) (by have := HLT.out; rw [HD.out]; cases b2 <;> simp [sgn] <;> omega)
    refine wpC_step fun K hK => ?_
    go_simp
    refine hK _ _ ⟨⟨_, hbut⟩, rfl⟩ ?_
    clear hK K
    refine wpC_step fun K hK => ?_
    go_simp
    refine hK _ _ ⟨⟨_, hbut.trans (but_two w' (w.heap.size + 2) _ _)⟩, rfl⟩ ?_
    clear hK K
    refine wpC_nil ?_
    have HF := Lib.hid hfin
    clear hfin hby hbut C hbx hb0 hb hr e0 e1 e2 e3
    go_wp2
    exact bodyPost_ret (num_result _ (by kernel_rfl) _ _ (w.heap.size + 2) _ _ rfl HF.out.1) rfl HF.out.2

theorem sum_any (b1 b2 : Bool) (m1 m2 g1 o1 k1 g2 o2 k2 : Nat) (w : World) (h1 : RowAt w (some ⟨g1, o1, none⟩) (dgs m1)) (h2 : RowAt w (some ⟨g2, o2, none⟩) (dgs m2)) (l1 : (dgs m1).length ≤ 100) (l2 : (dgs m2).length ≤ 100) :
    Calls Tryd.prog 28 #[.agg #[.bool b1, .slice (some ⟨g1, o1, none⟩) (dgs m1).length k1], .agg #[.bool b2, .slice (some ⟨g2, o2, none⟩) (dgs m2).length k2]] w (MadeNum w (sgn b1 m1 + sgn b2 m2)) := by
  by_cases h : b1 = b2
  · subst h
    exact sum_same b1 m1 m2 g1 o1 k1 g2 o2 k2 w h1 h2 (by omega) (by omega)
  · exact sum_diff b1 b2 m1 m2 g1 o1 k1 g2 o2 k2 w h1 h2 l1 l2 (by cases b1 <;> cases b2 <;> simp_all)
end Go.Proofs.YtpdkebljacmgfaaDoor
