/- package big: what is reckoned of two numbers. -/
import Derived.Test.YtpdkebljacmgfaaDoorBig15
import Derived.Test.YtpdkebljacmgfaaDoorPull2
namespace Go.Proofs.YtpdkebljacmgfaaDoor
open Go.RowKit
set_option linter.unusedVariables false

theorem sgn_less (b1 b2 : Bool) (m1 m2 : Nat) : sgn b1 m1 + sgn (!b2) m2 = sgn b1 m1 - sgn b2 m2 := by cases b2 <;> simp [sgn] <;> omega
theorem sgn_times (b1 b2 : Bool) (m1 m2 : Nat) : sgn (b1 != b2) (m1 * m2) = sgn b1 m1 * sgn b2 m2 := by
  cases b1 <;> cases b2 <;> simp [sgn, Int.neg_mul, Int.mul_neg]
theorem sgn_quo (b1 b2 : Bool) (m1 m2 : Nat) : sgn (b1 != b2) (m1 / m2) = (sgn b1 m1).tdiv (sgn b2 m2) := by
  cases b1 <;> cases b2 <;> simp [sgn, Int.neg_tdiv, Int.tdiv_neg]
theorem sgn_rest (b1 b2 : Bool) (m1 m2 : Nat) : sgn b1 (m1 % m2) = (sgn b1 m1).tmod (sgn b2 m2) := by
  have key : ((m1 : Nat) : Int).tmod ((m2 : Nat) : Int) = ((m1 % m2 : Nat) : Int) := rfl
  cases b1 <;> cases b2 <;> simp [sgn, Int.neg_tmod, Int.tmod_neg, key]

set_option maxHeartbeats 2000000 in
set_option maxRecDepth 100000 in
theorem sum1_any (b1 b2 : Bool) (m1 m2 g1 o1 k1 g2 o2 k2 : Nat) (w : World) (h1 : RowAt w (some ⟨g1, o1, none⟩) (dgs m1)) (h2 : RowAt w (some ⟨g2, o2, none⟩) (dgs m2)) (l1 : (dgs m1).length ≤ 100) (l2 : (dgs m2).length ≤ 100) :
    Calls Tryd.prog 27 #[.agg #[.bool b1, .slice (some ⟨g1, o1, none⟩) (dgs m1).length k1], .agg #[.bool b2, .slice (some ⟨g2, o2, none⟩) (dgs m2).length k2]] w (MadeNum w (sgn b1 m1 + sgn b2 m2)) := by
  have CS := fun (W : World) (r1 : RowAt W (some ⟨g1, o1, none⟩) (dgs m1)) (r2 : RowAt W (some ⟨g2, o2, none⟩) (dgs m2)) => sum_any b1 b2 m1 m2 g1 o1 k1 g2 o2 k2 W r1 r2 l1 l2
  obtain ⟨n1, hn1⟩ : ∃ n1, n1 = (dgs m1).length := ⟨_, rfl⟩
  obtain ⟨n2, hn2⟩ : ∃ n2, n2 = (dgs m2).length := ⟨_, rfl⟩
  rw [← hn1, ← hn2] at CS
  rw [← hn1, ← hn2]
  have HX := Lib.hid (boxed_boxes w #[.bool b1, .slice (some ⟨g1, o1, none⟩) n1 k1] #[.bool b2, .slice (some ⟨g2, o2, none⟩) n2 k2])
  have H1 := Lib.hid h1
  have H2 := Lib.hid h2
  have HCS := Lib.hid CS
  clear hn1 hn2 CS h1 h2 l1 l2
  have X1 := two_cells HX.out.one
  have X2 := two_cells HX.out.two
  obtain ⟨⟨c0, c1⟩, _⟩ := X1
  obtain ⟨⟨c2, c3⟩, _⟩ := X2
  unfold boxed at c0 c1 c2 c3
  go_enter Tryd.func27, Tryd.ntmps27
  go_wp2_with fail
  rw [show ((w.alloc (.cells #[.bool b1, .slice (some ⟨g1, o1, none⟩) n1 k1] 44)).alloc (.cells #[.bool b2, .slice (some ⟨g2, o2, none⟩) n2 k2] 44)).alloc (.cells #[.bool false, .slice none 0 0] 44) = boxed w #[.bool b1, .slice (some ⟨g1, o1, none⟩) n1 k1] #[.bool b2, .slice (some ⟨g2, o2, none⟩) n2 k2] from rfl]
  generalize boxed w #[.bool b1, .slice (some ⟨g1, o1, none⟩) n1 k1] #[.bool b2, .slice (some ⟨g2, o2, none⟩) n2 k2] = W0 at *
  have C := HCS.out W0 (H1.out.below HX.out.below) (H2.out.below HX.out.below)
  refine C.mono ?_
  rintro e w' ⟨b, m, g, hz, rfl, hg, hr, hb⟩
  have hby := HX.out.kept hb
  have hg3 : w.heap.size + 3 ≤ g := Nat.le_trans HX.out.size hg
  obtain ⟨⟨e0, e1⟩, ⟨e2, e3⟩⟩ := two_cells (show w'.heap[w.heap.size + 1 + 1]? = _ from hby.out)
  have HF := Lib.hid (hby.fin b m g hg3 hr _ hz)
  clear hby hz hr hb C HX c0 c1 c2 c3
  go_wp2
  exact bodyPost_ret (num_result _ (by kernel_rfl) _ _ (w.heap.size + 2) _ _ rfl HF.out.1) rfl HF.out.2

set_option maxHeartbeats 2000000 in
set_option maxRecDepth 100000 in
theorem less1_any (b1 b2 : Bool) (m1 m2 g1 o1 k1 g2 o2 k2 : Nat) (w : World) (h1 : RowAt w (some ⟨g1, o1, none⟩) (dgs m1)) (h2 : RowAt w (some ⟨g2, o2, none⟩) (dgs m2)) (l1 : (dgs m1).length ≤ 100) (l2 : (dgs m2).length ≤ 100) :
    Calls Tryd.prog 29 #[.agg #[.bool b1, .slice (some ⟨g1, o1, none⟩) (dgs m1).length k1], .agg #[.bool b2, .slice (some ⟨g2, o2, none⟩) (dgs m2).length k2]] w (MadeNum w (sgn b1 m1 - sgn b2 m2)) := by
  have CS := fun (W : World) (r1 : RowAt W (some ⟨g1, o1, none⟩) (dgs m1)) (r2 : RowAt W (some ⟨g2, o2, none⟩) (dgs m2)) => sum_any b1 (!b2) m1 m2 g1 o1 k1 g2 o2 k2 W r1 r2 l1 l2
  rw [← sgn_less]
  obtain ⟨n1, hn1⟩ : ∃ n1, n1 = (dgs m1).length := ⟨_, rfl⟩
  obtain ⟨n2, hn2⟩ : ∃ n2, n2 = (dgs m2).length := ⟨_, rfl⟩
  rw [← hn1, ← hn2] at CS
  rw [← hn1, ← hn2]
  have HX := Lib.hid (boxed_boxes w #[.bool b1, .slice (some ⟨g1, o1, none⟩) n1 k1] #[.bool b2, .slice (some ⟨g2, o2, none⟩) n2 k2])
  have H1 := Lib.hid h1
  have H2 := Lib.hid h2
  have HCS := Lib.hid CS
  clear hn1 hn2 CS h1 h2 l1 l2
  have X1 := two_cells HX.out.one
  have X2 := two_cells HX.out.two
  obtain ⟨⟨c0, c1⟩, _⟩ := X1
  obtain ⟨⟨c2, c3⟩, _⟩ := X2
  unfold boxed at c0 c1 c2 c3
  go_enter Tryd.func29, Tryd.ntmps29
  go_wp2_with fail
  rw [show ((w.alloc (.cells #[.bool b1, .slice (some ⟨g1, o1, none⟩) n1 k1] 44)).alloc (.cells #[.bool b2, .slice (some ⟨g2, o2, none⟩) n2 k2] 44)).alloc (.cells #[.bool false, .slice none 0 0] 44) = boxed w #[.bool b1, .slice (some ⟨g1, o1, none⟩) n1 k1] #[.bool b2, .slice (some ⟨g2, o2, none⟩) n2 k2] from rfl]
  generalize boxed w #[.bool b1, .slice (some ⟨g1, o1, none⟩) n1 k1] #[.bool b2, .slice (some ⟨g2, o2, none⟩) n2 k2] = W0 at *
  have C := HCS.out W0 (H1.out.below HX.out.below) (H2.out.below HX.out.below)
  refine C.mono ?_
  rintro e w' ⟨b, m, g, hz, rfl, hg, hr, hb⟩
  have hby := HX.out.kept hb
  have hg3 : w.heap.size + 3 ≤ g := Nat.le_trans HX.out.size hg
  obtain ⟨⟨e0, e1⟩, ⟨e2, e3⟩⟩ := two_cells (show w'.heap[w.heap.size + 1 + 1]? = _ from hby.out)
  have HF := Lib.hid (hby.fin b m g hg3 hr _ hz)
  clear hby hz hr hb C HX c0 c1 c2 c3
  go_wp2
  exact bodyPost_ret (num_result _ (by kernel_rfl) _ _ (w.heap.size + 2) _ _ rfl HF.out.1) rfl HF.out.2

set_option maxHeartbeats 2000000 in
set_option maxRecDepth 100000 in
theorem times1_any (b1 b2 : Bool) (m1 m2 g1 o1 k1 g2 o2 k2 : Nat) (w : World) (h1 : RowAt w (some ⟨g1, o1, none⟩) (dgs m1)) (h2 : RowAt w (some ⟨g2, o2, none⟩) (dgs m2)) (l1 : (dgs m1).length ≤ 100) (l2 : (dgs m2).length ≤ 100) :
    Calls Tryd.prog 30 #[.agg #[.bool b1, .slice (some ⟨g1, o1, none⟩) (dgs m1).length k1], .agg #[.bool b2, .slice (some ⟨g2, o2, none⟩) (dgs m2).length k2]] w (MadeNum w (sgn b1 m1 * sgn b2 m2)) := by
  have CS := fun (W : World) (r1 : RowAt W (some ⟨g1, o1, none⟩) (dgs m1)) (r2 : RowAt W (some ⟨g2, o2, none⟩) (dgs m2)) => times_any m1 m2 _ _ k1 k2 W r1 r2 (by omega) (by omega)
  obtain ⟨n1, hn1⟩ : ∃ n1, n1 = (dgs m1).length := ⟨_, rfl⟩
  obtain ⟨n2, hn2⟩ : ∃ n2, n2 = (dgs m2).length := ⟨_, rfl⟩
  rw [← hn1, ← hn2] at CS
  rw [← hn1, ← hn2]
  have HX := Lib.hid (boxed_boxes w #[.bool b1, .slice (some ⟨g1, o1, none⟩) n1 k1] #[.bool b2, .slice (some ⟨g2, o2, none⟩) n2 k2])
  have H1 := Lib.hid h1
  have H2 := Lib.hid h2
  have HCS := Lib.hid CS
  clear hn1 hn2 CS h1 h2 l1 l2
  go_enter Tryd.func30, Tryd.ntmps30
  go_wp2_with fail
  rw [show ((w.alloc (.cells #[.bool b1, .slice (some ⟨g1, o1, none⟩) n1 k1] 44)).alloc (.cells #[.bool b2, .slice (some ⟨g2, o2, none⟩) n2 k2] 44)).alloc (.cells #[.bool false, .slice none 0 0] 44) = boxed w #[.bool b1, .slice (some ⟨g1, o1, none⟩) n1 k1] #[.bool b2, .slice (some ⟨g2, o2, none⟩) n2 k2] from rfl]
  generalize boxed w #[.bool b1, .slice (some ⟨g1, o1, none⟩) n1 k1] #[.bool b2, .slice (some ⟨g2, o2, none⟩) n2 k2] = W0 at *
  have c1 := fun x : ButOf (w.heap.size + 2) W0 => x.cell (two_cells HX.out.one).1.1 (by omega)
  have c2 := fun x : ButOf (w.heap.size + 2) W0 => x.cell (two_cells HX.out.one).1.2 (by omega)
  have c3 := fun x : ButOf (w.heap.size + 2) W0 => x.cell (two_cells HX.out.two).1.1 (by omega)
  have c4 := fun x : ButOf (w.heap.size + 2) W0 => x.cell (two_cells HX.out.two).1.2 (by omega)
  refine wp_region_but (w.heap.size + 2) 9 (by kernel_rfl) (by kernel_rfl) (fun d _ _ _ _ h => by cases d <;> exact h) ?_
  simp only [List.take_succ_cons, List.take_zero, List.drop_succ_cons, List.drop_zero]
  repeat (go_big_quiet_step (fail))
  refine wpQuiet_nil ?_
  clear c1 c2 c3 c4
  have hb0 : Below W0.heap.size W0 W0.drew := (Below.refl _ _).drew
  have hbx := HX.out.kept hb0
  have C := HCS.out _ (H1.out.below hbx.below) (H2.out.below hbx.below)
  refine wpC_step fun K hK => ?_
  go_simp
  go_at_call 31
  refine C.mono ?_
  rintro e w' ⟨g, rfl, hg, hr, hb⟩
  have hbut := But.of_below (b := w.heap.size + 2) (hb0.trans hb)
  refine hK _ _ ⟨⟨_, hbut⟩, rfl⟩ ?_
  clear hK K
  have hby := hbx.kept hb
  have hg3 : w.heap.size + 3 ≤ g := Nat.le_trans hbx.size hg
  obtain ⟨⟨e0, e1⟩, ⟨e2, e3⟩⟩ := two_cells (show w'.heap[w.heap.size + 1 + 1]? = _ from hby.out)
  have hfin := hby.fin (b1 != b2) (m1 * m2) g hg3 hr (sgn b1 m1 * sgn b2 m2) (sgn_times b1 b2 m1 m2)
  refine wpC_step fun K hK => ?_
  go_simp
  refine hK _ _ ⟨⟨_, hbut⟩, rfl⟩ ?_
  clear hK K
  refine wpC_step fun K hK => ?_
  go_simp
  refine hK _ _ ⟨⟨_, hbut.trans (but_two w' (w.heap.size + 2) _ _)⟩, rfl⟩ ?_
  clear hK K
  refine wpC_nil ?_
  have HF := Lib.hid hfin
  clear hfin hby hbut C hbx hb0 hb hr e0 e1 e2 e3
  go_wp2
  exact bodyPost_ret (num_result _ (by kernel_rfl) _ _ (w.heap.size + 2) _ _ rfl HF.out.1) rfl HF.out.2

set_option maxHeartbeats 2000000 in
set_option maxRecDepth 100000 in
theorem quotient1_any (b1 b2 : Bool) (m1 m2 g1 o1 k1 g2 o2 k2 : Nat) (w : World) (h1 : RowAt w (some ⟨g1, o1, none⟩) (dgs m1)) (h2 : RowAt w (some ⟨g2, o2, none⟩) (dgs m2)) (l1 : (dgs m1).length ≤ 100) (l2 : (dgs m2).length ≤ 100) (hm2 : 0 < m2) :
    Calls Tryd.prog 33 #[.agg #[.bool b1, .slice (some ⟨g1, o1, none⟩) (dgs m1).length k1], .agg #[.bool b2, .slice (some ⟨g2, o2, none⟩) (dgs m2).length k2]] w (MadeNum w ((sgn b1 m1).tdiv (sgn b2 m2))) := by
  have CS := fun (W : World) (r1 : RowAt W (some ⟨g1, o1, none⟩) (dgs m1)) (r2 : RowAt W (some ⟨g2, o2, none⟩) (dgs m2)) => over_any m1 m2 _ _ k1 k2 W hm2 r1 r2 (by omega) (by omega)
  obtain ⟨n1, hn1⟩ : ∃ n1, n1 = (dgs m1).length := ⟨_, rfl⟩
  obtain ⟨n2, hn2⟩ : ∃ n2, n2 = (dgs m2).length := ⟨_, rfl⟩
  rw [← hn1, ← hn2] at CS
  rw [← hn1, ← hn2]
  have HX := Lib.hid (boxed_boxes w #[.bool b1, .slice (some ⟨g1, o1, none⟩) n1 k1] #[.bool b2, .slice (some ⟨g2, o2, none⟩) n2 k2])
  have H1 := Lib.hid h1
  have H2 := Lib.hid h2
  have HCS := Lib.hid CS
  clear hn1 hn2 CS h1 h2 l1 l2
  go_enter Tryd.func33, Tryd.ntmps33
  go_wp2_with fail
  rw [show ((w.alloc (.cells #[.bool b1, .slice (some ⟨g1, o1, none⟩) n1 k1] 44)).alloc (.cells #[.bool b2, .slice (some ⟨g2, o2, none⟩) n2 k2] 44)).alloc (.cells #[.bool false, .slice none 0 0] 44) = boxed w #[.bool b1, .slice (some ⟨g1, o1, none⟩) n1 k1] #[.bool b2, .slice (some ⟨g2, o2, none⟩) n2 k2] from rfl]
  generalize boxed w #[.bool b1, .slice (some ⟨g1, o1, none⟩) n1 k1] #[.bool b2, .slice (some ⟨g2, o2, none⟩) n2 k2] = W0 at *
  have c1 := fun x : ButOf (w.heap.size + 2) W0 => x.cell (two_cells HX.out.one).1.1 (by omega)
  have c2 := fun x : ButOf (w.heap.size + 2) W0 => x.cell (two_cells HX.out.one).1.2 (by omega)
  have c3 := fun x : ButOf (w.heap.size + 2) W0 => x.cell (two_cells HX.out.two).1.1 (by omega)
  have c4 := fun x : ButOf (w.heap.size + 2) W0 => x.cell (two_cells HX.out.two).1.2 (by omega)
  refine wp_region_but (w.heap.size + 2) 9 (by kernel_rfl) (by kernel_rfl) (fun d _ _ _ _ h => by cases d <;> exact h) ?_
  simp only [List.take_succ_cons, List.take_zero, List.drop_succ_cons, List.drop_zero]
  repeat (go_big_quiet_step (fail))
  refine wpQuiet_nil ?_
  clear c1 c2 c3 c4
  have hb0 : Below W0.heap.size W0 W0.drew := (Below.refl _ _).drew
  have hbx := HX.out.kept hb0
  have C := HCS.out _ (H1.out.below hbx.below) (H2.out.below hbx.below)
  refine wpC_step fun K hK => ?_
  go_simp
  go_at_call 34
  refine C.mono ?_
  rintro e w' ⟨g, rfl, hg, hr, hb⟩
  have hbut := But.of_below (b := w.heap.size + 2) (hb0.trans hb)
  refine hK _ _ ⟨⟨_, hbut⟩, rfl⟩ ?_
  clear hK K
  have hby := hbx.kept hb
  have hg3 : w.heap.size + 3 ≤ g := Nat.le_trans hbx.size hg
  obtain ⟨⟨e0, e1⟩, ⟨e2, e3⟩⟩ := two_cells (show w'.heap[w.heap.size + 1 + 1]? = _ from hby.out)
  have hfin := hby.fin (b1 != b2) (m1 / m2) g hg3 hr ((sgn b1 m1).tdiv (sgn b2 m2)) (sgn_quo b1 b2 m1 m2)
  refine wpC_step fun K hK => ?_
  go_simp
  refine hK _ _ ⟨⟨_, hbut⟩, rfl⟩ ?_
  clear hK K
  refine wpC_step fun K hK => ?_
  go_simp
  refine hK _ _ ⟨⟨_, hbut.trans (but_two w' (w.heap.size + 2) _ _)⟩, rfl⟩ ?_
  clear hK K
  refine wpC_nil ?_
  have HF := Lib.hid hfin
  clear hfin hby hbut C hbx hb0 hb hr e0 e1 e2 e3
  go_wp2
  exact bodyPost_ret (num_result _ (by kernel_rfl) _ _ (w.heap.size + 2) _ _ rfl HF.out.1) rfl HF.out.2

theorem wp_region_butL {P : Program} {id : Nat} {Q : Exit → Act → World → Prop} {a : Act} {w : World} {l : List Oper} (q : Nat) (hs ts : List Nat) (hm : P.follows .mixedOrders = true)
    (hB : (Region.noSelect l.toArray && decide (ts.length + hs.length = l.length) && pullL .any l.toArray hs (Array.replicate l.toArray.size false) && orderL .any l.toArray ts (pulledL hs (Array.replicate l.toArray.size false))) = true)
    (hQ : ∀ (d : Option Tmp) v c a w, Q (.panic c) (a.put d v) w → Q (.panic c) a w)
    (h : wpQuiet P l.toArray (fun w' => ∃ x : ButOf q w, w' = x.W) (fun a' => wpC P l.toArray (fun w' => ∃ x : ButOf q w, w' = x.W) Q (sel l ts) a' w.drew) (sel l hs) a) : (Code.region id l.toArray true).wp P Q a w :=
  wp_region_pullL (C := fun w' => ∃ x : ButOf q w, w' = x.W) hs ts hm hB hQ ⟨⟨_, But.of_below (Below.refl _ w).drew⟩, rfl⟩ h

set_option maxHeartbeats 4000000 in
set_option maxRecDepth 100000 in
theorem rest1_any (b1 b2 : Bool) (m1 m2 g1 o1 k1 g2 o2 k2 : Nat) (w : World) (h1 : RowAt w (some ⟨g1, o1, none⟩) (dgs m1)) (h2 : RowAt w (some ⟨g2, o2, none⟩) (dgs m2)) (l1 : (dgs m1).length ≤ 100) (l2 : (dgs m2).length ≤ 100) (hm2 : 0 < m2) :
    Calls Tryd.prog 35 #[.agg #[.bool b1, .slice (some ⟨g1, o1, none⟩) (dgs m1).length k1], .agg #[.bool b2, .slice (some ⟨g2, o2, none⟩) (dgs m2).length k2]] w (MadeNum w ((sgn b1 m1).tmod (sgn b2 m2))) := by
  have CO := fun (W : World) (r1 : RowAt W (some ⟨g1, o1, none⟩) (dgs m1)) (r2 : RowAt W (some ⟨g2, o2, none⟩) (dgs m2)) => over_any m1 m2 _ _ k1 k2 W hm2 r1 r2 (by omega) (by omega)
  have hq : (dgs (m1 / m2)).length ≤ 100 := Nat.le_trans (dgs_mono (Nat.div_le_self _ _)) l1
  have CT := fun (q : Nat) (W : World) (r1 : RowAt W (some ⟨q, 0, none⟩) (dgs (m1 / m2))) (r2 : RowAt W (some ⟨g2, o2, none⟩) (dgs m2)) => times_any (m1 / m2) m2 _ _ (dgs (m1 / m2)).length k2 W r1 r2 (by omega) (by omega)
  have hle : m1 / m2 * m2 ≤ m1 := Nat.div_mul_le_self _ _
  have ht : (dgs (m1 / m2 * m2)).length ≤ 100 := Nat.le_trans (dgs_mono hle) l1
  have CM := fun (q : Nat) (W : World) (r1 : RowAt W (some ⟨g1, o1, none⟩) (dgs m1)) (r2 : RowAt W (some ⟨q, 0, none⟩) (dgs (m1 / m2 * m2))) => minus_any m1 (m1 / m2 * m2) g1 o1 (some ⟨q, 0, none⟩) k1 (dgs (m1 / m2 * m2)).length W r1 r2 hle (by omega) (by omega)
  have hmod : m1 - m1 / m2 * m2 = m1 % m2 := by have := Nat.div_add_mod m1 m2; rw [Nat.mul_comm] at this; omega
  rw [hmod] at CM
  obtain ⟨n1, hn1⟩ : ∃ n1, n1 = (dgs m1).length := ⟨_, rfl⟩
  obtain ⟨n2, hn2⟩ : ∃ n2, n2 = (dgs m2).length := ⟨_, rfl⟩
  obtain ⟨nq, hnq⟩ : ∃ nq, nq = (dgs (m1 / m2)).length := ⟨_, rfl⟩
  obtain ⟨nt, hnt⟩ : ∃ nt, nt = (dgs (m1 / m2 * m2)).length := ⟨_, rfl⟩
  rw [← hn1, ← hn2] at CO
  rw [← hn2, ← hnq] at CT
  rw [← hn1, ← hnt] at CM
  rw [← hn1, ← hn2]
  have HX := Lib.hid (boxed_boxes w #[.bool b1, .slice (some ⟨g1, o1, none⟩) n1 k1] #[.bool b2, .slice (some ⟨g2, o2, none⟩) n2 k2])
  have H1 := Lib.hid h1
  have H2 := Lib.hid h2
  have HCO := Lib.hid CO
  have HCT := Lib.hid CT
  have HCM := Lib.hid CM
  have HNQ := Lib.hid hnq
  have HNT := Lib.hid hnt
  clear hn1 hn2 hnq hnt CO CT CM h1 h2 l1 l2 hq hle ht hmod
  go_enter Tryd.func35, Tryd.ntmps35
  go_wp2_with fail
  rw [show ((w.alloc (.cells #[.bool b1, .slice (some ⟨g1, o1, none⟩) n1 k1] 44)).alloc (.cells #[.bool b2, .slice (some ⟨g2, o2, none⟩) n2 k2] 44)).alloc (.cells #[.bool false, .slice none 0 0] 44) = boxed w #[.bool b1, .slice (some ⟨g1, o1, none⟩) n1 k1] #[.bool b2, .slice (some ⟨g2, o2, none⟩) n2 k2] from rfl]
  generalize boxed w #[.bool b1, .slice (some ⟨g1, o1, none⟩) n1 k1] #[.bool b2, .slice (some ⟨g2, o2, none⟩) n2 k2] = W0 at *
  have c1 := fun x : ButOf (w.heap.size + 2) W0 => x.cell (two_cells HX.out.one).1.2 (by omega)
  have c2 := fun x : ButOf (w.heap.size + 2) W0 => x.cell (two_cells HX.out.two).1.2 (by omega)
  refine wp_region_butL (w.heap.size + 2) [0, 1, 2, 3, 5, 6] [4, 7, 8] (by kernel_rfl) (by kernel_rfl) (fun d _ _ _ _ h => by cases d <;> exact h) ?_
  dsimp only [sel, List.filterMap, List.getElem?_cons_zero, List.getElem?_cons_succ]
  repeat (go_big_quiet_step (fail))
  refine wpQuiet_nil ?_
  clear c1 c2
  have hb0 : Below W0.heap.size W0 W0.drew := (Below.refl _ _).drew
  have hbx := HX.out.kept hb0
  have C := HCO.out _ (H1.out.below hbx.below) (H2.out.below hbx.below)
  refine wpC_step fun K hK => ?_
  go_simp
  go_at_call 34
  refine C.mono ?_
  rintro e w' ⟨g, rfl, hg, hr, hb⟩
  rw [← HNQ.out]
  have hbut := But.of_below (b := w.heap.size + 2) (hb0.trans hb)
  refine hK _ _ ⟨⟨_, hbut⟩, rfl⟩ ?_
  clear hK K
  have hby := hbx.kept hb
  have C2 := HCT.out g w' hr (H2.out.below hby.below)
  refine wpC_step fun K hK => ?_
  go_simp
  go_at_call 31
  refine C2.mono ?_
  rintro e W1 ⟨gt, rfl, hgt, hrt, hbt⟩
  rw [← HNT.out]
  refine hK _ _ ⟨⟨_, hbut.trans (But.of_below hbt)⟩, rfl⟩ ?_
  clear hK K
  have HX2 := Lib.hid (hby.kept hbt)
  have HRT := Lib.hid hrt
  have HGT := Lib.hid (Nat.le_trans hby.size hgt)
  refine wpC_step fun K hK => ?_
  go_simp
  refine hK _ _ ⟨⟨_, hbut.trans (But.of_below hbt)⟩, rfl⟩ ?_
  clear hK K
  refine wpC_nil ?_
  clear C C2 hbx hby hb0 hb hbt hr hrt hbut hg hgt HX
  have HX := HX2
  clear HX2
  go_wp2_with fail
  have c1 := fun x : ButOf (w.heap.size + 2) W1 => x.cell (two_cells HX.out.one).1.1 (by omega)
  have c2 := fun x : ButOf (w.heap.size + 2) W1 => x.cell (two_cells HX.out.one).1.2 (by omega)
  refine wp_region_but (w.heap.size + 2) 5 (by kernel_rfl) (by kernel_rfl) (fun d _ _ _ _ h => by cases d <;> exact h) ?_
  simp only [List.take_succ_cons, List.take_zero, List.drop_succ_cons, List.drop_zero]
  repeat (go_big_quiet_step (fail))
  refine wpQuiet_nil ?_
  clear c1 c2
  have hb0 : Below W1.heap.size W1 W1.drew := (Below.refl _ _).drew
  have hbx := HX.out.kept hb0
  have C := HCM.out gt _ (H1.out.below hbx.below) (HRT.out.below hb0)
  refine wpC_step fun K hK => ?_
  go_simp
  go_at_call 36
  refine C.mono ?_
  rintro e w' ⟨g, rfl, hg, hr, hb⟩
  have hbut := But.of_below (b := w.heap.size + 2) (hb0.trans hb)
  refine hK _ _ ⟨⟨_, hbut⟩, rfl⟩ ?_
  clear hK K
  have hby := hbx.kept hb
  have hg3 : w.heap.size + 3 ≤ g := Nat.le_trans hbx.size hg
  obtain ⟨⟨e0, e1⟩, ⟨e2, e3⟩⟩ := two_cells (show w'.heap[w.heap.size + 1 + 1]? = _ from hby.out)
  have hfin := hby.fin b1 (m1 % m2) g hg3 hr ((sgn b1 m1).tmod (sgn b2 m2)) (sgn_rest b1 b2 m1 m2)
  refine wpC_step fun K hK => ?_
  go_simp
  refine hK _ _ ⟨⟨_, hbut⟩, rfl⟩ ?_
  clear hK K
  refine wpC_step fun K hK => ?_
  go_simp
  refine hK _ _ ⟨⟨_, hbut.trans (but_two w' (w.heap.size + 2) _ _)⟩, rfl⟩ ?_
  clear hK K
  refine wpC_nil ?_
  have HF := Lib.hid hfin
  clear hfin hby hbut C hbx hb0 hb hr e0 e1 e2 e3
  go_wp2
  exact bodyPost_ret (num_result _ (by kernel_rfl) _ _ (w.heap.size + 2) _ _ rfl HF.out.1) rfl HF.out.2

end Go.Proofs.YtpdkebljacmgfaaDoor
