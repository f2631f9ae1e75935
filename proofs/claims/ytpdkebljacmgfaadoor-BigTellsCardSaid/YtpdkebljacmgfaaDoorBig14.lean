/- package big: the sum of two numbers. -/
import Derived.Test.YtpdkebljacmgfaaDoorBig13
import Derived.Test.YtpdkebljacmgfaaDoorPull
namespace Go.Proofs.YtpdkebljacmgfaaDoor
open Go.RowKit
set_option linter.unusedVariables false

/-- A world in which all stands that stood, but one block. -/
structure ButOf (q : Nat) (W0 : World) where
  W : World
  h : But q W0 W
instance (q : Nat) (w : World) : Nonempty (ButOf q w) := ⟨⟨w, But.refl q w⟩⟩
theorem wp_region_but {P : Program} {id : Nat} {Q : Exit → Act → World → Prop} {a : Act} {w : World} {l : List Oper} (q n : Nat) (hm : P.follows .mixedOrders = true)
    (hB : (Region.noSelect l.toArray && decide (n ≤ l.length) && pullB .any l.toArray n 0 (Array.replicate l.toArray.size false) && orderB .any l.toArray (l.length - n) n (pulled n 0 (Array.replicate l.toArray.size false))) = true)
    (hQ : ∀ (d : Option Tmp) v c a w, Q (.panic c) (a.put d v) w → Q (.panic c) a w)
    (h : wpQuiet P l.toArray (fun w' => ∃ x : ButOf q w, w' = x.W) (fun a' => wpC P l.toArray (fun w' => ∃ x : ButOf q w, w' = x.W) Q (l.drop n) a' w.drew) (l.take n) a) : (Code.region id l.toArray true).wp P Q a w :=
  wp_region_pull (C := fun w' => ∃ x : ButOf q w, w' = x.W) n hm hB hQ ⟨⟨_, But.of_below (Below.refl _ w).drew⟩, rfl⟩ h
theorem ButOf.cell {q : Nat} {w : World} {b o : Nat} {v : Value} (h : w.cell? ⟨b, o, none⟩ = some v) (hb : b ≠ q) (x : ButOf q w) : x.W.cell? ⟨b, o, none⟩ = some v := by
  have hlt : b < w.heap.size := by
    rcases Nat.lt_or_ge b w.heap.size with h' | h'
    · exact h'
    · simp [World.cell?, Array.getElem?_eq_none h'] at h
  have e := x.h.block b hlt hb
  simp only [World.cell?, e] at h ⊢
  exact h

/-- A number of a sign and an amount. -/
def sgn (b : Bool) (m : Nat) : Int := if b then -(m : Int) else m
/-- What a call that makes a number ends with. -/
def MadeNum (w : World) (z : Int) (e : Ending) (w' : World) : Prop := ∃ b m g, sgn b m = z ∧ e = .returned (.agg #[.bool b, .slice (some ⟨g, 0, none⟩) (dgs m).length (dgs m).length]) ∧ w.heap.size ≤ g ∧ RowAt w' (some ⟨g, 0, none⟩) (dgs m) ∧ Below w.heap.size w w'
theorem num_result (fn : Func) (h : fn.results = #[.cell 4 44]) (tmps : Array Value) (W : World) (q : Nat) (x y : Value) (h4 : tmps.getD 4 undef = .pointer (some ⟨q, 0, none⟩)) (hq : W.heap[q]? = some (.cells #[x, y] 44 (0, 0))) :
    (results fn tmps).run Tryd.prog W = .ok (.agg #[x, y]) W := by
  have k4 : tmps[4]?.getD undef = .pointer (some ⟨q, 0, none⟩) := by simpa using h4
  have c0 : W.cell? ⟨q, 0, none⟩ = some x := by simp [World.cell?, hq]
  have c1 : W.cell? ⟨q, 1, none⟩ = some y := by simp [World.cell?, hq]
  simp [results, h, k4, asAddr, go_sem, c0, c1]
/-- Two numbers in boxes, and room for a third one. -/
def boxed (w : World) (x y : Array Value) : World := ((w.alloc (.cells x 44)).alloc (.cells y 44)).alloc (.cells #[.bool false, .slice none 0 0] 44)
structure Boxes (w : World) (x y z : Array Value) (W : World) : Prop where
  one : W.heap[w.heap.size]? = some (.cells x 44 (0, 0))
  two : W.heap[w.heap.size + 1]? = some (.cells y 44 (0, 0))
  out : W.heap[w.heap.size + 2]? = some (.cells z 44 (0, 0))
  below : Below w.heap.size w W
  size : w.heap.size + 3 ≤ W.heap.size
theorem boxed_boxes (w : World) (x y : Array Value) : Boxes w x y #[.bool false, .slice none 0 0] (boxed w x y) := by
  unfold boxed
  refine ⟨?_, ?_, ?_, (((Below.refl w.heap.size w).alloc (Nat.le_refl _) _).alloc (by simp) _).alloc (by simp; omega) _, by simp⟩
  · rw [Below.heap_alloc _ _ _ (by simp; omega), Below.heap_alloc _ _ _ (by simp)]
    exact heap_alloc_new _ _
  · have := heap_alloc_new (w.alloc (.cells x 44)) (.cells y 44)
    rw [Below.heap_alloc _ _ _ (by simp)]
    simpa using this
  · have := heap_alloc_new ((w.alloc (.cells x 44)).alloc (.cells y 44)) (.cells #[.bool false, .slice none 0 0] 44)
    simpa using this
theorem Boxes.kept {w W W' : World} {x y z : Array Value} (h : Boxes w x y z W) (hb : Below W.heap.size W W') : Boxes w x y z W' :=
  ⟨(hb.block _ (by have := h.size; omega)).trans h.one, (hb.block _ (by have := h.size; omega)).trans h.two, (hb.block _ (by have := h.size; omega)).trans h.out, h.below.trans (hb.mono h.below.size), Nat.le_trans h.size hb.size⟩
theorem but_size {b : Nat} {w W : World} (h : But b w W) : w.heap.size ≤ W.heap.size := h.size
theorem but_two (w : World) (q : Nat) (a b : Value) : But q w ((w.setCell ⟨q, 0, none⟩ a).setCell ⟨q, 1, none⟩ b) := (But.set q 0 a).trans (But.set q 1 b)
/-- What is made stands in the room. -/
theorem Boxes.fin {w W : World} {x y : Array Value} {z0 z1 : Value} (h : Boxes w x y #[z0, z1] W) (b : Bool) (m g : Nat) (hg : w.heap.size + 3 ≤ g) (hr : RowAt W (some ⟨g, 0, none⟩) (dgs m)) (z : Int) (hz : sgn b m = z) :
    ((W.setCell ⟨w.heap.size + 2, 0, none⟩ (.bool b)).setCell ⟨w.heap.size + 2, 1, none⟩ (.slice (some ⟨g, 0, none⟩) (dgs m).length (dgs m).length)).heap[w.heap.size + 2]? = some (.cells #[.bool b, .slice (some ⟨g, 0, none⟩) (dgs m).length (dgs m).length] 44 (0, 0)) ∧
    MadeNum w z (.returned (.agg #[.bool b, .slice (some ⟨g, 0, none⟩) (dgs m).length (dgs m).length])) ((W.setCell ⟨w.heap.size + 2, 0, none⟩ (.bool b)).setCell ⟨w.heap.size + 2, 1, none⟩ (.slice (some ⟨g, 0, none⟩) (dgs m).length (dgs m).length)) :=
  ⟨set_two h.out, b, m, g, hz, rfl, by omega, hr.but (but_two _ _ _ _) (.inr ⟨g, 0, rfl, by omega⟩), h.below.trans ((but_two _ _ _ _).below (by omega) h.below.size)⟩

set_option maxHeartbeats 2000000 in
set_option maxRecDepth 100000 in
theorem sum_same (b : Bool) (m1 m2 g1 o1 k1 g2 o2 k2 : Nat) (w : World) (h1 : RowAt w (some ⟨g1, o1, none⟩) (dgs m1)) (h2 : RowAt w (some ⟨g2, o2, none⟩) (dgs m2)) (l1 : (dgs m1).length ≤ 500) (l2 : (dgs m2).length ≤ 500) :
    Calls Tryd.prog 28 #[.agg #[.bool b, .slice (some ⟨g1, o1, none⟩) (dgs m1).length k1], .agg #[.bool b, .slice (some ⟨g2, o2, none⟩) (dgs m2).length k2]] w (MadeNum w (sgn b m1 + sgn b m2)) := by
  have C := fun (W : World) (r1 : RowAt W (some ⟨g1, o1, none⟩) (dgs m1)) (r2 : RowAt W (some ⟨g2, o2, none⟩) (dgs m2)) => plus_any m1 m2 _ _ k1 k2 W r1 r2 (by omega) (by omega)
  obtain ⟨n1, hn1⟩ : ∃ n1, n1 = (dgs m1).length := ⟨_, rfl⟩
  obtain ⟨n2, hn2⟩ : ∃ n2, n2 = (dgs m2).length := ⟨_, rfl⟩
  rw [← hn1, ← hn2] at C
  rw [← hn1, ← hn2]
  have HX := Lib.hid (boxed_boxes w #[.bool b, .slice (some ⟨g1, o1, none⟩) n1 k1] #[.bool b, .slice (some ⟨g2, o2, none⟩) n2 k2])
  have HC := Lib.hid C
  have H1 := Lib.hid h1
  have H2 := Lib.hid h2
  clear hn1 hn2 C h1 h2 l1 l2
  go_enter Tryd.func28, Tryd.ntmps28
  go_wp2_with fail
  rw [show ((w.alloc (.cells #[.bool b, .slice (some ⟨g1, o1, none⟩) n1 k1] 44)).alloc (.cells #[.bool b, .slice (some ⟨g2, o2, none⟩) n2 k2] 44)).alloc (.cells #[.bool false, .slice none 0 0] 44) = boxed w #[.bool b, .slice (some ⟨g1, o1, none⟩) n1 k1] #[.bool b, .slice (some ⟨g2, o2, none⟩) n2 k2] from rfl]
  generalize boxed w #[.bool b, .slice (some ⟨g1, o1, none⟩) n1 k1] #[.bool b, .slice (some ⟨g2, o2, none⟩) n2 k2] = W0 at *
  have c1 := fun x : ButOf (w.heap.size + 2) W0 => x.cell (two_cells HX.out.one).1.1 (by omega)
  have c2 := fun x : ButOf (w.heap.size + 2) W0 => x.cell (two_cells HX.out.one).1.2 (by omega)
  have c3 := fun x : ButOf (w.heap.size + 2) W0 => x.cell (two_cells HX.out.two).1.2 (by omega)
  refine wp_region_but (w.heap.size + 2) 6 (by kernel_rfl) (by kernel_rfl) (fun d _ _ _ _ h => by cases d <;> exact h) ?_
  simp only [List.take_succ_cons, List.take_zero, List.drop_succ_cons, List.drop_zero]
  repeat (go_big_quiet_step (fail))
  refine wpQuiet_nil ?_
  clear c1 c2 c3
  have hb0 : Below W0.heap.size W0 W0.drew := (Below.refl _ _).drew
  have hbx := HX.out.kept hb0
  have C := HC.out _ (H1.out.below hbx.below) (H2.out.below hbx.below)
  refine wpC_step fun K hK => ?_
  go_simp
  go_at_call 47
  refine C.mono ?_
  rintro e w' ⟨g, rfl, hg, hr, hb⟩
  have hbut := But.of_below (b := w.heap.size + 2) (hb0.trans hb)
  refine hK _ _ ⟨⟨_, hbut⟩, rfl⟩ ?_
  clear hK K
  have hby := hbx.kept hb
  have hg3 : w.heap.size + 3 ≤ g := Nat.le_trans hbx.size hg
  obtain ⟨⟨e0, e1⟩, ⟨e2, e3⟩⟩ := two_cells (show w'.heap[w.heap.size + 1 + 1]? = _ from hby.out)
  have hfin := hby.fin b (m1 + m2) g hg3 hr (sgn b m1 + sgn b m2) (by cases b <;> simp [sgn]; omega)
  refine wpC_step fun K hK => ?_
  go_simp
  refine hK _ _ ⟨⟨_, hbut⟩, rfl⟩ ?_
  clear hK K
  refine wpC_step fun K hK => ?_
  go_simp
  refine hK _ _ ⟨⟨_, hbut.trans (but_two w' (w.heap.size + 2) _ _)⟩, rfl⟩ ?_
  clear hK K
  refine wpC_nil ?_
  have HF := Lib.hid hfin
  clear hfin hby hbut C hbx hb0 hb hr e0 e1 e2 e3
  go_wp2
  exact bodyPost_ret (num_result _ (by kernel_rfl) _ _ (w.heap.size + 2) _ _ rfl HF.out.1) rfl HF.out.2
end Go.Proofs.YtpdkebljacmgfaaDoor
