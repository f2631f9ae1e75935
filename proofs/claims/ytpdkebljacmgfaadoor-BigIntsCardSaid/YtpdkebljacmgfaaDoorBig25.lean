/- demoticlaw09: BigInts. -/
import Derived.Test.YtpdkebljacmgfaaDoorBig24
namespace Go.Proofs.YtpdkebljacmgfaaDoor
open Go.RowKit
set_option linter.unusedVariables false

theorem small_lim {z : Int} (h0 : -9223372036854775808 ≤ z) (h1 : z ≤ 9223372036854775807) : z.natAbs < limN := by
  have : (9223372036854775808 : Nat) < limN := by decide +kernel
  omega
theorem mul_small {x y : Int} (hx : x.natAbs ≤ 2147483648) (hy : y.natAbs ≤ 2147483648) : (x * y).natAbs ≤ 4611686018427387904 := by
  rw [Int.natAbs_mul]
  exact Nat.mul_le_mul hx hy

set_option maxHeartbeats 4000000 in
set_option maxRecDepth 1000000 in
theorem ints_walk (x y : Int) (w : World) (hx0 : -2147483648 ≤ x) (hx1 : x ≤ 2147483647) (hy0 : -2147483648 ≤ y) (hy1 : y ≤ 2147483647) (htab : Tab w) : Calls Tryd.prog 8 #[.int .i32 x, .int .i32 y] w fun e w' => e = .returned (.bool true) ∧ Below w.heap.size w w' := by
  have hm := mul_small (x := x) (y := y) (by omega) (by omega)
  have hq : (x.tdiv y).natAbs ≤ x.natAbs := by rw [Int.natAbs_tdiv]; exact Nat.div_le_self _ _
  have hr : (x.tmod y).natAbs ≤ x.natAbs := by rw [Int.natAbs_tmod]; exact Nat.mod_le _ _
  obtain ⟨X, hX⟩ := text_of x
  obtain ⟨Y, hY⟩ := text_of y
  obtain ⟨S, hS⟩ := text_of (x + y)
  obtain ⟨P, hP⟩ := text_of (x * y)
  obtain ⟨D, hD⟩ := text_of (x.tdiv y)
  obtain ⟨R, hR⟩ := text_of (x.tmod y)
  have TX := Lib.hid (written_val x (by omega) (by omega) X hX)
  have TY := Lib.hid (written_val y (by omega) (by omega) Y hY)
  have TS := Lib.hid (written_val (x + y) (by omega) (by omega) S hS)
  have TP := Lib.hid (written_val (x * y) (by omega) (by omega) P hP)
  have TD := Lib.hid (written_val (x.tdiv y) (by omega) (by omega) D hD)
  have TR := Lib.hid (written_val (x.tmod y) (by omega) (by omega) R hR)
  have rX := Lib.hid (read_back hX (small_lim (by omega) (by omega)))
  have rY := Lib.hid (read_back hY (small_lim (by omega) (by omega)))
  have lS := Lib.hid (small_lim (z := x + y) (by omega) (by omega))
  have lP := Lib.hid (small_lim (z := x * y) (by omega) (by omega))
  have lD := Lib.hid (small_lim (z := x.tdiv y) (by omega) (by omega))
  have lR := Lib.hid (small_lim (z := x.tmod y) (by omega) (by omega))
  have HS := Lib.hid hS
  have HP := Lib.hid hP
  have HD := Lib.hid hD
  have HR := Lib.hid hR
  have HT := Lib.hid htab
  have HB0 := Lib.hid (Below.refl w.heap.size w)
  have m0 : -4611686018427387904 ≤ x * y := by omega
  have m1 : x * y ≤ 4611686018427387904 := by omega
  have hnc : ((y == 0) = true ∧ y = 0) ∨ ((y == 0) = false ∧ y ≠ 0) := by
    by_cases h : y = 0
    · exact .inl ⟨by rw [h]; rfl, h⟩
    · exact .inr ⟨beq_eq_false_iff_ne.2 h, h⟩
  have q0 : -2147483648 ≤ x.tdiv y := by omega
  have q1 : x.tdiv y ≤ 2147483648 := by omega
  clear htab hX hY hS hP hD hR hm hq hr
  rcases hnc with ⟨g0, hz⟩ | ⟨g0, hz⟩
  · clear hz
    go_enter Tryd.func8, Tryd.ntmps8
    have HBX := HB0
    go_wp2_with fail
    refine (TX.out w (HT.out.below HB0.out)).mono ?_
    rintro e w1 ⟨rfl, hb⟩
    have HB1 := Lib.hid (HB0.out.trans (hb.mono HB0.out.size))
    clear hb
    go_wp2_with fail
    refine (TY.out w1 (HT.out.below HB1.out)).mono ?_
    rintro e w2 ⟨rfl, hb⟩
    have HB2 := Lib.hid (HB1.out.trans (hb.mono HB1.out.size))
    clear hb
    go_wp2_with fail
    refine (Sum_any X Y w2 (HT.out.below HB2.out)).mono ?_
    intro e w3 he
    obtain ⟨rfl, hb⟩ := ends_ok (u := S) he rX.out rY.out rfl lS.out HS.out
    have HB3 := Lib.hid (HB2.out.trans (hb.mono HB2.out.size))
    clear he hb
    go_wp2_with fail
    refine (TX.out w3 (HT.out.below HB3.out)).mono ?_
    rintro e w4 ⟨rfl, hb⟩
    have HB4 := Lib.hid (HB3.out.trans (hb.mono HB3.out.size))
    clear hb
    go_wp2_with fail
    refine (TY.out w4 (HT.out.below HB4.out)).mono ?_
    rintro e w5 ⟨rfl, hb⟩
    have HB5 := Lib.hid (HB4.out.trans (hb.mono HB4.out.size))
    clear hb
    go_wp2_with fail
    refine (Times_any X Y w5 (HT.out.below HB5.out)).mono ?_
    intro e w6 he
    obtain ⟨rfl, hb⟩ := ends_ok (u := P) he rX.out rY.out rfl lP.out HP.out
    have HB6 := Lib.hid (HB5.out.trans (hb.mono HB5.out.size))
    clear he hb
    go_wp2_with fail
    refine (TS.out w6 (HT.out.below HB6.out)).mono ?_
    rintro e w7 ⟨rfl, hb⟩
    have HB7 := Lib.hid (HB6.out.trans (hb.mono HB6.out.size))
    clear hb
    go_wp2_with fail
    refine (TP.out w7 (HT.out.below HB7.out)).mono ?_
    rintro e w8 ⟨rfl, hb⟩
    have HB8 := Lib.hid (HB7.out.trans (hb.mono HB7.out.size))
    clear hb
    go_wp2_with fail
    refine (awake_any w8 (HT.out.below HB8.out)).mono ?_
    rintro e w9 ⟨rfl, hb⟩
    have HB9 := Lib.hid (HB8.out.trans (hb.mono HB8.out.size))
    clear hb
    go_wp2
    go_ret
    exact ⟨rfl, HB9.out⟩
  · go_enter Tryd.func8, Tryd.ntmps8
    have HBX := HB0
    go_wp2_with fail
    refine (TX.out w (HT.out.below HB0.out)).mono ?_
    rintro e w1 ⟨rfl, hb⟩
    have HB1 := Lib.hid (HB0.out.trans (hb.mono HB0.out.size))
    clear hb
    go_wp2_with fail
    refine (TY.out w1 (HT.out.below HB1.out)).mono ?_
    rintro e w2 ⟨rfl, hb⟩
    have HB2 := Lib.hid (HB1.out.trans (hb.mono HB1.out.size))
    clear hb
    go_wp2_with fail
    refine (Sum_any X Y w2 (HT.out.below HB2.out)).mono ?_
    intro e w3 he
    obtain ⟨rfl, hb⟩ := ends_ok (u := S) he rX.out rY.out rfl lS.out HS.out
    have HB3 := Lib.hid (HB2.out.trans (hb.mono HB2.out.size))
    clear he hb
    go_wp2_with fail
    refine (TX.out w3 (HT.out.below HB3.out)).mono ?_
    rintro e w4 ⟨rfl, hb⟩
    have HB4 := Lib.hid (HB3.out.trans (hb.mono HB3.out.size))
    clear hb
    go_wp2_with fail
    refine (TY.out w4 (HT.out.below HB4.out)).mono ?_
    rintro e w5 ⟨rfl, hb⟩
    have HB5 := Lib.hid (HB4.out.trans (hb.mono HB4.out.size))
    clear hb
    go_wp2_with fail
    refine (Times_any X Y w5 (HT.out.below HB5.out)).mono ?_
    intro e w6 he
    obtain ⟨rfl, hb⟩ := ends_ok (u := P) he rX.out rY.out rfl lP.out HP.out
    have HB6 := Lib.hid (HB5.out.trans (hb.mono HB5.out.size))
    clear he hb
    go_wp2_with fail
    refine (TS.out w6 (HT.out.below HB6.out)).mono ?_
    rintro e w7 ⟨rfl, hb⟩
    have HB7 := Lib.hid (HB6.out.trans (hb.mono HB6.out.size))
    clear hb
    go_wp2_with fail
    refine (TP.out w7 (HT.out.below HB7.out)).mono ?_
    rintro e w8 ⟨rfl, hb⟩
    have HB8 := Lib.hid (HB7.out.trans (hb.mono HB7.out.size))
    clear hb
    go_wp2_with fail
    refine (TX.out w8 (HT.out.below HB8.out)).mono ?_
    rintro e w9 ⟨rfl, hb⟩
    have HB9 := Lib.hid (HB8.out.trans (hb.mono HB8.out.size))
    clear hb
    go_wp2_with fail
    refine (TY.out w9 (HT.out.below HB9.out)).mono ?_
    rintro e w10 ⟨rfl, hb⟩
    have HB10 := Lib.hid (HB9.out.trans (hb.mono HB9.out.size))
    clear hb
    go_wp2_with fail
    refine (Quotient_any X Y w10 (HT.out.below HB10.out)).mono ?_
    intro e w11 he
    obtain ⟨rfl, hb⟩ := ends_div (u := D) he rX.out rY.out hz rfl lD.out HD.out
    have HB11 := Lib.hid (HB10.out.trans (hb.mono HB10.out.size))
    clear he hb
    go_wp2_with fail
    refine (TX.out w11 (HT.out.below HB11.out)).mono ?_
    rintro e w12 ⟨rfl, hb⟩
    have HB12 := Lib.hid (HB11.out.trans (hb.mono HB11.out.size))
    clear hb
    go_wp2_with fail
    refine (TY.out w12 (HT.out.below HB12.out)).mono ?_
    rintro e w13 ⟨rfl, hb⟩
    have HB13 := Lib.hid (HB12.out.trans (hb.mono HB12.out.size))
    clear hb
    go_wp2_with fail
    refine (Rest_any X Y w13 (HT.out.below HB13.out)).mono ?_
    intro e w14 he
    obtain ⟨rfl, hb⟩ := ends_div (u := R) he rX.out rY.out hz rfl lR.out HR.out
    have HB14 := Lib.hid (HB13.out.trans (hb.mono HB13.out.size))
    clear he hb
    go_wp2_with fail
    refine (TD.out w14 (HT.out.below HB14.out)).mono ?_
    rintro e w15 ⟨rfl, hb⟩
    have HB15 := Lib.hid (HB14.out.trans (hb.mono HB14.out.size))
    clear hb
    go_wp2_with fail
    refine (TR.out w15 (HT.out.below HB15.out)).mono ?_
    rintro e w16 ⟨rfl, hb⟩
    have HB16 := Lib.hid (HB15.out.trans (hb.mono HB15.out.size))
    clear hb
    go_wp2_with fail
    refine (awake_any w16 (HT.out.below HB16.out)).mono ?_
    rintro e w17 ⟨rfl, hb⟩
    have HB17 := Lib.hid (HB16.out.trans (hb.mono HB16.out.size))
    clear hb
    go_wp2
    go_ret
    exact ⟨rfl, HB17.out⟩
theorem ints_door (x y : Int) (w : World) (hx : (Lit.int .i32 x).wf = true) (hy : (Lit.int .i32 y).wf = true) (htab : Tab w) : Calls Tryd.prog 8 #[.int .i32 x, .int .i32 y] w fun e w' => e = .returned (.bool true) ∧ Below w.heap.size w w' :=
  ints_walk x y w (bounds_i32 hx).1 (bounds_i32 hx).2 (bounds_i32 hy).1 (bounds_i32 hy).2 htab
end Go.Proofs.YtpdkebljacmgfaaDoor
