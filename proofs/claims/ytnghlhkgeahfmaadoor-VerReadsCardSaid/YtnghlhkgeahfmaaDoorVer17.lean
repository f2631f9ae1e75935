/- VerRests: what follows a minor does not count. -/
import Derived.Test.YtnghlhkgeahfmaaDoorVer16
import Derived.BigQuiet
namespace Go.Proofs.YtnghlhkgeahfmaaDoor
open Go.RowKit
set_option linter.unusedVariables false

theorem textV_dig (k : Nat) (h : k < 100) : textV (k : Int) = ⟨(49 :: 46 :: digL k).toArray⟩ := by
  unfold textV textL
  rw [if_neg (by omega), show ((k : Int)).toNat = k by omega, dec_dig k h]
theorem digL_len (k : Nat) : 1 ≤ (digL k).length ∧ (digL k).length ≤ 2 := by
  unfold digL
  split <;> simp

set_option maxHeartbeats 1000000 in
set_option maxRecDepth 100000 in
theorem rests_walk (a b : Int) (w : World) (ha : (Lit.int .u16 a).wf = true) (hb : (Lit.int .u16 b).wf = true) (hm : MaxLen w) : Calls Tryd.prog 8 #[.int .u16 a, .int .u16 b] w fun e w' => e = .returned (.bool true) ∧ Below w.heap.size w w' := by
  have ha := bounds_u16 ha
  have hb := bounds_u16 hb
  obtain ⟨m, hm1, hm2⟩ : ∃ m : Nat, m < 100 ∧ a % 100 = (m : Int) := ⟨(a % 100).toNat, by omega, by omega⟩
  obtain ⟨n, hn1, hn2⟩ : ∃ n : Nat, n < 100 ∧ b % 100 = (n : Int) := ⟨(b % 100).toNat, by omega, by omega⟩
  have HM := Lib.hid hm
  have c1 := fun w => text_any (m : Int) (by omega) (by omega) w
  have c2 := fun w => text_any (n : Int) (by omega) (by omega) w
  obtain ⟨tm, htm⟩ : ∃ tm, textV (m : Int) = tm := ⟨_, rfl⟩
  obtain ⟨tn, htn⟩ : ∃ tn, textV (n : Int) = tn := ⟨_, rfl⟩
  rw [htm] at c1
  rw [htn] at c2
  rw [textV_dig m hm1] at htm
  rw [textV_dig n hn1] at htn
  have hlm := digL_len m
  have hln := digL_len n
  have html : ls tm = 49 :: 46 :: digL m := by rw [← htm]
  have htms : tm.size = 2 + (digL m).length := by rw [← ls_len, html]; simp; omega
  have htns : tn.size = 2 + (digL n).length := by rw [← htn, size_mk]; simp; omega
  have htnl : ls (tn.extract 2 tn.size) = digL n := by rw [ls_from, ← htn]; rfl
  obtain ⟨tr, htr⟩ : ∃ tr, tn.extract 2 tn.size = tr := ⟨_, rfl⟩
  rw [htr] at htnl
  have htrs : tr.size ≤ 2 := by rw [← ls_len, htnl]; omega
  obtain ⟨_, _, f1, f2, f3, f4, f5, _, _⟩ := dig_facts ⟨n, hn1⟩
  have v1 : minorL (ls (tm ++ ⟨#[46]⟩ ++ tr)) = some m := by
    rw [ls_app, ls_app, html, htnl, show (49 :: 46 :: digL m ++ ls ⟨#[46]⟩ ++ digL n) = 49 :: 46 :: (digL m ++ 46 :: digL n) by simp [ls]]
    rw [minor_app m hm1 _ (fun c t h => by cases h; decide), if_pos f2]
  have v2 : minorL (ls (tm ++ ⟨#[114, 99]⟩ ++ tr)) = some m := by
    rw [ls_app, ls_app, html, htnl, show (49 :: 46 :: digL m ++ ls ⟨#[114, 99]⟩ ++ digL n) = 49 :: 46 :: (digL m ++ 114 :: 99 :: digL n) by simp [ls]]
    rw [minor_app m hm1 _ (fun c t h => by cases h; decide), if_pos f3]
  have v3 : minorL (ls (tm ++ ⟨#[98, 101, 116, 97]⟩ ++ tr)) = some m := by
    rw [ls_app, ls_app, html, htnl, show (49 :: 46 :: digL m ++ ls ⟨#[98, 101, 116, 97]⟩ ++ digL n) = 49 :: 46 :: (digL m ++ 98 :: 101 :: 116 :: 97 :: digL n) by simp [ls]]
    rw [minor_app m hm1 _ (fun c t h => by cases h; decide), if_pos f4]
  have v4 : minorL (ls (tm ++ ⟨#[120]⟩ ++ tr)) = none := by
    rw [ls_app, ls_app, html, htnl, show (49 :: 46 :: digL m ++ ls ⟨#[120]⟩ ++ digL n) = 49 :: 46 :: (digL m ++ 120 :: digL n) by simp [ls]]
    rw [minor_app m hm1 _ (fun c t h => by cases h; decide), if_neg (by rw [f5]; simp)]
  have s4 : (tm ++ ⟨#[46]⟩ ++ tr).size ≤ 100 := by rw [size_app, size_app]; show tm.size + 1 + tr.size ≤ _; omega
  have s5 : (tm ++ ⟨#[114, 99]⟩ ++ tr).size ≤ 100 := by rw [size_app, size_app]; show tm.size + 2 + tr.size ≤ _; omega
  have s6 : (tm ++ ⟨#[98, 101, 116, 97]⟩ ++ tr).size ≤ 100 := by rw [size_app, size_app]; show tm.size + 4 + tr.size ≤ _; omega
  have s7 : (tm ++ ⟨#[120]⟩ ++ tr).size ≤ 100 := by rw [size_app, size_app]; show tm.size + 1 + tr.size ≤ _; omega
  have K1 := fun w => run_string_add_sum (P := Tryd.prog) w tm ⟨#[46]⟩ (by show tm.size + 1 ≤ _; omega)
  have K2 := fun w => run_string_add_sum (P := Tryd.prog) w (tm ++ ⟨#[46]⟩) tr (by rw [size_app]; show tm.size + 1 + tr.size ≤ _; omega)
  have K3 := fun w => run_string_add_sum (P := Tryd.prog) w tm ⟨#[114, 99]⟩ (by show tm.size + 2 ≤ _; omega)
  have K4 := fun w => run_string_add_sum (P := Tryd.prog) w (tm ++ ⟨#[114, 99]⟩) tr (by rw [size_app]; show tm.size + 2 + tr.size ≤ _; omega)
  have K5 := fun w => run_string_add_sum (P := Tryd.prog) w tm ⟨#[98, 101, 116, 97]⟩ (by show tm.size + 4 ≤ _; omega)
  have K6 := fun w => run_string_add_sum (P := Tryd.prog) w (tm ++ ⟨#[98, 101, 116, 97]⟩) tr (by rw [size_app]; show tm.size + 4 + tr.size ≤ _; omega)
  have K7 := fun w => run_string_add_sum (P := Tryd.prog) w tm ⟨#[120]⟩ (by show tm.size + 1 ≤ _; omega)
  have K8 := fun w => run_string_add_sum (P := Tryd.prog) w (tm ++ ⟨#[120]⟩) tr (by rw [size_app]; show tm.size + 1 + tr.size ≤ _; omega)
  have c4 := fun w => minor_any _ (Nat.le_trans s4 (by decide)) w
  have c5 := fun w => minor_any _ (Nat.le_trans s5 (by decide)) w
  have c6 := fun w => minor_any _ (Nat.le_trans s6 (by decide)) w
  have c7 := fun w => minor_any _ (Nat.le_trans s7 (by decide)) w
  rw [v1] at c4
  rw [v2] at c5
  rw [v3] at c6
  rw [v4] at c7
  unfold toldM at c4 c5 c6 c7
  have g1 : decide ((tn.size : Int) < 3) = false := by simp; omega
  have g1' : decide (tn.size < 3) = false := by simp; omega
  have g2 : (2 : Int) ≤ (tn.size : Int) := by omega
  have hmx : Tryd.prog.follows .mixedOrders = true := by kernel_rfl
  clear v1 v2 v3 v4 s4 s5 s6 s7 htm htn html htnl htms htns htrs hlm hln f1 f2 f3 f4 f5 hm
  generalize tm ++ ⟨#[46]⟩ ++ tr = y4 at *
  generalize tm ++ ⟨#[114, 99]⟩ ++ tr = y5 at *
  generalize tm ++ ⟨#[98, 101, 116, 97]⟩ ++ tr = y6 at *
  generalize tm ++ ⟨#[120]⟩ ++ tr = y7 at *
  go_enter Tryd.func8, Tryd.ntmps8
  go_wp2_with ((with_reducible refine (c2 _).mono ?_); rintro e w1 ⟨rfl, hb⟩; have HB1 := Lib.hid hb; clear hb)
  refine wp_region_kept hmx (by kernel_rfl) ?_
  repeat (go_big_quiet_step (first | (go_at_call 14; exact kept_call (c1 _)) | (go_at_call 10; exact kept_call (c4 _))))
  refine wpQuiet_nil ?_
  rintro _ ⟨v0, rfl⟩
  have HV0 := Lib.hid (HB1.out.trans (v0.h.mono HB1.out.size))
  generalize v0.W = X0 at *
  go_wp2_with ((with_reducible refine (awake_any _ (HM.out.below HV0.out)).mono ?_); rintro e w9 ⟨rfl, hb⟩; have HB9 := Lib.hid (HV0.out.trans (hb.mono HV0.out.size)); clear hb)
  refine wp_region_kept hmx (by kernel_rfl) ?_
  repeat (go_big_quiet_step (first | (go_at_call 14; exact kept_call (c1 _)) | (go_at_call 10; exact kept_call (c5 _))))
  refine wpQuiet_nil ?_
  rintro _ ⟨v1, rfl⟩
  have HV1 := Lib.hid (HV0.out.trans (v1.h.mono HV0.out.size))
  generalize v1.W = X1 at *
  go_wp2_with ((with_reducible refine (awake_any _ (HM.out.below HV1.out)).mono ?_); rintro e w9 ⟨rfl, hb⟩; have HB9 := Lib.hid (HV1.out.trans (hb.mono HV1.out.size)); clear hb)
  refine wp_region_kept hmx (by kernel_rfl) ?_
  repeat (go_big_quiet_step (first | (go_at_call 14; exact kept_call (c1 _)) | (go_at_call 10; exact kept_call (c6 _))))
  refine wpQuiet_nil ?_
  rintro _ ⟨v2, rfl⟩
  have HV2 := Lib.hid (HV1.out.trans (v2.h.mono HV1.out.size))
  generalize v2.W = X2 at *
  go_wp2_with ((with_reducible refine (awake_any _ (HM.out.below HV2.out)).mono ?_); rintro e w9 ⟨rfl, hb⟩; have HB9 := Lib.hid (HV2.out.trans (hb.mono HV2.out.size)); clear hb)
  refine wp_region_kept hmx (by kernel_rfl) ?_
  repeat (go_big_quiet_step (first | (go_at_call 14; exact kept_call (c1 _)) | (go_at_call 10; exact kept_call (c7 _))))
  refine wpQuiet_nil ?_
  rintro _ ⟨v3, rfl⟩
  have HV3 := Lib.hid (HV2.out.trans (v3.h.mono HV2.out.size))
  generalize v3.W = X3 at *
  go_wp2_with ((with_reducible refine (awake_any _ (HM.out.below HV3.out)).mono ?_); rintro e w9 ⟨rfl, hb⟩; have HB9 := Lib.hid (HV3.out.trans (hb.mono HV3.out.size)); clear hb)
  go_ret
  exact ⟨rfl, HB9.out⟩
end Go.Proofs.YtnghlhkgeahfmaaDoor
