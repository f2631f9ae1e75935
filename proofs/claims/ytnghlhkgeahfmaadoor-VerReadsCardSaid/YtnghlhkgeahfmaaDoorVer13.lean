/- VerPaths: two paths with a stroke between are one. -/
import Derived.Test.YtnghlhkgeahfmaaDoorVer12
namespace Go.Proofs.YtnghlhkgeahfmaaDoor
open Go.RowKit
set_option linter.unusedVariables false

theorem pathL_joined (a b : List UInt8) (ha : a.length ≤ 99) (hb : b.length ≤ 99) : pathL (a ++ 47 :: b) = (pathL a && pathL b) := by
  unfold pathL
  rw [parts_joined, List.all_append, decide_eq_true (show (a ++ 47 :: b).length ≤ 200 by simp; omega), decide_eq_true (show a.length ≤ 200 by omega), decide_eq_true (show b.length ≤ 200 by omega)]
  simp
theorem ls_app (a b : ByteArray) : ls (a ++ b) = ls a ++ ls b := by simp [ls]
theorem size_app (a b : ByteArray) : (a ++ b).size = a.size + b.size := ByteArray.size_append

set_option maxRecDepth 100000 in
theorem paths_walk (s t : ByteArray) (w : World) (hm : MaxLen w) : Calls Tryd.prog 7 #[.string s, .string t] w fun e w' => e = .returned (.bool true) ∧ Below w.heap.size w w' := by
  by_cases h1 : 99 < s.size
  · have g1 : decide ((99 : Int) < (s.size : Int)) = true := by simp; omega
    clear h1 hm
    go_enter Tryd.func7, Tryd.ntmps7
    go_wp2
    go_ret
    exact ⟨rfl, Below.refl _ _⟩
  have g1 : decide ((99 : Int) < (s.size : Int)) = false := by simp; omega
  by_cases h2 : 99 < t.size
  · have g2 : decide ((99 : Int) < (t.size : Int)) = true := by simp; omega
    clear h1 h2 hm
    go_enter Tryd.func7, Tryd.ntmps7
    go_wp2
    go_ret
    exact ⟨rfl, Below.refl _ _⟩
  have g2 : decide ((99 : Int) < (t.size : Int)) = false := by simp; omega
  have KA := fun w => run_string_add_sum (P := Tryd.prog) w s ⟨#[47]⟩ (by show s.size + 1 ≤ _; omega)
  have KB := fun w => run_string_add_sum (P := Tryd.prog) w (s ++ ⟨#[47]⟩) t (by rw [size_app]; show s.size + 1 + t.size ≤ _; omega)
  have hu : (s ++ ⟨#[47]⟩ ++ t).size ≤ 1000000 := by rw [size_app, size_app]; show s.size + 1 + t.size ≤ _; omega
  have hp : pathL (ls (s ++ ⟨#[47]⟩ ++ t)) = (pathL (ls s) && pathL (ls t)) := by
    rw [ls_app, ls_app, List.append_assoc]
    exact pathL_joined (ls s) (ls t) (by rw [ls_len]; omega) (by rw [ls_len]; omega)
  have c1 := path_any _ hu
  rw [hp] at c1
  have c2 := path_any s (by omega)
  have c3 := path_any t (by omega)
  have HM := Lib.hid hm
  generalize s ++ ⟨#[47]⟩ ++ t = u at *
  clear h1 h2 hu hp hm
  cases ps : pathL (ls s) <;> rw [ps] at c1 c2
  · simp only [Bool.false_and] at c1
    go_enter Tryd.func7, Tryd.ntmps7
    go_wp2_with (first
      | ((with_reducible refine (c1 _ HM.out).mono ?_); rintro e w1 ⟨rfl, hb⟩; have HB1 := Lib.hid hb; clear hb)
      | ((with_reducible refine (c2 _ (HM.out.below HB1.out)).mono ?_); rintro e w2 ⟨rfl, hb⟩; have HB2 := Lib.hid (HB1.out.trans (hb.mono HB1.out.size)); clear hb)
      | ((with_reducible refine (awake_any _ (HM.out.below HB2.out)).mono ?_); rintro e w4 ⟨rfl, hb⟩; have HB4 := Lib.hid (HB2.out.trans (hb.mono HB2.out.size)); clear hb))
    go_ret
    exact ⟨rfl, HB4.out⟩
  · simp only [Bool.true_and] at c1
    cases pt : pathL (ls t) <;> rw [pt] at c1 c3
    all_goals
      go_enter Tryd.func7, Tryd.ntmps7
      go_wp2_with (first
        | ((with_reducible refine (c1 _ HM.out).mono ?_); rintro e w1 ⟨rfl, hb⟩; have HB1 := Lib.hid hb; clear hb)
        | ((with_reducible refine (c2 _ (HM.out.below HB1.out)).mono ?_); rintro e w2 ⟨rfl, hb⟩; have HB2 := Lib.hid (HB1.out.trans (hb.mono HB1.out.size)); clear hb)
        | ((with_reducible refine (c3 _ (HM.out.below HB2.out)).mono ?_); rintro e w3 ⟨rfl, hb⟩; have HB3 := Lib.hid (HB2.out.trans (hb.mono HB2.out.size)); clear hb)
        | ((with_reducible refine (awake_any _ (HM.out.below HB3.out)).mono ?_); rintro e w4 ⟨rfl, hb⟩; have HB4 := Lib.hid (HB3.out.trans (hb.mono HB3.out.size)); clear hb))
      go_ret
      exact ⟨rfl, HB4.out⟩
end Go.Proofs.YtnghlhkgeahfmaaDoor
