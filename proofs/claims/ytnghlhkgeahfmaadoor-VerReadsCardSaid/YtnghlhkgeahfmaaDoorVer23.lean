/- VerMinors: which texts are versions, which are paths; a version's text. -/
import Derived.Test.YtnghlhkgeahfmaaDoorVer22
import Derived.Test.YtnghlhkgeahfmaaDoorVer21
namespace Go.Proofs.YtnghlhkgeahfmaaDoor
open Go.RowKit
set_option linter.unusedVariables false

set_option maxHeartbeats 1000000 in
set_option maxRecDepth 100000 in
theorem minors_walk (s : ByteArray) (i : Int) (w : World) (hi : (Lit.int .i64 i).wf = true) (hm : MaxLen w) : Calls Tryd.prog 3 #[.string s, .int .i64 i] w fun e w' => e = .returned (.bool true) ∧ Below w.heap.size w w' := by
  have hi := bounds_i64 hi
  by_cases h1 : 300 < s.size
  · have g1 : decide ((300 : Int) < (s.size : Int)) = true := by simp; omega
    clear h1 hm hi
    go_enter Tryd.func3, Tryd.ntmps3
    go_wp2
    go_ret
    exact ⟨rfl, Below.refl _ _⟩
  have g1 : decide ((300 : Int) < (s.size : Int)) = false := by simp; omega
  have HM := Lib.hid hm
  have c1 := minor_any s (by omega)
  have c2 := refMinor_any s (by omega)
  have c3 := path_any s (by omega)
  have c4 := refPath_any s (by omega)
  have c5 := fun w => text_any i hi.1 hi.2 w
  have c6 := fun w => refText_any i hi.1 hi.2 w
  obtain ⟨a, b, hab⟩ : ∃ (a b : Int), toldM (minorL (ls s)) = .tuple #[.int .i64 a, .int .i64 b] := by
    cases minorL (ls s) with
    | none => exact ⟨0, 6, rfl⟩
    | some n => exact ⟨n, 0, rfl⟩
  rw [hab] at c1 c2
  generalize pathL (ls s) = pb at *
  generalize textV i = tv at *
  have hmx : Tryd.prog.follows .mixedOrders = true := by kernel_rfl
  clear hab h1 hm hi
  go_enter Tryd.func3, Tryd.ntmps3
  go_wp2_with (first
    | ((with_reducible refine (c1 _).mono ?_); rintro e w1 ⟨rfl, hb⟩; have HB1 := Lib.hid hb; clear hb)
    | ((with_reducible refine (c2 _).mono ?_); rintro e w2 ⟨rfl, rfl⟩)
    | ((with_reducible refine (c3 _ (HM.out.below HB1.out)).mono ?_); rintro e w3 ⟨rfl, hb⟩; have HB3 := Lib.hid (HB1.out.trans (hb.mono HB1.out.size)); clear hb)
    | ((with_reducible refine (c4 _).mono ?_); rintro e w4 ⟨rfl, rfl⟩)
    | ((with_reducible refine (c5 _).mono ?_); rintro e w5 ⟨rfl, hb⟩; have HB5 := Lib.hid (HB3.out.trans (hb.mono HB3.out.size)); clear hb)
    | ((with_reducible refine (c6 _).mono ?_); rintro e w6 ⟨rfl, hb⟩; have HB6 := Lib.hid (HB5.out.trans (hb.mono HB5.out.size)); clear hb)
    | ((with_reducible refine (awake_any _ (HM.out.below HB6.out)).mono ?_); rintro e w7 ⟨rfl, hb⟩; have HB7 := Lib.hid (HB6.out.trans (hb.mono HB6.out.size)); clear hb))
  go_ret
  exact ⟨rfl, HB7.out⟩
end Go.Proofs.YtnghlhkgeahfmaaDoor
