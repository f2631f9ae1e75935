/- demoticlaw03.awake. -/
import Derived.Test.YtijinpnbhnfiiaaDoorLit17
namespace Go.Proofs.YtijinpnbhnfiiaaDoor
open Go.RowKit
set_option linter.unusedVariables false

set_option maxHeartbeats 400000 in
theorem awake_any (w : World) (hT : Tabs w) : Calls Tryd.prog 11 #[] w fun e w' => e = .returned (.bool true) ∧ Below w.heap.size w w' := by
  have H1 := Lib.hid (num_any ⟨#[48, 120, 95, 49, 70]⟩ w)
  rw [num_1F] at H1
  go_enter Tryd.func11, Tryd.ntmps11
  go_wp2_with fail
  refine H1.out.mono ?_
  rintro e w1 ⟨rfl, hb1⟩
  have HB1 := Lib.hid hb1
  have H2 := Lib.hid (num_any ⟨#[48, 49, 55]⟩ w1)
  rw [num_017] at H2
  clear hb1 H1
  go_wp2_with fail
  refine H2.out.mono ?_
  rintro e w2 ⟨rfl, hb2⟩
  have HB2 := Lib.hid (HB1.out.trans (hb2.mono HB1.out.size))
  have H3 := Lib.hid (num_any ⟨#[49, 95, 95, 48]⟩ w2)
  rw [num_1__0] at H3
  clear hb2 H2 HB1
  go_wp2_with fail
  refine H3.out.mono ?_
  rintro e w3 ⟨rfl, hb3⟩
  have HB3 := Lib.hid (HB2.out.trans (hb3.mono HB2.out.size))
  have H4 := Lib.hid (txt_any ⟨#[34, 92, 120, 52, 49, 92, 117, 48, 48, 101, 52, 34]⟩ w3 (hT.below HB3.out))
  rw [txt_x41] at H4
  clear hb3 H3 HB2
  go_wp2_with fail
  refine H4.out.mono ?_
  rintro e w4 ⟨rfl, hb4⟩
  have HB4 := Lib.hid (HB3.out.trans (hb4.mono HB3.out.size))
  clear hb4 H4 HB3
  go_wp2
  go_ret
  exact ⟨rfl, HB4.out⟩
end Go.Proofs.YtijinpnbhnfiiaaDoor
