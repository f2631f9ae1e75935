/- LitNumbers: the walk. -/
import Derived.Test.YtijinpnbhnfiiaaDoorLit33
namespace Go.Proofs.YtijinpnbhnfiiaaDoor
open Go.RowKit
set_option linter.unusedVariables false

set_option maxHeartbeats 4000000 in
set_option maxRecDepth 100000 in
theorem numbers_walk (s : ByteArray) (w : World) (hT : Tabs w) :
    Calls Tryd.prog 3 #[.string s] w fun e w' => e = .returned (.bool true) ∧ Below w.heap.size w w' := by
  by_cases h1 : 300 < s.size
  · have g1 : decide ((300 : Int) < s.size) = true := decide_eq_true (by omega)
    go_enter Tryd.func3, Tryd.ntmps3
    go_wp2
    go_ret
    exact ⟨rfl, Below.refl _ w⟩
  have g1 : decide ((300 : Int) < s.size) = false := decide_eq_false (by omega)
  have HT := Lib.hid hT
  have HN := Lib.hid (num_any s w)
  have HR := Lib.hid (fun W => refNumber_any s (by omega) W)
  have HP := Lib.hid (fun W => plain_any s W)
  have HQ := Lib.hid (fun W => refPlain_any s (by omega) W)
  unfold MeantEnds at HN
  unfold NumEnds at HR
  rw [← num_same2 s] at HR
  clear hT h1
  generalize numR s = r at *
  generalize plainB s = p at *
  obtain ⟨n, e⟩ := r
  dsimp only at *
  go_enter Tryd.func3, Tryd.ntmps3
  go_wp2_with fail
  refine HN.out.mono ?_
  rintro x w1 ⟨rfl, hb1⟩
  have HB1 := Lib.hid hb1
  clear hb1 HN
  go_wp2_with fail
  refine (HR.out w1).mono ?_
  rintro x w2 ⟨rfl, hb2⟩
  have HB2 := Lib.hid (HB1.out.trans (hb2.mono HB1.out.size))
  clear hb2 HR HB1
  go_wp2_with fail
  refine (HP.out w2).mono ?_
  rintro x w3 ⟨rfl, hb3⟩
  have HB3 := Lib.hid (HB2.out.trans (hb3.mono HB2.out.size))
  clear hb3 HP HB2
  go_wp2_with fail
  refine (HQ.out w3).mono ?_
  rintro x w4 ⟨rfl, rfl⟩
  go_wp2_with fail
  refine (awake_any w3 (HT.out.below HB3.out)).mono ?_
  rintro x w5 ⟨rfl, hb5⟩
  have HB5 := Lib.hid (HB3.out.trans (hb5.mono HB3.out.size))
  clear hb5
  go_wp2
  go_ret
  exact ⟨rfl, HB5.out⟩
end Go.Proofs.YtijinpnbhnfiiaaDoor
