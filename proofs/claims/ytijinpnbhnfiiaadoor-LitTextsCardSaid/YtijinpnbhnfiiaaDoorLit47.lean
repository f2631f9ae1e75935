/- LitTexts: the walk. -/
import Derived.Test.YtijinpnbhnfiiaaDoorLit46
import Derived.Test.YtijinpnbhnfiiaaDoorLit41
import Derived.Test.YtijinpnbhnfiiaaDoorLit18
namespace Go.Proofs.YtijinpnbhnfiiaaDoor
open Go.RowKit
set_option linter.unusedVariables false

set_option maxHeartbeats 4000000 in
set_option maxRecDepth 100000 in
theorem texts_walk (s : ByteArray) (w : World) (hT : Tabs w) :
    Calls Tryd.prog 4 #[.string s] w fun e w' => e = .returned (.bool true) ∧ Below w.heap.size w w' := by
  by_cases h1 : 500 < s.size
  · have g1 : decide ((500 : Int) < s.size) = true := decide_eq_true (by omega)
    go_enter Tryd.func4, Tryd.ntmps4
    go_wp2
    go_ret
    exact ⟨rfl, Below.refl _ w⟩
  have g1 : decide ((500 : Int) < s.size) = false := decide_eq_false (by omega)
  have HT := Lib.hid hT
  have HN := Lib.hid (txt_any s w hT)
  have HR := Lib.hid (fun W => refText_any s (by omega) W)
  have HP := Lib.hid (fun W => quote_any s (by omega) W)
  have HQ := Lib.hid (fun W => refQuote_any s (by omega) W)
  unfold MeantEnds at HN
  unfold TxtEnds at HR
  rw [txt_same s (by omega)] at HR
  clear hT h1
  generalize txtR s = r at *
  generalize quoteB s = p at *
  obtain ⟨n, e⟩ := r
  dsimp only at *
  go_enter Tryd.func4, Tryd.ntmps4
  go_wp2_with fail
  refine HN.out.mono ?_
  rintro x w1 ⟨rfl, hb1⟩
  have HB1 := Lib.hid hb1
  clear hb1 HN
  go_wp2_with fail
  refine (HR.out w1).mono ?_
  rintro x w2 ⟨rfl, hb2⟩
  have HB2 := Lib.hid (HB1.out.trans (hb2.mono HB1.out.size))
  clear hb2 HR HB1
  go_wp2_with fail
  refine (HP.out w2).mono ?_
  rintro x w3 ⟨rfl, hb3⟩
  have HB3 := Lib.hid (HB2.out.trans (hb3.mono HB2.out.size))
  clear hb3 HP HB2
  go_wp2_with fail
  refine (HQ.out w3).mono ?_
  rintro x w4 ⟨rfl, hb4⟩
  have HB4 := Lib.hid (HB3.out.trans (hb4.mono HB3.out.size))
  clear hb4 HQ HB3
  go_wp2_with fail
  refine (awake_any w4 (HT.out.below HB4.out)).mono ?_
  rintro x w5 ⟨rfl, hb5⟩
  have HB5 := Lib.hid (HB4.out.trans (hb5.mono HB4.out.size))
  clear hb5
  go_wp2
  go_ret
  exact ⟨rfl, HB5.out⟩
end Go.Proofs.YtijinpnbhnfiiaaDoor
