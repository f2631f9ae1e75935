/- LitBack: the walk. -/
import Derived.Test.YtijinpnbhnfiiaaDoorLit27
import Derived.Test.YtijinpnbhnfiiaaDoorLit26
namespace Go.Proofs.YtijinpnbhnfiiaaDoor
open Go.RowKit
set_option linter.unusedVariables false

set_option maxHeartbeats 4000000 in
set_option maxRecDepth 100000 in
theorem back_walk (s d : ByteArray) (w : World) (hT : Tabs w) (hm : MaxLen w) :
    Calls Tryd.prog 5 #[.string s, .string d] w fun e w' => e = .returned (.bool true) ∧ Below w.heap.size w w' := by
  by_cases h1 : 500 < s.size
  · have g1 : decide ((500 : Int) < s.size) = true := decide_eq_true (by omega)
    go_enter Tryd.func5, Tryd.ntmps5
    go_wp2
    go_ret
    exact ⟨rfl, Below.refl _ w⟩
  have g1 : decide ((500 : Int) < s.size) = false := decide_eq_false (by omega)
  by_cases h2 : 300 < d.size
  · have g2 : decide ((300 : Int) < d.size) = true := decide_eq_true (by omega)
    go_enter Tryd.func5, Tryd.ntmps5
    go_wp2
    go_ret
    exact ⟨rfl, Below.refl _ w⟩
  have g2 : decide ((300 : Int) < d.size) = false := decide_eq_false (by omega)
  have HT := Lib.hid hT
  have HM := Lib.hid hm
  have HQ := Lib.hid (quote_any s (by omega) w)
  have hback := quote_back s (by omega)
  have htok := txt_token (quoteB s) s hback
  have HX := Lib.hid (fun W (h : Tabs W) => txt_any (quoteB s) W h)
  have HS := Lib.hid (fun (a' : Option Addr) (c' : Nat) (W : World) (h1 : Text W a' (quoteB s)) (h2 : Tabs W) (h3 : MaxLen W) (h4 : (quoteB s).size ≤ c') => toks_any (quoteB s) a' c' W h1 h2 h3 h4)
  unfold ToksEnds at HS
  unfold MeantEnds at HX
  rw [hback] at HX
  have HP := Lib.hid (fun W => plain_any d W)
  have HN := Lib.hid (fun W => num_any d W)
  unfold MeantEnds at HN
  have HD : Hid (plainB d = true → numR d = (d, 0)) := plain_back d
  clear hback hT hm h1 h2
  generalize quoteB s = q at *
  generalize scanR q = o at *
  generalize numR d = r1 at *
  obtain ⟨n1, e1⟩ := r1
  obtain ⟨err, pos, at_, toks, notes⟩ := o
  dsimp only at *
  obtain ⟨hs1, hs2⟩ := htok
  subst hs1 hs2
  go_enter Tryd.func5, Tryd.ntmps5
  go_wp2_with fail
  refine HQ.out.mono ?_
  rintro e w1 ⟨rfl, hb1⟩
  have HB1 := Lib.hid hb1
  clear hb1 HQ
  go_wp2_with fail
  refine (HX.out w1 (HT.out.below HB1.out)).mono ?_
  rintro e w2 ⟨rfl, hb2⟩
  have HB2 := Lib.hid (HB1.out.trans (hb2.mono HB1.out.size))
  clear hb2 HX HB1
  obtain ⟨w3, c3, hcv, hc3, ht3, hb3⟩ := conv_text w2 q
  have HB3 := Lib.hid (HB2.out.trans (hb3.mono HB2.out.size))
  have H3 := Lib.hid (HS.out _ c3 w3 ht3 (HT.out.below HB3.out) (HM.out.below HB3.out) hc3)
  clear hb3 ht3 HB2 HS hc3
  go_wp2_with fail
  refine H3.out.mono ?_
  rintro e w4 ⟨hb4, vt, rfl, hrow⟩
  obtain ⟨at1, ct1, rfl, hct1, hmt1, hta⟩ := tokAt_of_row hrow
  have HB4 := Lib.hid (HB3.out.trans (hb4.mono HB3.out.size))
  obtain ⟨g, rfl, hg, d0, d1⟩ := hta.head
  dsimp only at d0 d1
  clear hb4 hrow hta H3 HB3 hcv
  cases hp : plainB d
  · have HPD := Lib.hid hp
    clear hp
    go_wp2_with fail
    refine (HP.out w4).mono ?_
    rintro e w5 ⟨rfl, hb5⟩
    have HB5 := Lib.hid (HB4.out.trans (hb5.mono HB4.out.size))
    clear hb5
    rw [HPD.out]
    go_wp2_with fail
    refine (awake_any w5 (HT.out.below HB5.out)).mono ?_
    rintro e w6 ⟨rfl, hb6⟩
    have HB6 := Lib.hid (HB5.out.trans (hb6.mono HB5.out.size))
    clear hb6
    go_wp2
    go_ret
    exact ⟨rfl, HB6.out⟩
  · have hn := HD.out hp
    injection hn with hn1 hn2
    subst hn1 hn2
    have HPD := Lib.hid hp
    clear hp
    go_wp2_with fail
    refine (HP.out w4).mono ?_
    rintro e w5 ⟨rfl, hb5⟩
    have HB5 := Lib.hid (HB4.out.trans (hb5.mono HB4.out.size))
    clear hb5
    rw [HPD.out]
    go_wp2_with fail
    refine (HN.out w5).mono ?_
    rintro e w6 ⟨rfl, hb6⟩
    have HB6 := Lib.hid (HB5.out.trans (hb6.mono HB5.out.size))
    clear hb6
    go_wp2_with fail
    refine (awake_any w6 (HT.out.below HB6.out)).mono ?_
    rintro e w7 ⟨rfl, hb7⟩
    have HB7 := Lib.hid (HB6.out.trans (hb7.mono HB6.out.size))
    clear hb7
    go_wp2
    go_ret
    exact ⟨rfl, HB7.out⟩
end Go.Proofs.YtijinpnbhnfiiaaDoor
