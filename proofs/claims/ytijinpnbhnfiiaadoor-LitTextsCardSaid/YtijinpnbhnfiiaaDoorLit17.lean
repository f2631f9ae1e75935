/- package lit: Text. -/
import Derived.Test.YtijinpnbhnfiiaaDoorLit16
namespace Go.Proofs.YtijinpnbhnfiiaaDoor
open Go.RowKit
set_option linter.unusedVariables false

theorem fits_text : ∀ args W, (callFunc 21 args).run Tryd.prog W = .ok (.enter 21 args) W := fun _ _ => by kernel_rfl

theorem text_tells (s : ByteArray) (W : World) (hT : Tabs W) (hs : s.size ≤ 65536) : Calls Tryd.prog 21 #[.string s] W fun e w' => Tells W (textP s) e w' :=
  (text_any s W hT hs).mono fun e w' h => by
    obtain ⟨hb, he⟩ := h
    generalize textP s = r at *
    cases r with
    | none => exact ⟨he, hb⟩
    | some r => exact ⟨he, hb⟩

/-- What a text means as a text. -/
def txtR (s : ByteArray) : ByteArray × Int := if 65536 < s.size then (⟨#[]⟩, 12) else meantV (textP s)
theorem txtR_eq (s : ByteArray) : meantR s.size 65536 (textP s) = txtR s := by
  unfold meantR txtR
  by_cases h : 65536 < s.size
  · rw [if_pos h, if_pos (by omega)]
  · rw [if_neg h, if_neg (by omega)]

theorem meant_text (s : ByteArray) (w : World) (hT : Tabs w) : Calls Tryd.prog 17 #[.string s, .int .i64 65536, .func (.func 21) #[] #[]] w fun e w' => MeantEnds w (txtR s) e w' := by
  by_cases h : 65536 < s.size
  · have := meant_long s 65536 21 (textP s) w (by omega)
    rw [txtR_eq] at this
    exact this
  · have := meant_any s 65536 21 (textP s) w fits_text (fun W hW => text_tells s W (hT.below hW) (by omega))
    rw [txtR_eq] at this
    exact this

theorem txt_any (s : ByteArray) (w : World) (hT : Tabs w) : Calls Tryd.prog 12 #[.string s] w fun e w' => MeantEnds w (txtR s) e w' := by
  have H := Lib.hid (meant_text s w hT)
  generalize txtR s = r at *
  go_enter Tryd.func12, Tryd.ntmps12
  go_wp2_with fail
  refine H.out.mono ?_
  rintro e w1 ⟨rfl, hb⟩
  have HB := Lib.hid hb
  clear hb
  go_wp2
  go_ret2
  exact ⟨rfl, HB.out⟩

/-- What awake asks, reckoned. -/
theorem num_1F : numR ⟨#[48, 120, 95, 49, 70]⟩ = (⟨#[51, 49]⟩, 0) := by decide +kernel
theorem num_017 : numR ⟨#[48, 49, 55]⟩ = (⟨#[49, 53]⟩, 0) := by decide +kernel
theorem num_1__0 : numR ⟨#[49, 95, 95, 48]⟩ = (⟨#[]⟩, 4) := by decide +kernel
theorem txt_x41 : txtR ⟨#[34, 92, 120, 52, 49, 92, 117, 48, 48, 101, 52, 34]⟩ = (⟨#[65, 195, 164]⟩, 0) := by decide +kernel
end Go.Proofs.YtijinpnbhnfiiaaDoor
