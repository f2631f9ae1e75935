/- demoticlaw02.told: two rows of the same tokens are told so. -/
import Derived.Test.YthpengbglbgidaaDoorTok22
import Derived.Test.YthpengbglbgidaaDoorTokP
import Derived.BigQuiet
import Derived.Deep.QuietTactic
namespace Go.Proofs.YthpengbglbgidaaDoor
open Go.RowKit Go.Joins
set_option linter.unusedVariables false

theorem below_nq2 (w : World) (n : Nat) : Below w.heap.size w (w.drewN n) := ⟨rfl, rfl, rfl, Nat.le_refl _, fun _ _ => rfl⟩

set_option maxHeartbeats 2000000 in
set_option maxRecDepth 100000 in
theorem told_any (l : List Tk) (a1 a2 : Option Addr) (c1 c2 : Nat) (w : World) (hl : l.length ≤ 1000000) (h1 : TokAt w a1 l) (h2 : TokAt w a2 l) :
    Calls Tryd.prog 7 #[.slice a1 l.length c1, .slice a2 l.length c2] w fun e w' => e = .returned (.bool true) ∧ Below w.heap.size w w' := by
  have HA := Lib.hid h1
  have HB := Lib.hid h2
  clear h1 h2
  generalize hn : l.length = n at *
  have HN := Lib.hid hn
  clear hn
  go_enter Tryd.func7, Tryd.ntmps7
  go_wp2
  go_loopw [5] (fun v wr => ∃ k : Nat, v = .int .i64 k ∧ k ≤ n ∧ Hid (Below w.heap.size w wr)) (fun v _ => n - (intOf v).toNat)
  case atStart => exact ⟨0, rfl, Nat.zero_le _, Below.refl _ _⟩
  case round =>
    obtain ⟨k, rfl, hk, HW⟩ := hrel
    by_cases hlt : k < n
    · have gk : decide (k < n) = true := decide_eq_true hlt
      have hmem : ∃ tk, l[k]? = some tk := ⟨l[k]'(by have := HN.out; omega), by have := HN.out; simp [this, hlt]⟩
      obtain ⟨tk, htk⟩ := hmem
      obtain ⟨g, rfl, hg, d0, d1, d2⟩ := (HA.out.below HW.out).at htk
      obtain ⟨g', rfl, hg', f0, f1, f2⟩ := (HB.out.below HW.out).at htk
      obtain ⟨kind, text, ta⟩ := tk
      dsimp only at *
      clear htk
      have HW2 : Hid (∀ q, Below w.heap.size w (wr.drewN q)) := fun q => HW.out.trans ((below_nq2 wr q).mono HW.out.size)
      go_wp2_with fail
      go_quiet (fail)
      go_wp2
      go_roundw
      case rel => exact ⟨k + 1, by go_num, hlt, HW2.out _⟩
      case measure => simp [intOf]; omega
    · have gk : decide (k < n) = false := decide_eq_false hlt
      go_wp2
      go_ret
      exact ⟨rfl, HW.out⟩
end Go.Proofs.YthpengbglbgidaaDoor
