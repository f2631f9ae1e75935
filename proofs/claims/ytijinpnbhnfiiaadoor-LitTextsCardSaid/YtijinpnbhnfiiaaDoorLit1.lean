/- package lit: must, digit, split. -/
import Derived.Test.YtijinpnbhnfiiaaDoorRows
import Derived.Test.YtijinpnbhnfiiaaDoorBase
import Derived.WalkKit
import Derived.WalkSmall
import Derived.WalkSpells
import Derived.WalkLawsBesides
import Derived.Below
import Derived.Lib.Hide
import Derived.ProofKit
import Derived.ShutString
import Derived.Outline
namespace Go.Proofs.YtijinpnbhnfiiaaDoor
open Go.RowKit
set_option linter.unusedVariables false

/-- What a call ends with that goes on where b holds, and ends wrong otherwise. -/
def orWrong (b : Bool) (v : Value) : Ending := if b then .returned v else .panicked [{ v := .iface 59 (.agg #[]), recovered := false }]
theorem orWrong_t (v : Value) : orWrong true v = .returned v := rfl
theorem orWrong_f (v : Value) : orWrong false v = .panicked [{ v := .iface 59 (.agg #[]), recovered := false }] := rfl

theorem must_any (b : Bool) (w : World) : Calls Tryd.prog 31 #[.bool b] w fun e w' => e = orWrong b (.tuple #[]) ∧ w = w' := by
  cases b
  · rw [orWrong_f]
    go_enter Tryd.func31, Tryd.ntmps31
    go_wp2
    exact ⟨rfl, rfl, rfl⟩
  · rw [orWrong_t]
    go_enter Tryd.func31, Tryd.ntmps31
    go_wp2
    refine bodyPost_end (results_none rfl _ _ _) rfl ?_
    exact ⟨rfl, rfl⟩

theorem must_t (w : World) : Calls Tryd.prog 31 #[.bool true] w fun e w' => e = .returned (.tuple #[]) ∧ w = w' := must_any true w
theorem must_f (w : World) : Calls Tryd.prog 31 #[.bool false] w fun e w' => e = .panicked [{ v := .iface 59 (.agg #[]), recovered := false }] ∧ w = w' := must_any false w

/-- What a digit is worth, in a base. -/
def digW (r base : Int) : Int := if 48 ≤ r ∧ r ≤ 57 then r - 48 else if 97 ≤ r ∧ r ≤ 102 then r - 97 + 10 else if 65 ≤ r ∧ r ≤ 70 then r - 65 + 10 else base
theorem digW_bounds (r base : Int) (h0 : 0 ≤ base) (h1 : base ≤ 100) : 0 ≤ digW r base ∧ digW r base ≤ 100 := by
  unfold digW
  repeat' split
  all_goals omega

set_option maxRecDepth 100000 in
theorem digit_any (r base : Int) (w : World) (h0 : 0 ≤ base) (h1 : base ≤ 100) (hr0 : -2147483648 ≤ r) (hr1 : r ≤ 2147483647) :
    Calls Tryd.prog 33 #[.int .i32 r, .int .i64 base] w fun e w' => e = orWrong (decide (digW r base < base)) (.int .i64 (digW r base)) ∧ w = w' := by
  have hd : (digW r base = r - 48 ∧ 48 ≤ r ∧ r ≤ 57) ∨ (digW r base = r - 97 + 10 ∧ 97 ≤ r ∧ r ≤ 102) ∨ (digW r base = r - 65 + 10 ∧ 65 ≤ r ∧ r ≤ 70) ∨ (digW r base = base ∧ (r < 48 ∨ 57 < r) ∧ (r < 97 ∨ 102 < r) ∧ (r < 65 ∨ 70 < r)) := by
    unfold digW
    repeat' split
    all_goals omega
  generalize digW r base = v at *
  rcases hd with ⟨rfl, hd⟩ | ⟨rfl, hd⟩ | ⟨rfl, hd⟩ | ⟨rfl, hd⟩
  all_goals
    generalize hq : decide ((_ : Int) < _) = q
    cases q
    · go_enter Tryd.func33, Tryd.ntmps33
      go_wp2_with fail
      all_goals first
        | (exfalso; omega)
        | (try rw [hq]
           refine (must_f w).mono ?_
           rintro e w' ⟨rfl, rfl⟩
           exact ⟨rfl, rfl, rfl⟩)
    · have hq2 := of_decide_eq_true hq
      go_enter Tryd.func33, Tryd.ntmps33
      go_wp2_with fail
      all_goals first
        | (exfalso; omega)
        | (try rw [hq]
           refine (must_t w).mono ?_
           rintro e w' ⟨rfl, rfl⟩
           go_wp2
           go_ret
           exact ⟨rfl, rfl⟩)
end Go.Proofs.YtijinpnbhnfiiaaDoor
