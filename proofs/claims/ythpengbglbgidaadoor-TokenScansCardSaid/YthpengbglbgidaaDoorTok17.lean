/- The document's answer: names, byte by byte. -/
import Derived.Test.YthpengbglbgidaaDoorTok16
namespace Go.Proofs.YthpengbglbgidaaDoor
open Go.RowKit Go.Joins
set_option linter.unusedVariables false

theorem refLetter_any (c : Int) (w : World) (h0 : 0 ≤ c) (h1 : c < 256) : Calls Tryd.prog 14 #[.int .u8 c] w fun e w' => e = .returned (.bool (isLet c)) ∧ w = w' := by
  have H : Hid (isLet c = ((decide (97 ≤ c) && decide (c ≤ 122)) || (decide (65 ≤ c) && decide (c ≤ 90)) || c == 95)) := rfl
  go_enter Tryd.func14, Tryd.ntmps14
  go_wp2
  all_goals
    go_ret
    refine ⟨?_, rfl⟩
    rw [H.out]
    refine congrArg Ending.returned ?_
    show Value.bool _ = Value.bool _
    refine congrArg Value.bool ?_
    first
      | rfl
      | (rw [Bool.eq_iff_iff]; simp; done)
      | (rw [Bool.eq_iff_iff]; simp; omega)

theorem refFigure_any (c : Int) (w : World) (h0 : 0 ≤ c) (h1 : c < 256) : Calls Tryd.prog 15 #[.int .u8 c] w fun e w' => e = .returned (.bool (isFig c)) ∧ w = w' := by
  have H : Hid (isFig c = (decide (48 ≤ c) && decide (c ≤ 57))) := rfl
  go_enter Tryd.func15, Tryd.ntmps15
  go_wp2
  all_goals
    go_ret
    refine ⟨?_, rfl⟩
    rw [H.out]
    refine congrArg Ending.returned ?_
    show Value.bool _ = Value.bool _
    refine congrArg Value.bool ?_
    first
      | rfl
      | (rw [Bool.eq_iff_iff]; simp; done)
      | (rw [Bool.eq_iff_iff]; simp; omega)

end Go.Proofs.YthpengbglbgidaaDoor
