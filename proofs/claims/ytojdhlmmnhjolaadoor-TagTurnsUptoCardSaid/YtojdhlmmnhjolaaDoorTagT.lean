/- Plain laws under package tag: not, both, one. No program stands in it. -/
import Derived.Test.YtojdhlmmnhjolaaDoorTag14
import Derived.Test.YtojdhlmmnhjolaaDoorTag15
set_option linter.unusedVariables false
namespace Go.Proofs.YtojdhlmmnhjolaaDoor

mutual
theorem rightE_up : ∀ (x : Ex) (n : Nat), rightE n x = true → rightE (n + 1) x = true
  | .mk op tag kids, n, h => by
    obtain ⟨h1, h2, h3⟩ := right_parts h
    rw [rightE, h2, Bool.and_true, Bool.and_eq_true]
    refine ⟨by simp, ?_⟩
    obtain ⟨m, rfl⟩ : ∃ m, n = m + 1 := ⟨n - 1, by omega⟩
    exact rightL_up kids m h3
theorem rightL_up : ∀ (l : List Ex) (n : Nat), rightL n l = true → rightL (n + 1) l = true
  | [], n, h => h
  | x :: r, n, h => by
    rw [rightL, Bool.and_eq_true] at h ⊢
    exact ⟨rightE_up x n h.1, rightL_up r n h.2⟩
end
def notX (p : Ex) : Ex := .mk ⟨#[33]⟩ ⟨#[]⟩ [p]
def bothX (p q : Ex) : Ex := .mk ⟨#[38, 38]⟩ ⟨#[]⟩ [p, q]
def oneX (p q : Ex) : Ex := .mk ⟨#[124, 124]⟩ ⟨#[]⟩ [p, q]
theorem right_not {p : Ex} (h : rightE 100 (notX p) = true) : rightE 100 p = true := by
  obtain ⟨_, _, h3⟩ := right_parts h
  rw [rightL, Bool.and_eq_true] at h3
  exact rightE_up p 99 h3.1
theorem right_two {o : ByteArray} {p q : Ex} (h : rightE 100 (.mk o ⟨#[]⟩ [p, q]) = true) : rightE 100 p = true ∧ rightE 100 q = true := by
  obtain ⟨_, _, h3⟩ := right_parts h
  rw [rightL, rightL, Bool.and_eq_true, Bool.and_eq_true] at h3
  exact ⟨rightE_up p 99 h3.1, rightE_up q 99 h3.2.1⟩
section
variable (has : ByteArray → Bool) {p q : Ex}
theorem holds_not' (h : rightE 100 (notX p) = true) : holdsM has (notX p) = !holdsM has p := by
  unfold holdsM
  rw [h, right_not h, Bool.true_and, Bool.true_and]
  unfold notX
  rw [ho_not, headH]
theorem holds_both (h : rightE 100 (bothX p q) = true) : holdsM has (bothX p q) = (holdsM has p && holdsM has q) := by
  obtain ⟨hp, hq⟩ := right_two (o := ⟨#[38, 38]⟩) h
  unfold holdsM
  rw [h, hp, hq, Bool.true_and, Bool.true_and, Bool.true_and]
  unfold bothX
  rw [ho_and, allH, allH, allH, Bool.and_true]
theorem holds_one (h : rightE 100 (oneX p q) = true) : holdsM has (oneX p q) = (holdsM has p || holdsM has q) := by
  obtain ⟨hp, hq⟩ := right_two (o := ⟨#[124, 124]⟩) h
  unfold holdsM
  rw [h, hp, hq, Bool.true_and, Bool.true_and, Bool.true_and]
  unfold oneX
  rw [ho_or, anyH, anyH, anyH, Bool.or_false]
theorem least_not' (h : rightE 100 (notX p) = true) : leastM (notX p) = -1 := by
  unfold leastM
  rw [h, if_pos rfl]
  unfold notX
  rw [le_not]
theorem least_both (h : rightE 100 (bothX p q) = true) : leastM (bothX p q) = max (leastM p) (leastM q) := by
  obtain ⟨hp, hq⟩ := right_two (o := ⟨#[38, 38]⟩) h
  unfold leastM
  rw [h, hp, hq, if_pos rfl, if_pos rfl, if_pos rfl]
  unfold bothX
  rw [leastE, if_neg (by decide), if_neg (by decide), foldV, moreV, moreV, if_pos (by decide)]
theorem least_one (h : rightE 100 (oneX p q) = true) : leastM (oneX p q) = min (leastM p) (leastM q) := by
  obtain ⟨hp, hq⟩ := right_two (o := ⟨#[124, 124]⟩) h
  unfold leastM
  rw [h, hp, hq, if_pos rfl, if_pos rfl, if_pos rfl]
  unfold oneX
  rw [leastE, if_neg (by decide), if_neg (by decide), foldV, moreV, moreV, if_neg (by decide)]
end
theorem small_one {o : ByteArray} {p : Ex} (h : Small p) : Small (.mk o ⟨#[]⟩ [p]) := by
  rw [Small, SmallL, SmallL]
  exact ⟨by decide, by simp, h, trivial⟩
theorem small_two {o : ByteArray} {p q : Ex} (h : Small p) (h' : Small q) : Small (.mk o ⟨#[]⟩ [p, q]) := by
  rw [Small, SmallL, SmallL, SmallL]
  exact ⟨by decide, by simp, h, h', trivial⟩
end Go.Proofs.YtojdhlmmnhjolaaDoor
