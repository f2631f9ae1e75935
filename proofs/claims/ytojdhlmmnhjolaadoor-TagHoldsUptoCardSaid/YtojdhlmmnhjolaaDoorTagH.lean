/- Plain laws under package tag: what holds, the least version. No program stands in it. -/
import Derived.Test.YtojdhlmmnhjolaaDoorTagQ
set_option linter.unusedVariables false
namespace Go.Proofs.YtojdhlmmnhjolaaDoor

mutual
def holdsE (vers : ByteArray → Int) (has : ByteArray → Bool) : Ex → Bool
  | .mk op tag kids =>
    if op.data.toList = notL then !(headH vers has kids)
    else if op.data.toList = [] then (if vers tag = -1 then has tag else decide (vers tag ≤ 24))
    else if op.data.toList = orL then anyH vers has kids else allH vers has kids
def headH (vers : ByteArray → Int) (has : ByteArray → Bool) : List Ex → Bool
  | [] => false
  | x :: _ => holdsE vers has x
def anyH (vers : ByteArray → Int) (has : ByteArray → Bool) : List Ex → Bool
  | [] => false
  | x :: r => holdsE vers has x || anyH vers has r
def allH (vers : ByteArray → Int) (has : ByteArray → Bool) : List Ex → Bool
  | [] => true
  | x :: r => holdsE vers has x && allH vers has r
end
section
variable (vers : ByteArray → Int) (has : ByteArray → Bool)
theorem ho_not (tag : ByteArray) (k : List Ex) : holdsE vers has (.mk ⟨#[33]⟩ tag k) = !(headH vers has k) := by rw [holdsE, if_pos (show (⟨#[33]⟩ : ByteArray).data.toList = notL from rfl)]
theorem ho_tag (tag : ByteArray) (k : List Ex) : holdsE vers has (.mk ⟨#[]⟩ tag k) = if vers tag = -1 then has tag else decide (vers tag ≤ 24) := by rw [holdsE, if_neg (by decide), if_pos rfl]
theorem ho_or (tag : ByteArray) (k : List Ex) : holdsE vers has (.mk ⟨#[124, 124]⟩ tag k) = anyH vers has k := by rw [holdsE, if_neg (by decide), if_neg (by decide), if_pos (show (⟨#[124, 124]⟩ : ByteArray).data.toList = orL from rfl)]
theorem ho_and (tag : ByteArray) (k : List Ex) : holdsE vers has (.mk ⟨#[38, 38]⟩ tag k) = allH vers has k := by rw [holdsE, if_neg (by decide), if_neg (by decide), if_neg (by decide)]
theorem anyH_at : ∀ (l : List Ex) (i : Nat) (x : Ex), l[i]? = some x → anyH vers has (l.drop i) = (holdsE vers has x || anyH vers has (l.drop (i + 1)))
  | [], i, x, h => by cases h
  | y :: r, 0, x, h => by injection h with h; subst h; rw [List.drop_zero, anyH]; rfl
  | y :: r, i + 1, x, h => anyH_at r i x (by simpa using h)
theorem allH_at : ∀ (l : List Ex) (i : Nat) (x : Ex), l[i]? = some x → allH vers has (l.drop i) = (holdsE vers has x && allH vers has (l.drop (i + 1)))
  | [], i, x, h => by cases h
  | y :: r, 0, x, h => by injection h with h; subst h; rw [List.drop_zero, allH]; rfl
  | y :: r, i + 1, x, h => allH_at r i x (by simpa using h)
end

mutual
def leastE (vers : ByteArray → Int) : Ex → Int
  | .mk op tag kids =>
    if op.data.toList = notL then -1
    else if op.data.toList = [] then vers tag
    else foldV vers (op.data.toList = andL) kids
def foldV (vers : ByteArray → Int) (isAnd : Bool) : List Ex → Int
  | [] => -1
  | x :: r => moreV vers isAnd (leastE vers x) r
def moreV (vers : ByteArray → Int) (isAnd : Bool) (found : Int) : List Ex → Int
  | [] => found
  | x :: r => moreV vers isAnd (if isAnd then max found (leastE vers x) else min found (leastE vers x)) r
end
theorem right_parts {left : Nat} {op tag : ByteArray} {k : List Ex} (h : rightE left (.mk op tag k) = true) : 0 < left ∧ shapedE (.mk op tag k) = true ∧ rightL (left - 1) k = true := by
  rw [rightE, Bool.and_eq_true, Bool.and_eq_true, decide_eq_true_eq] at h
  exact ⟨h.1.1, h.1.2, h.2⟩
theorem rightL_mem {left : Nat} : ∀ {l : List Ex} {i : Nat} {x : Ex}, rightL left l = true → l[i]? = some x → rightE left x = true
  | [], i, x, _, h => by cases h
  | y :: r, 0, x, hr, h => by
    injection h with h
    subst h
    rw [rightL, Bool.and_eq_true] at hr
    exact hr.1
  | y :: r, i + 1, x, hr, h => by
    rw [rightL, Bool.and_eq_true] at hr
    exact rightL_mem hr.2 (by simpa using h)
end Go.Proofs.YtojdhlmmnhjolaaDoor
