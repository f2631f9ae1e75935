/- Plain laws under VerReads: the words of a line up to its note; lines one behind the other, as the document tells them. -/
import Derived.Test.YtnghlhkgeahfmaaDoorVer23
namespace Go.Proofs.YtnghlhkgeahfmaaDoor
open Go.RowKit
set_option linter.unusedVariables false

def finW (cur : List UInt8) : List (List UInt8) := if cur = [] then [] else [cur]
def wrF : List UInt8 → List UInt8 → List (List UInt8)
  | cur, [] => finW cur
  | cur, c :: t => if c = 47 ∧ t.head? = some 47 then finW cur else if blankB c then (if cur = [] then wrF [] t else cur :: wrF [] t) else wrF (cur ++ [c]) t
theorem cutNote_cons (c : UInt8) (t : List UInt8) : cutNote (c :: t) = if c = 47 ∧ t.head? = some 47 then [] else c :: cutNote t := by
  have hpre : ([47, 47] : List UInt8).isPrefixOf (c :: t) = decide (c = 47 ∧ t.head? = some 47) := by
    rw [Bool.eq_iff_iff, List.isPrefixOf_iff_prefix, List.cons_prefix_iff, decide_eq_true_eq]
    constructor
    · rintro ⟨u, hu, hp⟩
      injection hu with h1 h2
      subst h2
      rw [List.cons_prefix_iff] at hp
      obtain ⟨v, hv, _⟩ := hp
      exact ⟨h1, by rw [hv]; rfl⟩
    · rintro ⟨h1, h2⟩
      cases t with
      | nil => cases h2
      | cons d r =>
        simp at h2
        subst h1 h2
        exact ⟨_, rfl, by rw [List.cons_prefix_iff]; exact ⟨_, rfl, List.nil_prefix⟩⟩
  unfold cutNote Lib.cut
  rw [Lib.index, hpre]
  by_cases h : c = 47 ∧ t.head? = some 47
  · rw [if_pos h, decide_eq_true h]
    simp
  · rw [if_neg h, decide_eq_false h]
    have hge := Lib.index_ge t [47, 47]
    by_cases hm : Lib.index t [47, 47] = -1
    · rw [hm]; simp
    · have : (Lib.index t [47, 47] == -1) = false := by rw [beq_eq_false_iff_ne]; exact hm
      simp only [this, Bool.false_eq_true, if_false]
      rw [if_pos (by omega), if_pos (by omega)]
      show List.take (Lib.index t [47, 47] + 1).toNat (c :: t) = c :: List.take (Lib.index t [47, 47]).toNat t
      rw [show (Lib.index t [47, 47] + 1).toNat = (Lib.index t [47, 47]).toNat + 1 by omega, List.take_succ_cons]
theorem cutNote_nil : cutNote [] = [] := by decide
theorem wrF_words : ∀ (l cur : List UInt8), wrF cur l = wordsF blankB cur (cutNote l)
  | [], cur => by rw [cutNote_nil, wrF, wordsF]; rfl
  | c :: t, cur => by
    rw [cutNote_cons, wrF]
    by_cases h : c = 47 ∧ t.head? = some 47
    · rw [if_pos h, if_pos h, wordsF]; rfl
    · rw [if_neg h, if_neg h, wordsF, wrF_words t [], wrF_words t (cur ++ [c])]
theorem wrF_line (l : List UInt8) : wrF [] l = lineWords l := wrF_words l []

/-! ### Lines -/
structure Rr where
  path : List UInt8
  minor : Nat
  told : Bool
def stepR (x : Rr) (ws : List (List UInt8)) : Option Rr :=
  match ws with
  | [] => some x
  | [k, w] => if k = moduleW then (if x.path ≠ [] ∨ pathL w = false then none else some { x with path := w })
    else if k = goW then (match minorL w with | some n => if x.told then none else some { x with minor := n, told := true } | none => none)
    else if k = chainW then some x else none
  | _ => none
def foldR : Rr → List (List UInt8) → Option Rr
  | x, [] => some x
  | x, l :: t => match stepR x (lineWords l) with
    | some y => foldR y t
    | none => none
def endR (o : Option Rr) : Option (List UInt8 × Nat) := match o with
  | some x => if x.path = [] then none else some (x.path, x.minor)
  | none => none

theorem stepL_mono {x y : Rd} {ws : List (List UInt8)} (h : stepL x ws = some y) : x.paths ≤ y.paths ∧ x.vers ≤ y.vers := by
  match ws, h with
  | [], h => cases h; exact ⟨Nat.le_refl _, Nat.le_refl _⟩
  | [k], h => cases h
  | [k, w], h =>
    cases hr : ruleL k w x with
    | none =>
      exfalso
      unfold stepL at h
      simp only [hr] at h
      cases h
    | some o =>
      obtain ⟨ok, z⟩ := o
      rw [stepL_two x k w ok z hr] at h
      cases ok
      · cases h
      · injection h with h
        subst h
        unfold ruleL at hr
        split at hr
        · injection hr with hr; injection hr with _ hr; subst hr; exact ⟨by show x.paths ≤ x.paths + 1; omega, Nat.le_refl _⟩
        · split at hr
          · injection hr with hr; injection hr with _ hr; subst hr; exact ⟨Nat.le_refl _, by show x.vers ≤ x.vers + 1; omega⟩
          · split at hr
            · injection hr with hr; injection hr with _ hr; subst hr; exact ⟨Nat.le_refl _, Nat.le_refl _⟩
            · cases hr
  | _ :: _ :: _ :: _, h => cases h
theorem foldL_mono : ∀ (ls : List (List UInt8)) {x y : Rd}, foldL x ls = some y → x.paths ≤ y.paths ∧ x.vers ≤ y.vers
  | [], x, y, h => by cases h; exact ⟨Nat.le_refl _, Nat.le_refl _⟩
  | l :: t, x, y, h => by
    rw [show foldL x (l :: t) = (match stepL x (lineWords l) with | some y => foldL y t | none => none) from rfl] at h
    cases hs : stepL x (lineWords l) with
    | none => rw [hs] at h; cases h
    | some z =>
      rw [hs] at h
      have h1 := stepL_mono hs
      have h2 := foldL_mono t h
      omega

/-- What Rd tells is what Rr tells. -/
structure Like2 (x : Rd) (y : Rr) : Prop where
  path : y.path = x.path
  minor : y.minor = x.minor
  told : y.told = decide (x.vers = 1)
  p1 : x.paths ≤ 1
  v1 : x.vers ≤ 1
  none_ : x.paths = 0 ↔ x.path = []
def sumL (o : Option Rd) : Option (List UInt8 × Nat) := match o with
  | some x => if x.paths = 1 ∧ x.vers ≤ 1 then some (x.path, x.minor) else none
  | none => none
theorem over_none {x : Rd} (h : 1 < x.paths ∨ 1 < x.vers) (ls : List (List UInt8)) : sumL (foldL x ls) = none := by
  cases hf : foldL x ls with
  | none => rfl
  | some y =>
    have := foldL_mono ls hf
    show (if y.paths = 1 ∧ y.vers ≤ 1 then _ else none) = none
    rw [if_neg (by omega)]
theorem path_ne {w : List UInt8} (h : pathL w = true) : w ≠ [] := fun e => by subst e; revert h; decide
theorem fold_same : ∀ (ls : List (List UInt8)) (x : Rd) (y : Rr), Like2 x y → endR (foldR y ls) = sumL (foldL x ls)
  | [], x, y, h => by
    show (if y.path = [] then none else some (y.path, y.minor)) = (if x.paths = 1 ∧ x.vers ≤ 1 then some (x.path, x.minor) else none)
    rw [h.path, h.minor]
    have := h.p1
    by_cases hp : x.path = []
    · have := h.none_.2 hp
      rw [if_pos hp, if_neg (by omega)]
    · have : x.paths ≠ 0 := fun e => hp (h.none_.1 e)
      rw [if_neg hp, if_pos ⟨by omega, h.v1⟩]
  | l :: t, x, y, h => by
    rw [show foldL x (l :: t) = (match stepL x (lineWords l) with | some y => foldL y t | none => none) from rfl, show foldR y (l :: t) = (match stepR y (lineWords l) with | some y => foldR y t | none => none) from rfl]
    generalize lineWords l = ws
    match ws with
    | [] => exact fold_same t x y h
    | [k] => rfl
    | _ :: _ :: _ :: _ => rfl
    | [k, w] =>
      by_cases k1 : k = moduleW
      · have hr : ruleL k w x = some (pathL w, { x with path := w, paths := x.paths + 1 }) := by unfold ruleL; rw [if_pos k1]
        rw [stepL_two x k w _ _ hr, show stepR y [k, w] = (if y.path ≠ [] ∨ pathL w = false then none else some { y with path := w }) by unfold stepR; simp only [if_pos k1]]
        cases hp : pathL w
        · rw [if_pos (.inr rfl)]; rfl
        · simp only [if_true]
          by_cases hy : y.path = []
          · rw [if_neg (by simp [hy])]
            have hx0 : x.paths = 0 := h.none_.2 (by rw [← h.path]; exact hy)
            exact fold_same t _ _ ⟨rfl, h.minor, h.told, by show x.paths + 1 ≤ 1; omega, h.v1, ⟨fun e => by have : x.paths + 1 = 0 := e; omega, fun e => absurd e (path_ne hp)⟩⟩
          · rw [if_pos (.inl hy)]
            have hx0 : x.paths ≠ 0 := fun e => hy (by rw [h.path]; exact h.none_.1 e)
            have := over_none (x := { x with path := w, paths := x.paths + 1 }) (.inl (by show 1 < x.paths + 1; omega)) t
            exact this.symm
      · by_cases k2 : k = goW
        · have hr : ruleL k w x = some ((minorL w).isSome, { x with minor := (minorL w).getD 0, vers := x.vers + 1 }) := by unfold ruleL; rw [if_neg k1, if_pos k2]
          rw [stepL_two x k w _ _ hr, show stepR y [k, w] = (match minorL w with | some n => if y.told then none else some { y with minor := n, told := true } | none => none) by unfold stepR; simp only [if_neg k1, if_pos k2]]
          cases hm : minorL w with
          | none => rfl
          | some n =>
            simp only [Option.isSome_some, if_true, Option.getD_some]
            rw [h.told]
            by_cases hv : x.vers = 1
            · rw [decide_eq_true hv]
              exact (over_none (x := { x with minor := n, vers := x.vers + 1 }) (.inr (by show 1 < x.vers + 1; omega)) t).symm
            · rw [decide_eq_false hv]
              have := h.v1
              exact fold_same t _ _ ⟨h.path, rfl, by show true = decide (x.vers + 1 = 1); rw [decide_eq_true (by omega)], h.p1, by show x.vers + 1 ≤ 1; omega, h.none_⟩
        · by_cases k3 : k = chainW
          · have hr : ruleL k w x = some (true, x) := by unfold ruleL; rw [if_neg k1, if_neg k2, if_pos k3]
            rw [stepL_two x k w _ _ hr, show stepR y [k, w] = some y by unfold stepR; simp only [if_neg k1, if_neg k2, if_pos k3]]
            exact fold_same t x y h
          · rw [stepL_none x k [w] (fun u => by unfold ruleL; rw [if_neg k1, if_neg k2, if_neg k3]), show stepR y [k, w] = none by unfold stepR; simp only [if_neg k1, if_neg k2, if_neg k3]]
            rfl
theorem readL_ref (b : List UInt8) : readL b = endR (foldR ⟨[], 16, false⟩ (partsF 10 [] b)) := by
  rw [fold_same _ startL ⟨[], 16, false⟩ ⟨rfl, rfl, rfl, by decide, by decide, by decide⟩]
  rfl
end Go.Proofs.YtnghlhkgeahfmaaDoor
