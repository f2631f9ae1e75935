/- Plain laws under package tag: constraints, how they are read, what they need, how they are written. No program stands in it. -/
import Derived.Test.YtojdhlmmnhjolaaDoorVer0
set_option linter.unusedVariables false
namespace Go.Proofs.YtojdhlmmnhjolaaDoor

/-- A constraint. -/
inductive Ex where
  | mk (op tag : ByteArray) (kids : List Ex)

def tagN (n : Nat) : Bool := (decide (97 ≤ n) && decide (n ≤ 122)) || (decide (65 ≤ n) && decide (n ≤ 90)) || (decide (48 ≤ n) && decide (n ≤ 57)) || n == 95 || n == 46
def tblN (n : Nat) : Bool := n == 32 || n == 9
theorem tagN_big (n : Nat) (h : 128 ≤ n) : tagN n = false := by unfold tagN; simp; omega
theorem tblN_big (n : Nat) (h : 128 ≤ n) : tblN n = false := by unfold tblN; simp; omega
abbrev tagB (c : UInt8) : Bool := tagN c.toNat
abbrev tblB (c : UInt8) : Bool := tblN c.toNat

/-- Behind blanks, and behind a sign, if it stands there. -/
def takeS (sign l : List UInt8) : Bool × List UInt8 :=
  if sign.isPrefixOf (l.drop (l.takeWhile tblB).length) then (true, (l.drop (l.takeWhile tblB).length).drop sign.length) else (false, l.drop (l.takeWhile tblB).length)
theorem takeS_le (sign l : List UInt8) : (takeS sign l).2.length ≤ l.length := by
  unfold takeS
  split
  · simp only [List.length_drop]; omega
  · simp only [List.length_drop]; omega
theorem takeS_lt (sign l : List UInt8) (hs : 1 ≤ sign.length) (h : (takeS sign l).1 = true) : (takeS sign l).2.length < l.length := by
  unfold takeS at h ⊢
  split at h
  · rename_i hp
    rw [if_pos hp]
    rw [List.isPrefixOf_iff_prefix] at hp
    have := hp.length_le
    simp only [List.length_drop] at this ⊢
    omega
  · cases h

abbrev Part := List UInt8 → Option (Ex × List UInt8)
/-- Further parts, as long as the sign stands there. -/
def moreP (op : List UInt8) (part : Part) : Nat → List Ex → List UInt8 → Option (List Ex × List UInt8)
  | 0, _, _ => none
  | g + 1, acc, l =>
    if (takeS op l).1 then (match part (takeS op l).2 with
      | some (x, r) => moreP op part g (acc ++ [x]) r
      | none => none)
    else some (acc, (takeS op l).2)
def joinE (op : List UInt8) : List Ex → Ex
  | [x] => x
  | l => .mk ⟨op.toArray⟩ ⟨#[]⟩ l
def partsP (op : List UInt8) (part : Part) : Part := fun l => match part l with
  | some (x, r) => (match moreP op part (r.length + 1) [x] r with
    | some (acc, r') => some (joinE op acc, r')
    | none => none)
  | none => none
def notL : List UInt8 := [33]
def andL : List UInt8 := [38, 38]
def orL : List UInt8 := [124, 124]
def orP (fac : Part) : Part := partsP orL (partsP andL fac)
def factorF : Nat → Part
  | 0 => fun _ => none
  | f + 1 => fun l =>
    if (takeS notL l).1 then (match factorF f (takeS notL l).2 with
      | some (x, r) => some (.mk ⟨#[33]⟩ ⟨#[]⟩ [x], r)
      | none => none)
    else if (takeS [40] (takeS notL l).2).1 then (match orP (factorF f) (takeS [40] (takeS notL l).2).2 with
      | some (x, r) => if (takeS [41] r).1 then some (x, (takeS [41] r).2) else none
      | none => none)
    else (if (((takeS [40] (takeS notL l).2).2).takeWhile tagB).length = 0 then none
      else some (.mk ⟨#[]⟩ ⟨(((takeS [40] (takeS notL l).2).2).takeWhile tagB).toArray⟩ [], ((takeS [40] (takeS notL l).2).2).drop (((takeS [40] (takeS notL l).2).2).takeWhile tagB).length))

/-- A part takes something. -/
def Eats (part : Part) : Prop := ∀ l x r, part l = some (x, r) → r.length < l.length
theorem moreP_le (op : List UInt8) (part : Part) (hp : Eats part) : ∀ g acc l acc' r, moreP op part g acc l = some (acc', r) → r.length ≤ l.length ∧ acc.length ≤ acc'.length
  | 0, acc, l, acc', r, h => by cases h
  | g + 1, acc, l, acc', r, h => by
    rw [moreP] at h
    have hle := takeS_le op l
    split at h
    · split at h
      · rename_i x r' hx
        have h1 := hp _ _ _ hx
        have h2 := moreP_le op part hp g _ _ _ _ h
        simp at h2
        omega
      · cases h
    · injection h with h
      injection h with h1 h2
      subst h1 h2
      exact ⟨hle, Nat.le_refl _⟩
theorem partsP_eats (op : List UInt8) (part : Part) (hp : Eats part) : Eats (partsP op part) := by
  intro l x r h
  unfold partsP at h
  split at h
  · rename_i x1 r1 hx
    have h1 := hp _ _ _ hx
    split at h
    · rename_i acc r2 hm
      have h2 := moreP_le op part hp _ _ _ _ _ hm
      injection h with h
      injection h with _ h
      subst h
      omega
    · cases h
  · cases h
theorem factorF_eats : ∀ f, Eats (factorF f)
  | 0, l, x, r, h => by cases h
  | f + 1, l, x, r, h => by
    have hn := takeS_le notL l
    have hb := takeS_le [40] (takeS notL l).2
    rw [factorF] at h
    dsimp only at h
    split at h
    · rename_i h1
      have hlt := takeS_lt notL l (by decide) h1
      split at h
      · rename_i y r' hy
        have := factorF_eats f _ _ _ hy
        injection h with h
        injection h with _ h
        subst h
        omega
      · cases h
    · split at h
      · rename_i _ h1
        have hlt := takeS_lt [40] _ (by decide) h1
        split at h
        · rename_i y r' hy
          have := partsP_eats orL _ (partsP_eats andL _ (factorF_eats f)) _ _ _ hy
          have h3 := takeS_le [41] r'
          split at h
          · injection h with h
            injection h with _ h
            subst h
            omega
          · cases h
        · cases h
      · split at h
        · cases h
        · rename_i h0
          injection h with h
          injection h with _ h
          subst h
          have hle := (List.takeWhile_sublist tagB (l := (takeS [40] (takeS notL l).2).2)).length_le
          rw [List.length_drop]
          omega

/-! ### What a constraint is -/
def shapedE : Ex → Bool
  | .mk op tag kids =>
    if op.data.toList = [] then !tag.data.toList.isEmpty && tag.data.toList.all tagB && kids.isEmpty
    else if op.data.toList = notL then tag.data.toList.isEmpty && kids.length == 1
    else if op.data.toList = andL ∨ op.data.toList = orL then tag.data.toList.isEmpty && decide (2 ≤ kids.length)
    else false
mutual
def rightE : Nat → Ex → Bool
  | left, .mk op tag kids => decide (0 < left) && shapedE (.mk op tag kids) && rightL (left - 1) kids
def rightL : Nat → List Ex → Bool
  | _, [] => true
  | left, x :: r => rightE left x && rightL left r
end
def versionL (dig : Nat → List UInt8) (t : List UInt8) : Int :=
  if [103, 111].isPrefixOf t then (match minorL (t.drop 2) with
    | some n => if 49 :: 46 :: dig n = t.drop 2 then (n : Int) else -1
    | none => -1) else -1
end Go.Proofs.YtojdhlmmnhjolaaDoor
