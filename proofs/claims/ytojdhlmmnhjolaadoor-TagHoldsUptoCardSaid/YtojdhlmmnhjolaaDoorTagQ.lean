/- Plain laws under package tag: what is read is small; what a text is. No program stands in it. -/
import Derived.Test.YtojdhlmmnhjolaaDoorTagP
set_option linter.unusedVariables false
namespace Go.Proofs.YtojdhlmmnhjolaaDoor

mutual
/-- No row in it is too long to be counted. -/
def Small : Ex → Prop
  | .mk _ tag kids => tag.size ≤ 3000000 ∧ kids.length ≤ 3000000 ∧ SmallL kids
def SmallL : List Ex → Prop
  | [] => True
  | x :: r => Small x ∧ SmallL r
end
theorem SmallL.mem {l : List Ex} (h : SmallL l) : ∀ {i : Nat} {x : Ex}, l[i]? = some x → Small x := by
  induction l with
  | nil => intro i x hx; cases hx
  | cons y r ih =>
    rw [SmallL] at h
    intro i x hx
    cases i with
    | zero => injection hx with hx; subst hx; exact h.1
    | succ i => exact ih h.2 (by simpa using hx)
theorem SmallL.snoc {x : Ex} (hx : Small x) : ∀ {l : List Ex}, SmallL l → SmallL (l ++ [x])
  | [], _ => by rw [List.nil_append, SmallL, SmallL]; exact ⟨hx, trivial⟩
  | y :: r, h => by
    rw [SmallL] at h
    rw [List.cons_append, SmallL]
    exact ⟨h.1, SmallL.snoc hx h.2⟩

def SmP (part : Part) : Prop := ∀ l x r, part l = some (x, r) → l.length ≤ 1000 → Small x
theorem moreP_small (op : List UInt8) (part : Part) (hp : Eats part) (hs : SmP part) : ∀ g acc l acc' r, moreP op part g acc l = some (acc', r) → l.length ≤ 1000 → SmallL acc → SmallL acc' ∧ acc'.length + r.length ≤ acc.length + l.length
  | 0, acc, l, acc', r, h, _, _ => by cases h
  | g + 1, acc, l, acc', r, h, hl, ha => by
    rw [moreP] at h
    have hle := takeS_le op l
    split at h
    · split at h
      · rename_i x r' hx
        have h1 := hp _ _ _ hx
        have h2 := hs _ _ _ hx (by omega)
        obtain ⟨h3, h4⟩ := moreP_small op part hp hs g _ _ _ _ h (by omega) (ha.snoc h2)
        rw [List.length_append] at h4
        simp only [List.length_cons, List.length_nil] at h4
        exact ⟨h3, by omega⟩
      · cases h
    · injection h with h
      injection h with h1 h2
      subst h1 h2
      exact ⟨ha, by omega⟩
theorem partsP_small (op : List UInt8) (part : Part) (hp : Eats part) (hs : SmP part) : SmP (partsP op part) := by
  intro l x r h hl
  unfold partsP at h
  split at h
  · rename_i x1 r1 hx
    have h1 := hp _ _ _ hx
    have hx1 := hs _ _ _ hx hl
    split at h
    · rename_i acc r2 hm
      obtain ⟨h3, h4⟩ := moreP_small op part hp hs _ _ _ _ _ hm (by omega) (by rw [SmallL, SmallL]; exact ⟨hx1, trivial⟩)
      simp only [List.length_cons, List.length_nil] at h4
      injection h with h
      injection h with h _
      subst h
      unfold joinE
      split
      · rw [SmallL] at h3
        exact h3.1
      · rw [Small]
        exact ⟨by decide, by omega, h3⟩
    · cases h
  · cases h
theorem factorF_small : ∀ f, SmP (factorF f)
  | 0, l, x, r, h, _ => by cases h
  | f + 1, l, x, r, h, hl => by
    have hn := takeS_le notL l
    have hb := takeS_le [40] (takeS notL l).2
    rw [factorF] at h
    dsimp only at h
    split at h
    · split at h
      · rename_i y r' hy
        have hy' := factorF_small f _ _ _ hy (by omega)
        injection h with h
        injection h with h _
        subst h
        rw [Small, SmallL, SmallL]
        exact ⟨by decide, by simp, hy', trivial⟩
      · cases h
    · split at h
      · split at h
        · rename_i y r' hy
          have hy' := partsP_small orL _ (partsP_eats andL _ (factorF_eats f)) (partsP_small andL _ (factorF_eats f) (factorF_small f)) _ _ _ hy (by omega)
          split at h
          · injection h with h
            injection h with h _
            subst h
            exact hy'
          · cases h
        · cases h
      · split at h
        · cases h
        · injection h with h
          injection h with h _
          subst h
          have hle := (List.takeWhile_sublist tagB (l := (takeS [40] (takeS notL l).2).2)).length_le
          rw [Small, SmallL]
          refine ⟨?_, by simp, trivial⟩
          show (((takeS [40] (takeS notL l).2).2).takeWhile tagB).toArray.size ≤ _
          rw [List.size_toArray]
          omega
theorem orP_small (f : Nat) : SmP (orP (factorF f)) := partsP_small orL _ (partsP_eats andL _ (factorF_eats f)) (partsP_small andL _ (factorF_eats f) (factorF_small f))

/-- What constraint a text is. -/
def wholeL (l : List UInt8) : Option Ex := match orP (factorF (l.length + 1)) l with
  | some (x, r) => if r.isEmpty && rightE 100 x then some x else none
  | none => none
def readM (s : ByteArray) : Option Ex := if 500 < s.size then none else wholeL (ls s)
theorem readM_small {s : ByteArray} {x : Ex} (h : readM s = some x) : Small x := by
  unfold readM wholeL at h
  split at h
  · cases h
  · rename_i hs
    split at h
    · rename_i y r hy
      split at h
      · injection h with h
        subst h
        exact orP_small _ _ _ _ hy (by rw [ls_len]; omega)
      · cases h
    · cases h
end Go.Proofs.YtojdhlmmnhjolaaDoor
