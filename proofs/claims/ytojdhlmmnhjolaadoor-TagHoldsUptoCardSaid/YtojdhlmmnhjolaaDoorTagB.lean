/- Plain laws under package tag: brackets and blanks round a constraint change nothing; how long what was read is written. No program stands in it. -/
import Derived.Test.YtojdhlmmnhjolaaDoorTagW
set_option linter.unusedVariables false
namespace Go.Proofs.YtojdhlmmnhjolaaDoor

/-! ### More steps change nothing -/
def Below_ (p q : Part) : Prop := ∀ l y, p l = some y → q l = some y
theorem moreP_mono (op : List UInt8) {p q : Part} (h : Below_ p q) : ∀ g g' acc l y, g ≤ g' → moreP op p g acc l = some y → moreP op q g' acc l = some y
  | 0, g', acc, l, y, hg, hm => by cases hm
  | g + 1, 0, acc, l, y, hg, hm => by omega
  | g + 1, g' + 1, acc, l, y, hg, hm => by
    rw [moreP] at hm ⊢
    split at hm
    · rename_i ht
      rw [if_pos ht]
      split at hm
      · rename_i x r hx
        rw [h _ _ hx]
        exact moreP_mono op h g g' _ _ _ (by omega) hm
      · cases hm
    · rename_i ht
      rw [if_neg ht]
      exact hm
theorem partsP_mono (op : List UInt8) {p q : Part} (h : Below_ p q) : Below_ (partsP op p) (partsP op q) := by
  intro l y hm
  unfold partsP at hm ⊢
  split at hm
  · rename_i x r hx
    rw [h _ _ hx]
    dsimp only
    split at hm
    · rename_i acc r' hr
      rw [moreP_mono op h _ _ _ _ _ (Nat.le_refl _) hr]
      exact hm
    · cases hm
  · cases hm
theorem factorF_up : ∀ f, Below_ (factorF f) (factorF (f + 1))
  | 0 => by intro l y h; cases h
  | f + 1 => by
    intro l y h
    have ih := factorF_up f
    have io : Below_ (orP (factorF f)) (orP (factorF (f + 1))) := partsP_mono orL (partsP_mono andL ih)
    rw [factorF] at h ⊢
    dsimp only at h ⊢
    split at h
    · rename_i h1
      rw [if_pos h1]
      split at h
      · rename_i x r hx
        rw [ih _ _ hx]
        exact h
      · cases h
    · rename_i h1
      rw [if_neg h1]
      split at h
      · rename_i h2
        rw [if_pos h2]
        split at h
        · rename_i x r hx
          rw [io _ _ hx]
          exact h
        · cases h
      · rename_i h2
        rw [if_neg h2]
        exact h
theorem factorF_mono {f g : Nat} (h : f ≤ g) : Below_ (factorF f) (factorF g) := by
  induction h with
  | refl => intro l y h; exact h
  | step _ ih => intro l y hy; exact factorF_up _ _ _ (ih l y hy)

/-! ### A blank, a bracket and a blank behind it -/
def endL : List UInt8 := [32, 41, 32]
def Rel (r r' : List UInt8) : Prop := r' = r ++ endL ∨ (r = [] ∧ r' = [41, 32])
theorem takeWhile_app_blank (l : List UInt8) (h : l.drop (l.takeWhile tblB).length ≠ []) : ∀ e, (l ++ e).drop ((l ++ e).takeWhile tblB).length = l.drop (l.takeWhile tblB).length ++ e := by
  induction l with
  | nil => exact absurd rfl h
  | cons c r ih =>
    intro e
    rw [List.cons_append, List.takeWhile_cons, List.takeWhile_cons]
    rw [List.takeWhile_cons] at h
    cases hc : tblB c with
    | true =>
      simp only [hc, if_true, List.length_cons, List.drop_succ_cons] at h ⊢
      exact ih h e
    | false => simp
theorem takeWhile_app_none (l : List UInt8) (h : l.drop (l.takeWhile tblB).length = []) (e : List UInt8) : (l ++ e).drop ((l ++ e).takeWhile tblB).length = e.drop (e.takeWhile tblB).length := by
  induction l with
  | nil => rfl
  | cons c r ih =>
    rw [List.cons_append, List.takeWhile_cons]
    rw [List.takeWhile_cons] at h
    cases hc : tblB c with
    | true =>
      simp only [hc, if_true, List.length_cons, List.drop_succ_cons] at h ⊢
      exact ih h
    | false => simp [hc] at h
theorem takeS_end (sign : List UInt8) (h41 : ∀ t, sign ≠ 41 :: t) (h0 : sign ≠ []) : takeS sign [41, 32] = (false, [41, 32]) := by
  obtain ⟨c, t, rfl⟩ : ∃ c t, sign = c :: t := by cases sign with | nil => exact absurd rfl h0 | cons c t => exact ⟨c, t, rfl⟩
  unfold takeS
  have : (c :: t).isPrefixOf [41, 32] = false := by
    rw [List.isPrefixOf_cons_cons, show (c == 41) = false from beq_eq_false_iff_ne.2 fun e => h41 t (by rw [e])]
    rfl
  rw [show ([41, 32] : List UInt8).drop (([41, 32] : List UInt8).takeWhile tblB).length = [41, 32] by decide, if_neg (by rw [this]; decide)]
/-- A sign's bytes stand in a text that goes on behind a blank just if they stood in it before. -/
theorem prefix_end {sign l : List UInt8} (hs : ∀ c ∈ sign, c ≠ 32) : sign.isPrefixOf (l ++ endL) = (sign.isPrefixOf l || (l.isPrefixOf sign && (sign.drop l.length).isPrefixOf endL)) := by
  induction sign generalizing l with
  | nil => rfl
  | cons c t ih =>
    cases l with
    | nil => simp [endL, List.isPrefixOf]
    | cons d r =>
      rw [List.cons_append, List.isPrefixOf_cons_cons, List.isPrefixOf_cons_cons, List.isPrefixOf_cons_cons, ih (fun c hc => hs c (List.mem_cons_of_mem _ hc))]
      rw [List.length_cons, List.drop_succ_cons, show (d == c) = (c == d) from Bool.beq_comm ..]
      cases c == d <;> simp
theorem prefix_end_eq {sign l : List UInt8} (hs : ∀ c ∈ sign, c ≠ 32) (h : l ≠ [] ∨ True) (hn : sign ≠ []) : sign.isPrefixOf (l ++ endL) = sign.isPrefixOf l := by
  rw [prefix_end hs]
  cases hd : sign.drop l.length with
  | nil =>
    rw [List.drop_eq_nil_iff] at hd
    cases hl : l.isPrefixOf sign with
    | false => simp
    | true =>
      rw [List.isPrefixOf_iff_prefix] at hl
      have e := hl.eq_of_length (by have := hl.length_le; omega)
      subst e
      simp
  | cons c t =>
    have hc : c ∈ sign := List.mem_of_mem_drop (by rw [hd]; exact List.mem_cons_self)
    have : (c :: t).isPrefixOf endL = false := by
      unfold endL
      rw [List.isPrefixOf_cons_cons, show (c == 32) = false from beq_eq_false_iff_ne.2 (hs c hc)]
      rfl
    rw [this]
    simp
theorem takeS_rel {sign l l' : List UInt8} (hs : ∀ c ∈ sign, c ≠ 32) (h0 : sign ≠ []) (h : Rel l l') (ht : (takeS sign l).1 = true ∨ ∀ t, sign ≠ 41 :: t) : (takeS sign l').1 = (takeS sign l).1 ∧ Rel (takeS sign l).2 (takeS sign l').2 := by
  rcases h with h | ⟨h, h'⟩
  · subst h
    by_cases hl : l.drop (l.takeWhile tblB).length = []
    · rcases ht with ht | h41
      · unfold takeS at ht
        rw [hl] at ht
        cases sign with
        | nil => exact absurd rfl h0
        | cons c t => simp at ht
      · have e1 : takeS sign l = (false, []) := by
          unfold takeS
          rw [hl]
          cases sign with
          | nil => exact absurd rfl h0
          | cons c t => simp
        have e2 : takeS sign (l ++ endL) = (false, [41, 32]) := by
          have := takeS_end sign h41 h0
          unfold takeS at this ⊢
          rw [takeWhile_app_none _ hl]
          exact this
        rw [e1, e2]
        exact ⟨rfl, .inr ⟨rfl, rfl⟩⟩
    · unfold takeS
      rw [takeWhile_app_blank _ hl, prefix_end_eq hs (.inr trivial) h0]
      split
      · rename_i hp
        rw [List.isPrefixOf_iff_prefix] at hp
        refine ⟨rfl, .inl ?_⟩
        dsimp only
        rw [List.drop_append_of_le_length hp.length_le]
      · exact ⟨rfl, .inl rfl⟩
  · subst h h'
    rcases ht with ht | h41
    · exfalso
      unfold takeS at ht
      cases sign with
      | nil => exact absurd rfl h0
      | cons c t => simp at ht
    · rw [takeS_end sign h41 h0]
      have e1 : takeS sign [] = (false, []) := by
        unfold takeS
        cases sign with
        | nil => exact absurd rfl h0
        | cons c t => simp
      rw [e1]
      exact ⟨rfl, .inr ⟨rfl, rfl⟩⟩

def RelP (p : Part) : Prop := ∀ l l' x r, Rel l l' → p l = some (x, r) → ∃ r', p l' = some (x, r') ∧ Rel r r'
theorem Rel.le {l l' : List UInt8} (h : Rel l l') : l.length ≤ l'.length := by
  rcases h with h | ⟨h, h'⟩
  · subst h; simp
  · subst h; simp
def SignOk (op : List UInt8) : Prop := (∀ c ∈ op, c ≠ 32) ∧ op ≠ [] ∧ ∀ t, op ≠ 41 :: t
theorem moreP_rel {op : List UInt8} (ho : SignOk op) {p : Part} (hp : RelP p) : ∀ g acc l l' acc' r, Rel l l' → moreP op p g acc l = some (acc', r) → ∃ r', moreP op p g acc l' = some (acc', r') ∧ Rel r r'
  | 0, acc, l, l', acc', r, hr, hm => by cases hm
  | g + 1, acc, l, l', acc', r, hr, hm => by
    obtain ⟨e1, e2⟩ := takeS_rel ho.1 ho.2.1 hr (.inr ho.2.2)
    rw [moreP] at hm ⊢
    rw [e1]
    split at hm
    · rename_i ht
      rw [if_pos ht]
      split at hm
      · rename_i x r1 hx
        obtain ⟨r2, h2, h3⟩ := hp _ _ _ _ e2 hx
        rw [h2]
        exact moreP_rel ho hp g _ _ _ _ _ h3 hm
      · cases hm
    · rename_i ht
      rw [if_neg ht]
      injection hm with hm
      injection hm with hm1 hm2
      subst hm1 hm2
      exact ⟨_, rfl, e2⟩
theorem partsP_rel {op : List UInt8} (ho : SignOk op) {p : Part} (hp : RelP p) : RelP (partsP op p) := by
  intro l l' x r hr hm
  unfold partsP at hm ⊢
  split at hm
  · rename_i x1 r1 hx
    obtain ⟨r2, h2, h3⟩ := hp _ _ _ _ hr hx
    rw [h2]
    dsimp only
    split at hm
    · rename_i acc r3 hm'
      obtain ⟨r4, h4, h5⟩ := moreP_rel ho hp _ _ _ _ _ _ h3 hm'
      rw [moreP_mono op (fun _ _ h => h) _ (r2.length + 1) _ _ _ (by have := h3.le; omega) h4]
      injection hm with hm
      injection hm with hm1 hm2
      subst hm1 hm2
      exact ⟨_, rfl, h5⟩
    · cases hm
  · cases hm
theorem takeTag_end {l l' : List UInt8} (h : Rel l l') : l'.takeWhile tagB = l.takeWhile tagB ∧ Rel (l.drop (l.takeWhile tagB).length) (l'.drop (l.takeWhile tagB).length) := by
  rcases h with h | ⟨h, h'⟩
  · subst h
    constructor
    · induction l with
      | nil => rfl
      | cons c r ih => rw [List.cons_append, List.takeWhile_cons, List.takeWhile_cons, ih]
    · left
      rw [List.drop_append_of_le_length (List.takeWhile_sublist tagB).length_le]
  · subst h h'
    exact ⟨rfl, .inr ⟨rfl, rfl⟩⟩
theorem orSign : SignOk orL := ⟨by decide, by decide, fun t h => by cases h⟩
theorem andSign : SignOk andL := ⟨by decide, by decide, fun t h => by cases h⟩
theorem notSign : SignOk notL := ⟨by decide, by decide, fun t h => by cases h⟩
theorem openSign : SignOk [40] := ⟨by decide, by decide, fun t h => by cases h⟩
theorem factorF_rel : ∀ f, RelP (factorF f)
  | 0 => by intro l l' x r hr h; cases h
  | f + 1 => by
    intro l l' x r hr h
    have io : RelP (orP (factorF f)) := partsP_rel orSign (partsP_rel andSign (factorF_rel f))
    rw [factorF] at h ⊢
    dsimp only at h ⊢
    obtain ⟨a1, a2⟩ := takeS_rel notSign.1 notSign.2.1 hr (.inr notSign.2.2)
    obtain ⟨b1, b2⟩ := takeS_rel openSign.1 openSign.2.1 a2 (.inr openSign.2.2)
    rw [a1]
    split at h
    · rename_i h1
      rw [if_pos h1]
      split at h
      · rename_i y r1 hy
        obtain ⟨r2, h2, h3⟩ := factorF_rel f _ _ _ _ a2 hy
        rw [h2]
        injection h with h
        injection h with h4 h5
        subst h4 h5
        exact ⟨_, rfl, h3⟩
      · cases h
    · rename_i h1
      rw [if_neg h1, b1]
      split at h
      · rename_i h2
        rw [if_pos h2]
        split at h
        · rename_i y r1 hy
          obtain ⟨r2, h3, h4⟩ := io _ _ _ _ b2 hy
          rw [h3]
          dsimp only
          split at h
          · rename_i hc
            obtain ⟨c1, c2⟩ := takeS_rel (sign := [41]) (by decide) (by decide) h4 (.inl hc)
            rw [c1, if_pos hc]
            injection h with h
            injection h with h5 h6
            subst h5 h6
            exact ⟨_, rfl, c2⟩
          · cases h
        · cases h
      · rename_i h2
        rw [if_neg h2]
        obtain ⟨c1, c2⟩ := takeTag_end b2
        rw [c1]
        split at h
        · cases h
        · rename_i h3
          rw [if_neg h3]
          injection h with h
          injection h with h5 h6
          subst h5 h6
          exact ⟨_, rfl, c2⟩

/-! ### A blank ahead -/
theorem takeS_tab (sign l : List UInt8) : takeS sign (9 :: l) = takeS sign l := by
  unfold takeS
  rw [List.takeWhile_cons, show tblB 9 = true from by decide]
  rfl
theorem factorF_tab (f : Nat) (l : List UInt8) : factorF f (9 :: l) = factorF f l := by
  cases f with
  | zero => rfl
  | succ f => simp only [factorF, takeS_tab]
theorem parts_head (op : List UInt8) {p : Part} {a b : List UInt8} (h : p a = p b) : partsP op p a = partsP op p b := by
  unfold partsP
  rw [h]
theorem orP_tab (f : Nat) (l : List UInt8) : orP (factorF f) (9 :: l) = orP (factorF f) l := parts_head _ (parts_head _ (factorF_tab f l))
theorem parts_one (op : List UInt8) {p : Part} {l r : List UInt8} {x : Ex} (h : p l = some (x, r)) (ho : (takeS op r).1 = false) : partsP op p l = some (x, (takeS op r).2) := by
  unfold partsP
  rw [h]
  dsimp only
  rw [moreP, if_neg (by rw [ho]; decide)]
  rfl

/-- Brackets round a constraint, and blanks, change nothing. -/
theorem whole_brackets {l : List UInt8} {x : Ex} (h : wholeL l = some x) : wholeL ([32, 40, 9] ++ l ++ endL) = some x := by
  unfold wholeL at h ⊢
  split at h
  · rename_i y r hy
    split at h
    · rename_i hr
      injection h with h
      subst h
      rw [Bool.and_eq_true] at hr
      obtain ⟨hr, hR⟩ := hr
      cases r with
      | cons c t => cases hr
      | nil =>
        have h1 : orP (factorF (l.length + 6)) l = some (y, []) := partsP_mono orL (partsP_mono andL (factorF_mono (by omega))) _ _ hy
        obtain ⟨r', h2, h3⟩ := partsP_rel orSign (partsP_rel andSign (factorF_rel (l.length + 6))) l (l ++ endL) _ _ (.inl rfl) h1
        have h4 : takeS [41] r' = (true, [32]) := by
          rcases h3 with h3 | ⟨-, h3⟩
          · subst h3; decide
          · subst h3; decide
        have hf : factorF (l.length + 7) ([32, 40, 9] ++ l ++ endL) = some (y, [32]) := by
          have e1 : takeS notL ([32, 40, 9] ++ l ++ endL) = (false, 40 :: 9 :: (l ++ endL)) := by
            unfold takeS notL
            rw [List.append_assoc]
            rfl
          have e2 : takeS [40] (40 :: 9 :: (l ++ endL)) = (true, 9 :: (l ++ endL)) := by
            unfold takeS
            rfl
          show factorF ((l.length + 6) + 1) _ = _
          rw [factorF]
          dsimp only
          rw [e1]
          dsimp only
          rw [if_neg (by decide), e2]
          dsimp only
          rw [if_pos rfl, orP_tab, show orP (factorF (l.length + 6)) (l ++ endL) = some (y, r') from h2]
          dsimp only
          rw [h4]
          rfl
        have hl : ([32, 40, 9] ++ l ++ endL).length = l.length + 6 := by simp [endL]
        have ho : orP (factorF (l.length + 7)) ([32, 40, 9] ++ l ++ endL) = some (y, []) := by
          have k1 : takeS andL [32] = (false, []) := by decide
          have k2 : takeS orL [] = (false, []) := by decide
          have e1 := parts_one andL (p := factorF (l.length + 7)) hf (by rw [k1])
          rw [k1] at e1
          have e2 := parts_one orL e1 (by rw [k2])
          rw [k2] at e2
          exact e2
        rw [hl, ho]
        dsimp only
        rw [hR]
        rfl
    · cases h
  · cases h

/-! ### How long what was read is written -/
theorem withinL_two (x : Ex) (op : List UInt8) : (withinL x op).length ≤ (writtenE x).length + 2 := by
  unfold withinL
  split
  · omega
  · simp only [List.length_cons, List.length_append, List.length_nil]; omega
theorem rowW_snoc (op : List UInt8) (x : Ex) : ∀ (l : List Ex) (first : Bool), l ≠ [] ∨ first = false → (rowW op first (l ++ [x])).length = (rowW op first l).length + (op.length + 2) + (withinL x op).length
  | [], first, h => by
    have : first = false := by rcases h with h | h; exact absurd rfl h; exact h
    subst this
    rw [List.nil_append, rowW, rowW]
    show (32 :: (op ++ [32]) ++ (withinL x op ++ rowW op false [])).length = _
    rw [rowW]
    simp only [List.length_cons, List.length_append, List.length_nil]
    omega
  | y :: r, first, h => by
    rw [List.cons_append, rowW, rowW, List.length_append, List.length_append, List.length_append, List.length_append, rowW_snoc op x r false (.inr rfl)]
    omega
def BndP (p : Part) : Prop := ∀ l x r, p l = some (x, r) → (writtenE x).length + 2 + 3 * r.length ≤ 3 * l.length
theorem takeS_len (sign l : List UInt8) (h : (takeS sign l).1 = true) : (takeS sign l).2.length + sign.length ≤ l.length := by
  unfold takeS at h ⊢
  split at h
  · rename_i hp
    rw [if_pos hp]
    rw [List.isPrefixOf_iff_prefix] at hp
    have := hp.length_le
    simp only [List.length_drop] at this ⊢
    omega
  · cases h
theorem moreP_bnd {op : List UInt8} (h2 : op.length = 2) {p : Part} (hp : BndP p) : ∀ g acc l acc' r, moreP op p g acc l = some (acc', r) → acc ≠ [] → (∃ t, acc' = acc ++ t) ∧ (rowW op true acc').length + 3 * r.length + 2 * acc'.length ≤ (rowW op true acc).length + 3 * l.length + 2 * acc.length
  | 0, acc, l, acc', r, hm, h0 => by cases hm
  | g + 1, acc, l, acc', r, hm, h0 => by
    rw [moreP] at hm
    split at hm
    · rename_i ht
      split at hm
      · rename_i x r1 hx
        have k1 := takeS_len _ _ ht
        have k2 := hp _ _ _ hx
        have k3 := withinL_two x op
        obtain ⟨⟨t, k4⟩, k5⟩ := moreP_bnd h2 hp g _ _ _ _ hm (by simp)
        rw [rowW_snoc op x acc true (.inl h0), List.length_append, List.length_singleton] at k5
        exact ⟨⟨x :: t, by rw [k4, List.append_assoc]; rfl⟩, by omega⟩
      · cases hm
    · injection hm with hm
      injection hm with hm1 hm2
      have := takeS_le op l
      subst hm1 hm2
      exact ⟨⟨[], by simp⟩, by omega⟩
theorem partsP_bnd {op : List UInt8} (h2 : op.length = 2) (h0 : ¬ op = []) (h1 : ¬ op = notL) {p : Part} (hp : BndP p) (he : Eats p) : BndP (partsP op p) := by
  intro l x r hm
  unfold partsP at hm
  split at hm
  · rename_i x1 r1 hx
    have k1 := hp _ _ _ hx
    split at hm
    · rename_i acc r2 hm'
      obtain ⟨⟨t, k2⟩, k3⟩ := moreP_bnd h2 hp _ _ _ _ _ hm' (by simp)
      have k4 := moreP_le op p he _ _ _ _ _ hm'
      injection hm with hm
      injection hm with hm1 hm2
      subst hm1 hm2
      have k5 := withinL_two x1 op
      have k6 : (rowW op true [x1]).length = (withinL x1 op).length := by
        rw [rowW, rowW]
        show ([] ++ (withinL x1 op ++ [])).length = _
        simp
      rw [k6] at k3
      cases t with
      | nil =>
        rw [List.append_nil] at k2
        subst k2
        show (writtenE x1).length + 2 + 3 * r2.length ≤ _
        omega
      | cons y t =>
        rw [k2] at k3
        simp only [List.length_append, List.length_cons, List.length_nil] at k3
        rw [k2]
        show (writtenE (.mk ⟨op.toArray⟩ ⟨#[]⟩ (x1 :: y :: t))).length + 2 + 3 * r2.length ≤ _
        rw [wr_row _ _ _ (by simpa using h0) (by simpa using h1)]
        have e : [x1] ++ y :: t = x1 :: y :: t := rfl
        rw [e] at k3
        show (rowW op true (x1 :: y :: t)).length + 2 + 3 * r2.length ≤ _
        omega
    · cases hm
  · cases hm
theorem factorF_bnd : ∀ f, BndP (factorF f)
  | 0 => by intro l x r h; cases h
  | f + 1 => by
    intro l x r h
    have io : BndP (orP (factorF f)) := partsP_bnd rfl (by decide) (by decide) (partsP_bnd rfl (by decide) (by decide) (factorF_bnd f) (factorF_eats f)) (partsP_eats andL _ (factorF_eats f))
    have hn := takeS_le notL l
    have hb := takeS_le [40] (takeS notL l).2
    rw [factorF] at h
    dsimp only at h
    split at h
    · rename_i h1
      have k1 := takeS_len _ _ h1
      split at h
      · rename_i y r1 hy
        have k2 := factorF_bnd f _ _ _ hy
        injection h with h
        injection h with h3 h4
        subst h3 h4
        rw [wr_not]
        have := withinL_two y notL
        have k3 : notL.length = 1 := rfl
        rw [List.length_cons]
        omega
      · cases h
    · split at h
      · rename_i h2
        have k1 := takeS_len _ _ h2
        split at h
        · rename_i y r1 hy
          have k2 := io _ _ _ hy
          split at h
          · rename_i hc
            have := takeS_le [41] r1
            injection h with h
            injection h with h3 h4
            subst h3 h4
            omega
          · cases h
        · cases h
      · split at h
        · cases h
        · rename_i h0
          injection h with h
          injection h with h3 h4
          subst h3 h4
          have hle := (List.takeWhile_sublist tagB (l := (takeS [40] (takeS notL l).2).2)).length_le
          rw [wr_tag, List.length_drop]
          show (List.takeWhile tagB (takeS [40] (takeS notL l).2).2).length + 2 + _ ≤ _
          omega
theorem read_bnd {s : ByteArray} {x : Ex} (h : readM s = some x) : (writtenE x).length ≤ 1500 := by
  unfold readM wholeL at h
  split at h
  · cases h
  · rename_i hs
    split at h
    · rename_i y r hy
      split at h
      · injection h with h
        subst h
        have io : BndP (orP (factorF ((ls s).length + 1))) := partsP_bnd rfl (by decide) (by decide) (partsP_bnd rfl (by decide) (by decide) (factorF_bnd _) (factorF_eats _)) (partsP_eats andL _ (factorF_eats _))
        have := io _ _ _ hy
        have e : (ls s).length = s.size := ls_len s
        omega
      · cases h
    · cases h
end Go.Proofs.YtojdhlmmnhjolaaDoor
