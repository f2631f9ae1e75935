/- The scanner's steps, and what its tokens and notes are. -/
import Derived.Test.YtijinpnbhnfiiaaDoorTok19
namespace Go.Proofs.YtijinpnbhnfiiaaDoor
open Go.RowKit
set_option linter.unusedVariables false

/-! ### Where a piece ends -/
/-- A sign ends there, or begins there. -/
def Edge (t : ByteArray) (q : Nat) : Prop := q = t.size ∨ bt t q < 128 ∨ (0 < q ∧ bt t (q - 1) < 128)

theorem edge_skip {t : ByteArray} {p q : Nat} (hp : p < t.size) (hq : p < q) (hz : q ≤ t.size) (h : Edge t q) : p + wid t p ≤ q := by
  rcases sign_kind t p with ⟨h1, h2, h3⟩ | ⟨h1, h2, h3⟩
  · omega
  · rcases Nat.lt_or_ge q (p + wid t p) with hlt | hge
    · exfalso
      have hw := wid_le t p hp
      rcases h with h | h | h
      · omega
      · have := h3 (q - p) (by omega)
        rw [show p + (q - p) = q by omega] at this
        omega
      · have := h3 (q - 1 - p) (by omega)
        rw [show p + (q - 1 - p) = q - 1 by omega] at this
        omega
    · exact hge

/-- A row of signs ends at the end, or at a sign that is none of them. -/
theorem rowF_stop (s : ByteArray) (f : Int → Bool) : ∀ k p, s.size ≤ p + k → p ≤ s.size → rowF s f k p = s.size ∨ (rowF s f k p < s.size ∧ f (sig s (rowF s f k p)) = false)
  | 0, p, hk, hp => .inl rfl
  | k + 1, p, hk, hp => by
    have hw := wid_pos s p
    rw [rowF]
    split
    · rename_i hlt
      split
      · exact rowF_stop s f k _ (by omega) (wid_le s p hlt)
      · rename_i hf
        exact .inr ⟨hlt, by simpa using hf⟩
    · exact .inl rfl

theorem sig_bt (s : ByteArray) (p c : Nat) (hc : c < 128) : sig s p = c ↔ bt s p = c := by
  rcases sign_kind s p with ⟨h1, h2, h3⟩ | ⟨h1, h2, h3⟩ <;> omega

theorem rowN_noEnd (s : ByteArray) : rowN s noEnd = s.size ∨ (rowN s noEnd < s.size ∧ bt s (rowN s noEnd) = 10) := by
  rcases rowF_stop s noEnd s.size 0 (by omega) (Nat.zero_le _) with h | ⟨h1, h2⟩
  · exact .inl h
  · refine .inr ⟨h1, ?_⟩
    unfold noEnd at h2
    have : ((sig s (rowF s (fun r => !(r == 10)) s.size 0) : Nat) : Int) = 10 := by simpa using h2
    exact (sig_bt s _ 10 (by omega)).1 (by unfold rowN; exact_mod_cast this)

/-- The piece that is closed by t: its last bytes are t's. -/
theorem closedN_at (s : ByteArray) (f : Nat) (t : ByteArray) (hf : f ≤ s.size) (h : closedN s f t ≠ 0) : f + t.size ≤ closedN s f t ∧ closedN s f t ≤ s.size ∧ ∀ i, i < t.size → bt s (closedN s f t - t.size + i) = bt t i := by
  have hle := closedN_le s f t hf
  unfold closedN at h hle ⊢
  split
  · rename_i hi
    rw [if_pos hi] at hle
    refine ⟨by omega, hle, fun i hlt => ?_⟩
    unfold idx at hi hle ⊢
    rcases Lib.index_spec (s.extract f s.size).data.toList t.data.toList with ⟨h1, _⟩ | ⟨j, h1, h2, h3, _⟩
    · omega
    rw [h1] at hle ⊢
    have hj : (s.extract f s.size).data.toList.length = s.size - f := by
      have : (s.extract f s.size).size = s.size - f := ext_size s f s.size (Nat.le_refl _)
      exact this
    rw [show f + (j : Int).toNat + t.size - t.size + i = f + j + i by omega]
    unfold Lib.occAt at h3
    obtain ⟨r, hr⟩ := List.isPrefixOf_iff_prefix.1 h3
    have e1 : ((s.extract f s.size).data.toList.drop j)[i]? = some (UInt8.ofNat (bt t i)) := by
      rw [← hr, List.getElem?_append_left (by exact hlt), bt_list t i hlt]
    rw [List.getElem?_drop] at e1
    have hz := ext_size s f s.size (Nat.le_refl _)
    have e2 := bt_of_list (s.extract f s.size) (j + i) _ e1
    rw [bt_ext s f s.size (j + i) (by omega) (Nat.le_refl _)] at e2
    have := bt_lt t i
    rw [show f + j + i = f + (j + i) by omega, e2]
    simp
    omega
  · rename_i hi
    rw [if_neg hi] at h
    exact absurd rfl h

theorem textF_quote (r : ByteArray) : ∀ k p b, textF r k p b ≠ 0 → 2 ≤ textF r k p b ∧ textF r k p b - 2 < r.size ∧ bt r (textF r k p b - 2) = 34
  | 0, p, b, h => absurd rfl h
  | k + 1, p, b, h => by
    rw [textF] at h ⊢
    split
    · rename_i hp
      rw [if_pos hp] at h
      split
      · rename_i h1
        rw [if_pos h1] at h
        exact absurd rfl h
      · rename_i h1
        rw [if_neg h1] at h
        split
        · rename_i h2
          rw [if_pos h2] at h
          exact textF_quote r k _ _ h
        · rename_i h2
          rw [if_neg h2] at h
          split
          · rename_i h3
            rw [if_pos h3] at h
            exact textF_quote r k _ _ h
          · rename_i h3
            rw [if_neg h3] at h
            split
            · rename_i h4
              refine ⟨by omega, by omega, ?_⟩
              rw [Nat.add_sub_cancel]
              exact (sig_bt r p 34 (by omega)).1 h4
            · rename_i h4
              rw [if_neg h4] at h
              exact textF_quote r k _ _ h
    · rename_i hp
      rw [if_neg hp] at h
      exact absurd rfl h

theorem textN_quote (s : ByteArray) (h1 : 1 ≤ s.size) (h : textN s ≠ 0) : 2 ≤ textN s ∧ textN s ≤ s.size ∧ bt s (textN s - 1) = 34 := by
  have hz := ext_size s 1 s.size (Nat.le_refl _)
  have hle := textN_le s h1
  obtain ⟨a1, a2, a3⟩ : 2 ≤ textN s ∧ textN s - 2 < (s.extract 1 s.size).size ∧ bt (s.extract 1 s.size) (textN s - 2) = 34 := textF_quote _ _ _ _ h
  refine ⟨a1, hle, ?_⟩
  rw [bt_ext s 1 s.size _ (by omega) (Nat.le_refl _)] at a3
  rw [← a3]
  congr 1
  omega

theorem sign_bytes (s : ByteArray) (h : isSign s = true) : ∀ i, i < s.size → bt s i < 128 := by
  have hall : ∀ ws : List (List UInt8), ws.all (fun l => l.all fun b => decide (b.toNat < 128)) = true → ws.contains s.toList = true → ∀ i, i < s.size → bt s i < 128 := fun ws hw hc i hi => by
    have hm := List.all_eq_true.1 (List.all_eq_true.1 hw _ (mem_contains hc)) (UInt8.ofNat (bt s i)) (by
      have e := bt_list s i hi
      rw [show s.toList = s.data.toList by rw [ByteArray.toList_eq]]
      exact List.mem_of_getElem? e)
    have := bt_lt s i
    simp at hm
    omega
  unfold isSign at h
  rcases Bool.or_eq_true_iff.1 h with h | h
  · rcases Bool.or_eq_true_iff.1 h with h | h
    · exact hall signs3 (by decide) h
    · exact hall signs2 (by decide) h
  · exact hall signs1 (by decide) h

theorem hasPre_byte (s t : ByteArray) (h : hasPre s t = true) : t.size ≤ s.size ∧ ∀ i, i < t.size → bt s i = bt t i := by
  unfold hasPre at h
  obtain ⟨h1, h2⟩ := Bool.and_eq_true_iff.1 h
  have h1 := of_decide_eq_true h1
  refine ⟨h1, fun i hi => ?_⟩
  have e : s.extract 0 t.size = t := by
    apply ByteArray.ext
    apply Array.ext'
    have := beq_iff_eq.1 h2
    rw [ByteArray.toList_eq, ByteArray.toList_eq] at this
    exact this
  have := bt_ext s 0 t.size i (by omega) h1
  rw [e, Nat.zero_add] at this
  exact this.symm

/-! ### A step -/
inductive Step (t : ByteArray) (x x' : St) (p : Nat) : Prop where
  | nl (h : bt t p = 10) (hx : x' = { x with toks := endL x.toks p })
  | blank (h : isBlank (sig t p) = true) (hx : x' = x)
  | note (n : Nat) (h0 : 0 < n) (hn : p + n ≤ t.size) (he : Edge t (p + n)) (hx : x' = ⟨p + n, noteToks (t.extract p (p + n)) x.toks p, x.notes ++ [⟨0, t.extract p (p + n), p⟩]⟩)
  | take (k n : Nat) (hk : k ≠ 0) (h0 : 0 < n) (hn : p + n ≤ t.size) (he : Edge t (p + n)) (hb : bt t p ≠ 10) (hx : x' = ⟨p + n, x.toks ++ [⟨k, t.extract p (p + n), p⟩], x.notes⟩)

theorem begin_step {t : ByteArray} {x x' : St} {p : Nat} (hp : p < t.size) (h : beginP t x p (sig t p : Int) = some x') : Step t x x' p := by
  have hz : (t.extract p t.size).size = t.size - p := ext_size t p t.size (Nat.le_refl _)
  have hr : ∀ i, p + i < t.size → bt (t.extract p t.size) i = bt t (p + i) := fun i hi => bt_ext t p t.size i hi (Nat.le_refl _)
  have hN : ∀ {n}, noteP t x p n = some x' → (n ≠ 0 → p + n ≤ t.size ∧ Edge t (p + n)) → Step t x x' p := fun {n} h hn => by
    unfold noteP at h
    split at h
    · cases h
    · rename_i h0
      cases h
      exact .note n (by omega) (hn h0).1 (hn h0).2 rfl
  unfold beginP at h
  split at h
  · rename_i hc
    cases h
    exact .nl ((sig_bt t p 10 (by omega)).1 (by exact_mod_cast beq_iff_eq.1 hc)) rfl
  rename_i hc10
  have hb10 : bt t p ≠ 10 := fun he => hc10 (beq_iff_eq.2 (by exact_mod_cast (sig_bt t p 10 (by omega)).2 he))
  have hT : ∀ {k n}, takeP t x k p n = some x' → k ≠ 0 → (n ≠ 0 → p + n ≤ t.size ∧ Edge t (p + n)) → Step t x x' p := fun {k n} h hk hn => by
    unfold takeP at h
    split at h
    · cases h
    · rename_i h0
      cases h
      exact .take k n hk (by omega) (hn h0).1 (hn h0).2 hb10 rfl
  have last : ∀ n, n ≠ 0 → n ≤ (t.extract p t.size).size → bt (t.extract p t.size) (n - 1) < 128 → p + n ≤ t.size ∧ Edge t (p + n) := fun n h0 hn hb => by
    refine ⟨by omega, .inr (.inr ⟨by omega, ?_⟩)⟩
    rw [hr (n - 1) (by omega)] at hb
    rw [show p + n - 1 = p + (n - 1) by omega]
    exact hb
  split at h
  · cases h
    exact .blank (by assumption) rfl
  split at h
  · refine hN h fun h0 => ?_
    have hle := rowN_le (t.extract p t.size) noEnd
    refine ⟨by omega, ?_⟩
    rcases rowN_noEnd (t.extract p t.size) with e | ⟨e1, e2⟩
    · exact .inl (by omega)
    · rw [hr _ (by omega)] at e2
      exact .inr (.inl (by omega))
  split at h
  · rename_i hpre
    have hpz := (hasPre_byte _ _ hpre).1
    refine hN h fun h0 => ?_
    obtain ⟨a1, a2, a3⟩ := closedN_at (t.extract p t.size) 2 sClose (by have : sOpen.size = 2 := rfl; omega) h0
    have e := a3 1 (by decide)
    refine last _ h0 a2 ?_
    rw [show closedN (t.extract p t.size) 2 sClose - 1 = closedN (t.extract p t.size) 2 sClose - sClose.size + 1 by have : sClose.size = 2 := rfl; omega, e]
    decide
  split at h
  · refine hT h (by omega) fun h0 => ?_
    exact last _ h0 (nameN_le _) (by have := isIn128 _ (nameN_bytes (t.extract p t.size) (nameN (t.extract p t.size) - 1) (by omega)); omega)
  split at h
  · refine hT h (by omega) fun h0 => ?_
    have hlt : rowN (t.extract p t.size) isIn - 1 < rowN (t.extract p t.size) isIn := by omega
    exact last _ h0 (rowN_le _ _) (by have := isIn128 _ (rowF_bytes (t.extract p t.size) isIn isIn128 (t.extract p t.size).size 0 (by omega) (rowN (t.extract p t.size) isIn - 1) (Nat.zero_le _) hlt); omega)
  split at h
  · refine hT h (by omega) fun h0 => ?_
    obtain ⟨a1, a2, a3⟩ := textN_quote (t.extract p t.size) (by omega) h0
    exact last _ h0 a2 (by omega)
  split at h
  · refine hT h (by omega) fun h0 => ?_
    obtain ⟨a1, a2, a3⟩ := closedN_at (t.extract p t.size) 1 sTick (by omega) h0
    have e := a3 0 (by decide)
    refine last _ h0 a2 ?_
    rw [show closedN (t.extract p t.size) 1 sTick - 1 = closedN (t.extract p t.size) 1 sTick - sTick.size + 0 by have : sTick.size = 1 := rfl; omega, e]
    decide
  · refine hT h (by omega) fun h0 => ?_
    have hle := signN_le (t.extract p t.size)
    have hb := sign_bytes _ (signN_isSign _ h0) (signN (t.extract p t.size) - 1) (by rw [ext_size _ _ _ hle]; omega)
    rw [bt_ext _ _ _ _ (by omega) hle, Nat.zero_add] at hb
    exact last _ h0 hle hb

/-! ### Through all signs -/
theorem allF_inv (t : ByteArray) (I : Nat → St → Prop) (step : ∀ p x x', p < t.size → x.at_ ≤ p → I p x → beginP t x p (sig t p : Int) = some x' → I (p + wid t p) x') (skip : ∀ p x, p < t.size → ¬ x.at_ ≤ p → I p x → I (p + wid t p) x) :
    ∀ k p x y, t.size ≤ p + k → p ≤ t.size → I p x → allF t k p x = .ok y → I t.size y
  | 0, p, x, y, hk, hp, hI, h => by
    rw [allF] at h
    cases h
    rw [show t.size = p by omega]
    exact hI
  | k + 1, p, x, y, hk, hp, hI, h => by
    have hw := wid_pos t p
    rw [allF] at h
    split at h
    · rename_i hlt
      have hwl := wid_le t p hlt
      split at h
      · rename_i ha
        split at h
        · cases h
        · rename_i x' hb
          exact allF_inv t I step skip k _ x' y (by omega) hwl (step p x x' hlt ha hI hb) h
      · rename_i ha
        exact allF_inv t I step skip k _ x y (by omega) hwl (skip p x hlt ha hI) h
    · cases h
      rw [show t.size = p by omega]
      exact hI

theorem allP_inv {t : ByteArray} {y : St} (I : Nat → St → Prop) (step : ∀ p x x', p < t.size → x.at_ ≤ p → I p x → beginP t x p (sig t p : Int) = some x' → I (p + wid t p) x') (skip : ∀ p x, p < t.size → ¬ x.at_ ≤ p → I p x → I (p + wid t p) x)
    (start : I 0 ⟨0, [], []⟩) (h : allP t = .ok y) : ∃ x, I t.size x ∧ y = { x with toks := endL x.toks t.size } := by
  unfold allP at h
  cases e : allF t t.size 0 ⟨0, [], []⟩ with
  | error p => rw [e] at h; cases h
  | ok x =>
    rw [e] at h
    cases h
    exact ⟨x, allF_inv t I step skip t.size 0 _ x (by omega) (Nat.zero_le _) start e, rfl⟩

theorem endL_mem {l : List Tk} {p : Nat} {tk : Tk} (h : tk ∈ endL l p) : tk ∈ l ∨ tk = ⟨6, nlT, p⟩ := by
  unfold endL at h
  split at h
  · split at h
    · rcases List.mem_append.1 h with h | h
      · exact .inl h
      · exact .inr (List.mem_singleton.1 h)
    · exact .inl h
  · exact .inl h

theorem allP_good {t : ByteArray} {y : St} (h : allP t = .ok y) : ∀ tk ∈ y.toks, GoodT tk := by
  obtain ⟨x, hx, rfl⟩ := allP_inv (fun _ x => ∀ tk ∈ x.toks, GoodT tk) (fun p x x' hp _ hx hb => begin_good hp hb hx) (fun p x _ _ hx => hx) (fun _ h => by cases h) h
  intro tk htk
  rcases endL_mem htk with h | h
  · exact hx _ h
  · rw [h]; exact .put rfl rfl

/-! ### What is put in -/
/-- What is put in stands behind what ends a line. -/
def PutOk (l : List Tk) : Prop := ∀ i tk, l[i]? = some tk → tk.text = nlT → ∃ j u, i = j + 1 ∧ l[j]? = some u ∧ endsB u = true

theorem PutOk.push {l : List Tk} (h : PutOk l) (tk : Tk) (ht : tk.text ≠ nlT) : PutOk (l ++ [tk]) := by
  intro i u hi hu
  rcases Nat.lt_or_ge i l.length with hl | hl
  · rw [List.getElem?_append_left hl] at hi
    obtain ⟨j, v, rfl, hj, hv⟩ := h i u hi hu
    exact ⟨j, v, rfl, by rw [List.getElem?_append_left (by omega)]; exact hj, hv⟩
  · rw [List.getElem?_append_right hl] at hi
    cases e : i - l.length with
    | zero => rw [e] at hi; cases hi; exact absurd hu ht
    | succ k => rw [e] at hi; cases hi

theorem PutOk.endL {l : List Tk} (h : PutOk l) (p : Nat) : PutOk (endL l p) := by
  unfold YtijinpnbhnfiiaaDoor.endL
  split
  · rename_i t hl
    split
    · rename_i he
      intro i u hi hu
      rcases Nat.lt_or_ge i l.length with hlt | hge
      · rw [List.getElem?_append_left hlt] at hi
        obtain ⟨j, v, rfl, hj, hv⟩ := h i u hi hu
        exact ⟨j, v, rfl, by rw [List.getElem?_append_left (by omega)]; exact hj, hv⟩
      · have hne : l ≠ [] := fun hn => by rw [hn] at hl; cases hl
        have hpos : 0 < l.length := List.length_pos_iff.2 hne
        have hi' : i = l.length := by
          have := List.getElem?_eq_some_iff.1 hi
          obtain ⟨hlt, _⟩ := this
          simp at hlt
          omega
        refine ⟨l.length - 1, t, by omega, ?_, he⟩
        rw [List.getElem?_append_left (by omega)]
        rw [List.getLast?_eq_getElem?] at hl
        exact hl
    · exact h
  · exact h

theorem nl_first (tk : Tk) (h : bt tk.text 0 ≠ 10) : tk.text ≠ nlT := fun e => h (by rw [e]; rfl)

theorem allP_put {t : ByteArray} {y : St} (h : allP t = .ok y) : PutOk y.toks := by
  obtain ⟨x, hx, rfl⟩ := allP_inv (fun _ x => PutOk x.toks) (fun p x x' hp _ hx hb => by
    cases begin_step hp hb with
    | nl h e => subst e; exact hx.endL p
    | blank h e => subst e; exact hx
    | note n h0 hn he e =>
      subst e
      show PutOk (noteToks _ _ _)
      unfold noteToks
      split
      · exact hx.endL p
      · exact hx
    | take k n hk h0 hn he hb10 e =>
      subst e
      refine hx.push _ (nl_first _ ?_)
      show bt (t.extract p (p + n)) 0 ≠ 10
      rw [bt_ext t p (p + n) 0 (by omega) hn]
      exact hb10) (fun p x _ _ hx => hx) (fun _ _ h => by cases h) h
  exact hx.endL _

theorem nl_ends (p : Nat) : endsB ⟨6, nlT, p⟩ = false := by
  have e : (⟨6, nlT, p⟩ : Tk).text.toList = [10] := by rw [ByteArray.toList_eq]; rfl
  unfold endsB
  rw [e]
  rfl
theorem endL_last (l : List Tk) (p : Nat) (tk : Tk) (h : (endL l p).getLast? = some tk) : endsB tk = false := by
  unfold endL at h
  split at h
  · rename_i t hl
    split at h
    · rw [List.getLast?_append, List.getLast?_singleton] at h
      simp at h
      subst h
      exact nl_ends p
    · rename_i he
      rw [hl] at h
      cases h
      simpa using he
  · rename_i hl
    rw [hl] at h
    cases h

theorem allP_last {t : ByteArray} {y : St} (h : allP t = .ok y) (tk : Tk) (hl : y.toks.getLast? = some tk) : endsB tk = false := by
  obtain ⟨x, -, rfl⟩ := allP_inv (fun _ _ => True) (fun _ _ _ _ _ _ _ => trivial) (fun _ _ _ _ _ => trivial) trivial h
  exact endL_last _ _ _ hl
end Go.Proofs.YtijinpnbhnfiiaaDoor
