/- What each token is: an invariant of the scanner. -/
import Derived.Test.YtijinpnbhnfiiaaDoorTokP
namespace Go.Proofs.YtijinpnbhnfiiaaDoor
open Go.RowKit
set_option linter.unusedVariables false

/-! ### Bytes of a piece -/
theorem bt_ext (t : ByteArray) (a b i : Nat) (h : a + i < b) (hb : b ≤ t.size) : bt (t.extract a b) i = bt t (a + i) := by
  have h1 : i < (t.extract a b).size := by rw [ByteArray.size_extract]; omega
  rw [bt_eq _ i h1, bt_eq t (a + i) (by omega)]
  congr 1
  exact ByteArray.getElem_extract ..
theorem ext_size (t : ByteArray) (a b : Nat) (hb : b ≤ t.size) : (t.extract a b).size = b - a := by
  rw [ByteArray.size_extract]; omega
theorem ext_ext (t : ByteArray) (p n : Nat) (h : p + n ≤ t.size) : (t.extract p t.size).extract 0 n = t.extract p (p + n) := by
  rw [ByteArray.extract_extract]
  congr 1
  · omega

theorem restB_of (s : ByteArray) : ∀ k p, (∀ i, p ≤ i → i < s.size → isIn (bt s i) = true) → restB s k p = true
  | 0, _, _ => rfl
  | k + 1, p, h => by
    rw [restB]
    split
    · rw [h p (Nat.le_refl _) (by assumption), restB_of s k (p + 1) (fun i h1 h2 => h i (by omega) h2)]
      rfl
    · rfl

/-- The bytes of a row of signs of which each is one of name's. -/
theorem rowF_bytes (s : ByteArray) (f : Int → Bool) (hf : ∀ c, f c = true → c < 128) : ∀ k p, s.size ≤ p + k → ∀ i, p ≤ i → i < rowF s f k p → f (bt s i) = true
  | 0, p, hk, i, h1, h2 => by rw [rowF] at h2; omega
  | k + 1, p, hk, i, h1, h2 => by
    rw [rowF] at h2
    split at h2
    · rename_i hp
      split at h2
      · rename_i hfs
        rcases sign_kind s p with ⟨e1, e2, e3⟩ | ⟨e1, e2, e3⟩
        · rw [e1] at h2
          by_cases hi : i = p
          · subst hi; rw [← e2]; exact hfs
          · exact rowF_bytes s f hf k (p + 1) (by omega) i (by omega) h2
        · have := hf _ hfs; omega
      · omega
    · omega

theorem rowF_mono (s : ByteArray) (f : Int → Bool) : ∀ k p, p ≤ s.size → p ≤ rowF s f k p := by
  intro k
  induction k with
  | zero => intro p hp; rw [rowF]; exact hp
  | succ k ih =>
    intro p hp
    rw [rowF]
    split
    · rename_i hlt
      split
      · exact Nat.le_trans (Nat.le_add_right _ _) (ih _ (wid_le s p hlt))
      · exact Nat.le_refl _
    · exact hp

theorem rowN_pos (s : ByteArray) (f : Int → Bool) (h0 : 0 < s.size) : rowN s f = 0 ↔ f (sig s 0) = false := by
  unfold rowN
  obtain ⟨k, hk⟩ : ∃ k, s.size = k + 1 := ⟨s.size - 1, by omega⟩
  have e : rowF s f s.size 0 = if f (sig s 0) then rowF s f k (0 + wid s 0) else 0 := by
    conv => lhs; rw [show s.size = k + 1 from hk]
    rw [rowF, if_pos (by omega)]
  rw [e]
  cases f (sig s 0)
  · simp
  · have h1 := wid_pos s 0
    have h2 := rowF_mono s f k (0 + wid s 0) (wid_le s 0 h0)
    rw [if_pos rfl]
    exact ⟨fun h => by omega, fun h => by cases h⟩

theorem sig_small (s : ByteArray) (p : Nat) (f : Int → Bool) (hf : ∀ c, f c = true → c < 128) : f (sig s p) = f (bt s p) := by
  rcases sign_kind s p with ⟨e1, e2, e3⟩ | ⟨e1, e2, e3⟩
  · rw [e2]
  · cases h1 : f (sig s p)
    · cases h2 : f (bt s p)
      · rfl
      · have := hf _ h2; omega
    · have := hf _ h1; omega

theorem isLet128 : ∀ c, isLet c = true → c < 128 := fun c h => by have := isLet_lt h; omega
theorem isFig128 : ∀ c, isFig c = true → c < 128 := fun c h => by have := isFig_lt h; omega
theorem isIn128 : ∀ c, isIn c = true → c < 128 := fun c h => isIn_lt h
theorem let_in {c : Int} (h : isLet c = true) : isIn c = true := by unfold isIn; rw [h]; rfl
theorem let_fig {c : Int} (h : isLet c = true) : isFig c = false := by
  cases e : isFig c
  · rfl
  · have := isFig_lt e; have := isLet_lt h; omega

/-! ### Words and signs by their first byte -/
theorem head_bt (s : ByteArray) (b : UInt8) (l : List UInt8) (h : s.toList = b :: l) : 0 < s.size ∧ bt s 0 = b.toNat := by
  have h1 := list_size s
  rw [h] at h1
  simp at h1
  refine ⟨by omega, ?_⟩
  refine bt_of_list s 0 b ?_
  have : s.data.toList = s.toList := by rw [ByteArray.toList_eq]
  rw [this, h]
  rfl
theorem list_head (ws : List (List UInt8)) (f : Int → Bool) (h : ws.all (fun l => match l with | [] => false | b :: _ => f (b.toNat : Int)) = true) (s : ByteArray) (hs : ws.contains s.toList = true) : 0 < s.size ∧ f (bt s 0) = true := by
  have hm := List.all_eq_true.1 h _ (mem_contains hs)
  cases e : s.toList with
  | nil => rw [e] at hm; cases hm
  | cons b l =>
    rw [e] at hm
    obtain ⟨h1, h2⟩ := head_bt s b l e
    exact ⟨h1, by rw [h2]; exact hm⟩
theorem word_head (s : ByteArray) (h : wordN s ≠ 0) : 0 < s.size ∧ isLet (bt s 0) = true := by
  unfold wordN at h
  split at h
  · exact list_head words1 isLet (by decide) s (by assumption)
  · split at h
    · exact list_head words2 isLet (by decide) s (by assumption)
    · exact absurd rfl h

def noIn (c : Int) : Bool := !isIn c && !(c == 10)
/-- Is it a sign? -/
def isSign (s : ByteArray) : Bool := signs3.contains s.toList || signs2.contains s.toList || signs1.contains s.toList
theorem sign_head (s : ByteArray) (h : isSign s = true) : 0 < s.size ∧ noIn (bt s 0) = true := by
  unfold isSign at h
  rcases Bool.or_eq_true_iff.1 h with h | h
  · rcases Bool.or_eq_true_iff.1 h with h | h
    · exact list_head signs3 noIn (by decide) s h
    · exact list_head signs2 noIn (by decide) s h
  · exact list_head signs1 noIn (by decide) s h

/-! ### What a token is -/
inductive GoodT (tk : Tk) : Prop where
  | name (h0 : 0 < tk.text.size) (hk : tk.kind = 1 + wordN tk.text) (hl : isLet (bt tk.text 0) = true) (hr : ∀ i, i < tk.text.size → isIn (bt tk.text i) = true)
  | number (h0 : 0 < tk.text.size) (hk : tk.kind = 4) (hf : isFig (bt tk.text 0) = true) (hr : ∀ i, i < tk.text.size → isIn (bt tk.text i) = true)
  | text (h0 : 0 < tk.text.size) (hk : tk.kind = 5) (hq : bt tk.text 0 = 34 ∨ bt tk.text 0 = 96)
  | sign (hk : tk.kind = 6) (hs : isSign tk.text = true)
  | put (hk : tk.kind = 6) (hs : tk.text = nlT)

theorem name_of_bytes (s : ByteArray) (h0 : 0 < s.size) (hl : isLet (bt s 0) = true) (hr : ∀ i, i < s.size → isIn (bt s i) = true) : nameB s = decide (wordN s = 0) := by
  rw [names_same]
  unfold refNameB
  rw [if_neg (by omega), let_fig hl]
  by_cases hw : wordN s = 0
  · rw [if_neg (by simp), if_neg (by omega), restB_of s s.size 0 (fun i _ h => hr i h), decide_eq_true hw]
  · rw [if_neg (by simp), if_pos hw, decide_eq_false hw]

theorem no_name (s : ByteArray) (h : isLet (bt s 0) = false) : nameB s = false := by
  rw [names_same]
  unfold refNameB
  by_cases h0 : s.size = 0
  · rw [if_pos h0]
  rw [if_neg h0]
  cases hf : isFig (bt s 0)
  · simp only [Bool.false_eq_true, if_false]
    by_cases hw : wordN s = 0
    · rw [if_neg (by omega)]
      obtain ⟨k, hk⟩ : ∃ k, s.size = k + 1 := ⟨s.size - 1, by omega⟩
      conv => lhs; rw [show s.size = k + 1 from hk]
      rw [restB, if_pos (by omega)]
      unfold isIn
      rw [h, hf]
      rfl
    · rw [if_pos hw]
  · rfl
theorem no_word (s : ByteArray) (h : isLet (bt s 0) = false) : wordN s = 0 := by
  by_cases hw : wordN s = 0
  · exact hw
  · have := (word_head s hw).2
    rw [h] at this
    cases this

theorem wordN_le (s : ByteArray) : wordN s ≤ 2 := by rcases wordN_cases s with h | h | h <;> omega

/-- What the kinds say. -/
structure KindOk (tk : Tk) : Prop where
  lo : 1 ≤ tk.kind
  hi : tk.kind ≤ 6
  name : nameB tk.text = decide (tk.kind = 1)
  word : decide (wordN tk.text = 1) = decide (tk.kind = 2)
  other : decide (wordN tk.text = 2) = decide (tk.kind = 3)
  pos : 0 < tk.text.size
  number : tk.kind = 4 → 48 ≤ bt tk.text 0 ∧ bt tk.text 0 ≤ 57
  text : tk.kind = 5 → bt tk.text 0 = 34 ∨ bt tk.text 0 = 96

theorem GoodT.kindOk {tk : Tk} (h : GoodT tk) : KindOk tk := by
  have other : ∀ k, tk.kind = k → 4 ≤ k → k ≤ 6 → isLet (bt tk.text 0) = false → 0 < tk.text.size → (k = 4 → 48 ≤ bt tk.text 0 ∧ bt tk.text 0 ≤ 57) → (k = 5 → bt tk.text 0 = 34 ∨ bt tk.text 0 = 96) → KindOk tk := fun k hk h4 h6 hl hp hn ht => by
    have e1 := no_name tk.text hl
    have e2 := no_word tk.text hl
    exact ⟨by omega, by omega, by rw [e1, decide_eq_false (by omega)], by rw [e2, decide_eq_false (by omega : ¬ tk.kind = 2)]; rfl, by rw [e2, decide_eq_false (by omega : ¬ tk.kind = 3)]; rfl, hp, fun h => hn (by omega), fun h => ht (by omega)⟩
  cases h with
  | name h0 hk hl hr =>
    have hw := wordN_le tk.text
    refine ⟨by omega, by omega, ?_, ?_, ?_, h0, fun h => by omega, fun h => by omega⟩
    · rw [name_of_bytes _ h0 hl hr]; exact decide_eq_decide.2 (by omega)
    · exact decide_eq_decide.2 (by omega)
    · exact decide_eq_decide.2 (by omega)
  | number h0 hk hf hr =>
    have hb := isFig_lt hf
    refine other 4 hk (by omega) (by omega) ?_ h0 (fun _ => by omega) (fun h => by omega)
    cases e : isLet (bt tk.text 0)
    · rfl
    · have := let_fig e; rw [hf] at this; cases this
  | text h0 hk hq =>
    refine other 5 hk (by omega) (by omega) ?_ h0 (fun h => by omega) (fun _ => hq)
    rcases hq with hq | hq <;> rw [hq] <;> decide
  | sign hk hs =>
    obtain ⟨h0, h1⟩ := sign_head _ hs
    refine other 6 hk (by omega) (by omega) ?_ h0 (fun h => by omega) (fun h => by omega)
    cases e : isLet (bt tk.text 0)
    · rfl
    · have := let_in e
      unfold noIn at h1
      rw [this] at h1
      cases h1
  | put hk hs =>
    have e : bt tk.text 0 = 10 := by rw [hs]; rfl
    refine other 6 hk (by omega) (by omega) (by rw [e]; decide) (by rw [hs]; decide) (fun h => by omega) (fun h => by omega)

/-! ### The steps -/
/-- A piece that is taken at p, of n bytes, with the kind k. -/
theorem bt_rest (t : ByteArray) (p : Nat) (hp : p < t.size) : bt (t.extract p t.size) 0 = bt t p := by
  rw [bt_ext t p t.size 0 (by omega) (Nat.le_refl _)]; rfl

theorem signN_isSign (s : ByteArray) (h : signN s ≠ 0) : isSign (s.extract 0 (signN s)) = true := by
  have hle := signN_le s
  have hp : ∀ k, k ≤ s.size → pre s k = s.extract 0 k := fun k hk => by unfold pre; rw [Nat.min_eq_left hk]
  unfold isSign
  unfold signN at h hle ⊢
  split
  · rename_i h1
    rw [if_pos h1] at hle
    rw [← hp 3 hle, h1]; rfl
  · rename_i h1
    rw [if_neg h1] at h hle
    split
    · rename_i h2
      rw [if_pos h2] at hle
      rw [← hp 2 hle, h2]; simp
    · rename_i h2
      rw [if_neg h2] at h hle
      split
      · rename_i h3
        rw [if_pos h3] at hle
        rw [← hp 1 hle, h3]; simp
      · rename_i h3
        rw [if_neg h3] at h
        exact absurd rfl h

theorem nameN_bytes (s : ByteArray) (i : Nat) (h : i < nameN s) : isIn (bt s i) = true := by
  unfold nameN at h
  split at h
  · omega
  · exact rowF_bytes s isIn isIn128 s.size 0 (by omega) i (Nat.zero_le _) h

/-- What a step does to the tokens: it adds nothing, what is put in, or one that is good; and to the notes: nothing or one. -/
theorem begin_good {t : ByteArray} {x x' : St} {p : Nat} (hp : p < t.size) (h : beginP t x p (sig t p : Int) = some x') (hx : ∀ tk ∈ x.toks, GoodT tk) : ∀ tk ∈ x'.toks, GoodT tk := by
  have hE : ∀ q, ∀ tk ∈ endL x.toks q, GoodT tk := fun q tk htk => by
    unfold endL at htk
    split at htk
    · split at htk
      · rcases List.mem_append.1 htk with h | h
        · exact hx _ h
        · rw [List.mem_singleton.1 h]; exact .put rfl rfl
      · exact hx _ htk
    · exact hx _ htk
  have hT : ∀ {k n}, takeP t x k p n = some x' → (n ≠ 0 → GoodT ⟨k, t.extract p (p + n), p⟩) → ∀ tk ∈ x'.toks, GoodT tk := fun {k n} h hg tk htk => by
    unfold takeP at h
    split at h
    · cases h
    · cases h
      rcases List.mem_append.1 htk with h | h
      · exact hx _ h
      · rw [List.mem_singleton.1 h]; exact hg (by assumption)
  have hN : ∀ {n}, noteP t x p n = some x' → ∀ tk ∈ x'.toks, GoodT tk := fun {n} h tk htk => by
    unfold noteP at h
    split at h
    · cases h
    · cases h
      have htk' : tk ∈ noteToks (t.extract p (p + n)) x.toks p := htk
      unfold noteToks at htk'
      split at htk'
      · exact hE _ _ htk'
      · exact hx _ htk'
  have hb := bt_rest t p hp
  have hz : (t.extract p t.size).size = t.size - p := ext_size t p t.size (Nat.le_refl _)
  have hsub : ∀ n, n ≤ (t.extract p t.size).size → n ≠ 0 → (t.extract p (p + n)).size = n ∧ bt (t.extract p (p + n)) 0 = bt t p ∧ ∀ i, i < n → bt (t.extract p (p + n)) i = bt (t.extract p t.size) i := fun n hn h0 => by
    refine ⟨by rw [ext_size _ _ _ (by omega)]; omega, bt_ext t p (p + n) 0 (by omega) (by omega), fun i hi => ?_⟩
    rw [bt_ext t p (p + n) i (by omega) (by omega), bt_ext t p t.size i (by omega) (Nat.le_refl _)]
  unfold beginP at h
  split at h
  · cases h
    exact hE _
  split at h
  · cases h
    exact hx
  split at h
  · exact hN h
  split at h
  · exact hN h
  split at h
  · rename_i hl
    rw [sig_small t p isLet isLet128] at hl
    refine hT h fun hn => ?_
    have hle := nameN_le (t.extract p t.size)
    obtain ⟨z1, z2, z3⟩ := hsub _ hle hn
    have hx := ext_ext t p (nameN (t.extract p t.size)) (by omega)
    exact .name (by show 0 < (t.extract p _).size; omega) (by rw [hx]) (by show isLet (bt (t.extract p _) 0) = true; rw [z2]; exact hl) (fun i hi => by
      show isIn (bt (t.extract p _) i) = true
      have hi' : i < nameN (t.extract p t.size) := by rw [← z1]; exact hi
      rw [z3 i hi']
      exact nameN_bytes _ i hi')
  split at h
  · rename_i hf
    rw [sig_small t p isFig isFig128] at hf
    refine hT h fun hn => ?_
    have hle := rowN_le (t.extract p t.size) isIn
    obtain ⟨z1, z2, z3⟩ := hsub _ hle hn
    exact .number (by show 0 < (t.extract p _).size; omega) rfl (by show isFig (bt (t.extract p _) 0) = true; rw [z2]; exact hf) (fun i hi => by
      show isIn (bt (t.extract p _) i) = true
      have hi' : i < rowN (t.extract p t.size) isIn := by rw [← z1]; exact hi
      rw [z3 i hi']
      exact rowF_bytes _ isIn isIn128 _ 0 (by omega) i (Nat.zero_le _) hi')
  have eq_bt : ∀ c : Nat, c < 128 → ((sig t p : Int) == (c : Int)) = true → bt t p = c := fun c hc he => by
    have := beq_iff_eq.1 he
    rcases sign_kind t p with ⟨e1, e2, e3⟩ | ⟨e1, e2, e3⟩ <;> omega
  split at h
  · rename_i hq
    have hq' := eq_bt 34 (by omega) hq
    refine hT h fun hn => ?_
    have hle := textN_le (t.extract p t.size) (by omega)
    obtain ⟨z1, z2, z3⟩ := hsub _ hle hn
    exact .text (by show 0 < (t.extract p _).size; omega) rfl (.inl (z2.trans hq'))
  split at h
  · rename_i hq
    have hq' := eq_bt 96 (by omega) hq
    refine hT h fun hn => ?_
    have hle := closedN_le (t.extract p t.size) 1 sTick (by omega)
    obtain ⟨z1, z2, z3⟩ := hsub _ hle hn
    exact .text (by show 0 < (t.extract p _).size; omega) rfl (.inr (z2.trans hq'))
  · refine hT h fun hn => ?_
    have hle := signN_le (t.extract p t.size)
    have hx := ext_ext t p (signN (t.extract p t.size)) (by omega)
    exact .sign rfl (by show isSign (t.extract p _) = true; rw [← hx]; exact signN_isSign _ hn)
end Go.Proofs.YtijinpnbhnfiiaaDoor
