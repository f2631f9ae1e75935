/- A token that stands elsewhere, a blank behind it, is scanned as it was. No program stands in it. -/
import Derived.Test.YthpengbglbgidaaDoorTok31
namespace Go.Proofs.YthpengbglbgidaaDoor
open Go.RowKit
set_option linter.unusedVariables false

/-! ### What a step does -/
inductive Cls (t : ByteArray) (p : Nat) : Nat → Nat → Prop
  | run (h : isIn (bt t p) = true) : Cls t p (if isLet (bt t p) then 1 + wordN (t.extract p (runB t isIn t.size (p + 1))) else 4) (runB t isIn t.size (p + 1))
  | quote (h : bt t p = 34 ∨ bt t p = 96) (e : Nat) (he : quoteI t (bt t p) t.size (p + 1) = (e : Int)) : Cls t p 5 e
  | sign (hI : noteI t p = 0) (hn : isIn (bt t p) = false) (hq : ¬ (bt t p = 34 ∨ bt t p = 96)) (h0 : signN (t.extract p t.size) ≠ 0) : Cls t p 6 (p + signN (t.extract p t.size))

theorem stepB_cls {t : ByteArray} {x y : St} (h : stepB t x = some y) : (∀ tk ∈ y.toks, tk ∈ x.toks ∨ (tk.kind = 6 ∧ tk.text = nlT)) ∨ ∃ k e, Cls t x.at_ k e ∧ (bt t x.at_ ≠ 10 ∧ bt t x.at_ ≠ 32 ∧ bt t x.at_ ≠ 9 ∧ bt t x.at_ ≠ 13) ∧ y = ⟨e, x.toks ++ [⟨k, t.extract x.at_ e, x.at_⟩], x.notes⟩ := by
  unfold stepB at h
  split at h
  · left; cases h; exact fun tk h => .inl h
  split at h
  · left; cases h
    intro tk htk
    rcases endL_mem htk with h | h
    · exact .inl h
    · exact .inr (by rw [h]; exact ⟨rfl, rfl⟩)
  rename_i c10
  split at h
  · left; cases h; exact fun tk h => .inl h
  rename_i cb
  have hb : bt t x.at_ ≠ 10 ∧ bt t x.at_ ≠ 32 ∧ bt t x.at_ ≠ 9 ∧ bt t x.at_ ≠ 13 := by omega
  split at h
  · split at h
    · cases h
    · left; cases h
      intro tk htk
      have htk' : tk ∈ noteToks _ x.toks x.at_ := htk
      unfold noteToks at htk'
      split at htk'
      · rcases endL_mem htk' with h | h
        · exact .inl h
        · exact .inr (by rw [h]; exact ⟨rfl, rfl⟩)
      · exact .inl htk'
  rename_i hI
  split at h
  · rename_i hin
    right; cases h
    exact ⟨_, _, .run hin, hb, rfl⟩
  rename_i hin
  split at h
  · rename_i hq
    split at h
    · cases h
    · rename_i h0
      right; cases h
      exact ⟨_, _, .quote hq _ (Int.toNat_of_nonneg (by omega)).symm, hb, rfl⟩
  rename_i hq
  split at h
  · cases h
  · rename_i h0
    right; cases h
    exact ⟨_, _, .sign (by omega) (by simpa using hin) hq h0, hb, rfl⟩

/-! ### Where it stands elsewhere -/
/-- The n bytes at q in c are those at p in t. -/
def Moved (t c : ByteArray) (p q n : Nat) : Prop := ∀ i, i < n → bt c (q + i) = bt t (p + i)

theorem quoteI_gt (t : ByteArray) (q : Nat) : ∀ f k (m : Nat), quoteI t q f k = (m : Int) → k < m ∧ m ≤ t.size
  | 0, k, m, h => by rw [quoteI] at h; omega
  | f + 1, k, m, h => by
    rw [quoteI] at h
    split at h
    · split at h
      · omega
      split at h
      · omega
      split at h
      · split at h
        · omega
        · have := quoteI_gt t q f _ m h; omega
      · have := quoteI_gt t q f _ m h; omega
    · omega
theorem quoteI_move (t c : ByteArray) (p q qq n : Nat) (hm : Moved t c p q n) (hc : q + n ≤ c.size) : ∀ f k, quoteI t qq f (p + k) = ((p + n : Nat) : Int) → quoteI c qq f (q + k) = ((q + n : Nat) : Int)
  | 0, k, h => by rw [quoteI] at h; omega
  | f + 1, k, h => by
    have hg := quoteI_gt t qq (f + 1) _ _ h
    have hk : k < n := by omega
    have e0 := hm k hk
    rw [quoteI] at h ⊢
    rw [if_pos (by omega)] at h
    rw [if_pos (by omega), e0]
    split
    · rename_i c1; rw [if_pos c1] at h; omega
    · rename_i c1
      rw [if_neg c1] at h
      split
      · rename_i c2; rw [if_pos c2] at h; omega
      · rename_i c2
        rw [if_neg c2] at h
        split
        · rename_i c3
          rw [if_pos c3] at h
          split at h
          · omega
          · rename_i c4
            have hg2 := quoteI_gt t qq f _ _ h
            have e1 := hm (k + 1) (by omega)
            rw [← Nat.add_assoc, ← Nat.add_assoc] at e1
            rw [if_neg (by rw [e1]; omega)]
            exact quoteI_move t c p q qq n hm hc f (k + 2) h
        · rename_i c3
          rw [if_neg c3] at h
          exact quoteI_move t c p q qq n hm hc f (k + 1) h

theorem runB_all (t : ByteArray) (f : Int → Bool) : ∀ k p i, p ≤ i → i < runB t f k p → f (bt t i) = true
  | 0, p, i, h1, h2 => by rw [runB] at h2; omega
  | k + 1, p, i, h1, h2 => by
    rw [runB] at h2
    split at h2
    · split at h2
      · rename_i hf
        by_cases e : i = p
        · subst e; exact hf
        · exact runB_all t f k (p + 1) i (by omega) h2
      · omega
    · omega

theorem mem_bt (u : ByteArray) (i : Nat) (h : i < u.size) (b : Nat) (hb : b < 256) (e : bt u i = b) : u.toList.contains (UInt8.ofNat b) = true := by
  rw [List.contains_iff_mem, show u.toList = u.data.toList by rw [ByteArray.toList_eq]]
  refine List.mem_of_getElem? (i := i) ?_
  rw [bt_list u i h, e]
theorem no32 (ws : List (List UInt8)) (hw : ws.all (fun l => !l.contains (UInt8.ofNat 32)) = true) (u : ByteArray) (i : Nat) (h : i < u.size) (e : bt u i = 32) : ws.contains u.toList = false := by
  cases hc : ws.contains u.toList
  · rfl
  · have h1 := List.all_eq_true.1 hw _ (mem_contains hc)
    rw [mem_bt u i h 32 (by omega) e] at h1
    cases h1
theorem pre_moved (s u : ByteArray) (k : Nat) (hs : k ≤ s.size) (hu : k ≤ u.size) (h : ∀ i, i < k → bt u i = bt s i) : pre u k = pre s k := by
  have z1 : (pre u k).size = k := by rw [pre_size]; omega
  have z2 : (pre s k).size = k := by rw [pre_size]; omega
  refine ba_ext _ _ (by omega) (fun i hi => ?_)
  rw [z1] at hi
  unfold pre
  rw [Nat.min_eq_left hs, Nat.min_eq_left hu, bt_ext u 0 k i (by omega) hu, bt_ext s 0 k i (by omega) hs, Nat.zero_add]
  exact h i hi
theorem pre_at (u : ByteArray) (k i : Nat) (hi : i < k) (h : i < u.size) : i < (pre u k).size ∧ bt (pre u k) i = bt u i := by
  refine ⟨by rw [pre_size]; omega, ?_⟩
  unfold pre
  rw [bt_ext u 0 _ i (by omega) (by omega), Nat.zero_add]
/-- The sign, a blank behind it. -/
theorem signN_moved (s u : ByteArray) (h0 : signN s ≠ 0) (hu : signN s < u.size) (h : ∀ i, i < signN s → bt u i = bt s i) (h32 : bt u (signN s) = 32) : signN u = signN s := by
  have hle := signN_le s
  have e : signN s = if signs3.contains (pre s 3).toList then 3 else if signs2.contains (pre s 2).toList then 2 else if signs1.contains (pre s 1).toList then 1 else 0 := rfl
  have e' : signN u = if signs3.contains (pre u 3).toList then 3 else if signs2.contains (pre u 2).toList then 2 else if signs1.contains (pre u 1).toList then 1 else 0 := rfl
  cases c3 : signs3.contains (pre s 3).toList
  case true =>
    rw [c3, if_pos rfl] at e
    rw [e] at hle hu h
    rw [e', e, pre_moved s u 3 hle (by omega) h, c3, if_pos rfl]
  rw [c3, if_neg (by simp)] at e
  cases c2 : signs2.contains (pre s 2).toList
  case true =>
    rw [c2, if_pos rfl] at e
    rw [e] at hle hu h h32
    have q := pre_at u 3 2 (by omega) (by omega)
    rw [e', e, no32 signs3 (by decide) (pre u 3) 2 q.1 (q.2.trans h32), if_neg (by simp), pre_moved s u 2 hle (by omega) h, c2, if_pos rfl]
  rw [c2, if_neg (by simp)] at e
  cases c1 : signs1.contains (pre s 1).toList
  case true =>
    rw [c1, if_pos rfl] at e
    rw [e] at hle hu h h32
    have q := pre_at u 3 1 (by omega) (by omega)
    have q2 := pre_at u 2 1 (by omega) (by omega)
    rw [e', e, no32 signs3 (by decide) (pre u 3) 1 q.1 (q.2.trans h32), if_neg (by simp), no32 signs2 (by decide) (pre u 2) 1 q2.1 (q2.2.trans h32), if_neg (by simp), pre_moved s u 1 hle (by omega) h, c1, if_pos rfl]
  rw [c1, if_neg (by simp)] at e
  exact absurd e h0

theorem noteI_zero (t : ByteArray) (p : Nat) (h : noteI t p = 0) (h2 : p + 2 ≤ t.size) (h47 : bt t p = 47) : bt t (p + 1) ≠ 47 ∧ bt t (p + 1) ≠ 42 := by
  unfold noteI at h
  rw [if_neg (by omega)] at h
  constructor
  · intro e
    rw [if_pos e] at h
    have hs := runB_step t noEnd t.size t.size p (by omega) (by rw [h47]; decide) (by omega) (by omega)
    have := runB_ge t noEnd t.size (p + 1)
    omega
  · intro e
    rw [if_neg (by omega), if_neg (by omega)] at h
    have aux : ∀ f k, 0 < k → closeI t f k ≠ 0 := by
      intro f
      induction f with
      | zero => intro k hk; rw [closeI]; omega
      | succ f ih =>
        intro k hk
        rw [closeI]
        split
        · split
          · omega
          · exact ih _ (by omega)
        · omega
    exact aux _ _ (by omega) h

theorem Cls.gt {t : ByteArray} {p k e : Nat} (h : Cls t p k e) (hp : p < t.size) : p < e ∧ e ≤ t.size := by
  cases h with
  | run h =>
    have h1 := runB_ge t isIn t.size (p + 1)
    have h2 := runB_le t isIn t.size (p + 1) (by omega)
    omega
  | quote h e he =>
    have := quoteI_gt t _ _ _ _ he
    omega
  | sign hI hn hq h0 =>
    have := signN_le (t.extract p t.size)
    rw [ext_size _ _ _ (Nat.le_refl _)] at this
    omega

theorem ext_moved (t c : ByteArray) (p q n : Nat) (hm : Moved t c p q n) (ht : p + n ≤ t.size) (hc : q + n ≤ c.size) : c.extract q (q + n) = t.extract p (p + n) :=
  ba_ext _ _ (by rw [ext_size _ _ _ ht, ext_size _ _ _ hc]; omega) (fun i hi => by
    rw [ext_size _ _ _ hc] at hi
    rw [bt_ext c q (q + n) i (by omega) hc, bt_ext t p (p + n) i (by omega) ht]
    exact hm i (by omega))

theorem Cls.move {t c : ByteArray} {p q k n : Nat} (h : Cls t p k (p + n)) (hp : p < t.size) (hm : Moved t c p q n) (hc : q + n < c.size) (h32 : bt c (q + n) = 32) (hlow : bt t p < 128) (hb : bt t p ≠ 10 ∧ bt t p ≠ 32 ∧ bt t p ≠ 9 ∧ bt t p ≠ 13) (l notes : List Tk) :
    stepB c ⟨q, l, notes⟩ = some ⟨q + n, l ++ [⟨k, t.extract p (p + n), q⟩], notes⟩ := by
  obtain ⟨g1, g2⟩ := h.gt hp
  have hx := ext_moved t c p q n hm g2 (by omega)
  have e0 : bt c q = bt t p := hm 0 (by omega)
  have hfe : ¬ feff c q = true := fun h => by
    obtain ⟨h0, _, h1, _⟩ := (feff_iff c q).1 h
    subst h0
    omega
  unfold stepB
  dsimp only
  rw [if_neg hfe, e0, if_neg hb.1, if_neg (by omega)]
  generalize hE : p + n = E at *
  cases h with
  | run h =>
    have h47 : noteI c q = 0 := by
      unfold noteI
      rw [if_pos (.inr (by rw [e0]; intro h'; rw [h'] at h; revert h; decide))]
    have hr : runB c isIn c.size (q + 1) = q + n := by
      rw [runB_skip c isIn (q + 1) (n - 1) c.size (by omega) (fun i hi => by
        have := hm (1 + i) (by omega)
        rw [← Nat.add_assoc, ← Nat.add_assoc] at this
        rw [this]
        exact runB_all t isIn t.size (p + 1) _ (by omega) (by omega)) (by omega)]
      rw [show q + 1 + (n - 1) = q + n by omega]
      exact runB_stop _ _ _ _ (.inr (by rw [h32]; decide))
    rw [if_neg (fun h => h h47), if_pos h, hr, hx]
  | quote h e he =>
    have h47 : noteI c q = 0 := by
      unfold noteI
      rw [if_pos (.inr (by rw [e0]; omega))]
    have hin : ¬ isIn (bt t p : Int) = true := by rcases h with h | h <;> rw [h] <;> decide
    have hq : quoteI c (bt t p) c.size (q + 1) = ((q + n : Nat) : Int) := by
      rw [quoteI_more c (bt t p) c.size (t.size + c.size) (q + 1) (by omega) (by omega)]
      refine quoteI_move t c p q (bt t p) n hm (by omega) _ 1 ?_
      rw [quoteI_more t (bt t p) (t.size + c.size) t.size (p + 1) (by omega) (by omega), he, hE]
    rw [if_neg (fun h => h h47), if_neg hin, if_pos h, hq, if_neg (by omega), Int.toNat_natCast, hx]
  | sign hI hn hq h0 =>
    have hn' : n = signN (t.extract p t.size) := by omega
    have hz := ext_size t p t.size (Nat.le_refl _)
    have hzc := ext_size c q c.size (Nat.le_refl _)
    have hle := signN_le (t.extract p t.size)
    have hs : signN (c.extract q c.size) = n := by
      rw [hn']
      refine signN_moved _ _ h0 (by omega) (fun i hi => ?_) ?_
      · rw [bt_ext c q c.size i (by omega) (Nat.le_refl _), bt_ext t p t.size i (by omega) (Nat.le_refl _)]
        exact hm i (by omega)
      · rw [bt_ext c q c.size _ (by omega) (Nat.le_refl _), ← hn']
        exact h32
    have h47 : noteI c q = 0 := by
      unfold noteI
      by_cases e : bt t p = 47
      · have h1 : bt c (q + 1) ≠ 47 ∧ bt c (q + 1) ≠ 42 := by
          by_cases e1 : n = 1
          · rw [e1] at h32; omega
          · have := hm 1 (by omega)
            have := noteI_zero t p hI (by omega) e
            omega
        rw [if_neg (by omega), if_neg h1.1, if_pos h1.2]
      · rw [if_pos (.inr (by omega))]
    rw [if_neg (fun h => h h47), hn, if_neg (by simp), if_neg hq, hs, if_neg (by omega), hx]

/-! ### It is a text elsewhere, too -/
theorem dec_move (t c : ByteArray) (p q : Nat) (hp : p < t.size) (hg : bad t p (sig t p) = false) (hm : Moved t c p q (wid t p)) (hc : q + wid t p ≤ c.size) : Utf8.decode c q = Utf8.decode t p := by
  have hw := wid_pos t p
  have e0 := hm 0 (by omega)
  have hnb : Utf8.decode t p ≠ (65533, 1) := fun e => by
    unfold bad sig wid at hg
    rw [e] at hg
    simp at hg
  simp only [Nat.add_zero] at e0
  unfold wid at hm hc hw
  by_cases g1 : bt t p < 128
  · rw [dec_1 t p g1, dec_1 c q (by omega), e0]
  by_cases g2 : bt t p < 192 ∨ 248 ≤ bt t p
  · exact absurd (dec_x t p (by omega) g2) hnb
  by_cases g3 : bt t p < 224
  · have e := dec_2 t p (by omega) g3
    have e' := dec_2 c q (by omega) (by omega)
    rw [e] at hm hc hnb ⊢
    rw [e']
    split at hnb
    · rename_i hh
      rw [if_pos hh] at hm hc ⊢
      dsimp only at hm hc
      have e1 := hm 1 (by omega)
      rw [e0, e1, if_pos ⟨by omega, hh.2⟩]
    · exact absurd rfl hnb
  by_cases g4 : bt t p < 240
  · have e := dec_3 t p (by omega) g4
    have e' := dec_3 c q (by omega) (by omega)
    rw [e] at hm hc hnb ⊢
    rw [e']
    split at hnb
    · rename_i hh
      rw [if_pos hh] at hm hc ⊢
      dsimp only at hm hc
      have e1 := hm 1 (by omega)
      have e2 := hm 2 (by omega)
      rw [e0, e1, e2, if_pos ⟨by omega, hh.2⟩]
    · exact absurd rfl hnb
  · have e := dec_4 t p (by omega) (by omega)
    have e' := dec_4 c q (by omega) (by omega)
    rw [e] at hm hc hnb ⊢
    rw [e']
    split at hnb
    · rename_i hh
      rw [if_pos hh] at hm hc ⊢
      dsimp only at hm hc
      have e1 := hm 1 (by omega)
      have e2 := hm 2 (by omega)
      have e3 := hm 3 (by omega)
      rw [e0, e1, e2, e3, if_pos ⟨by omega, hh.2⟩]
    · exact absurd rfl hnb

theorem wrongF_more (s : ByteArray) : ∀ f g p, s.size ≤ p + f → s.size ≤ p + g → wrongF s f p = wrongF s g p
  | 0, 0, p, _, _ => rfl
  | 0, g + 1, p, h, _ => by rw [wrongF, wrongF, if_neg (by omega)]
  | f + 1, 0, p, _, h => by rw [wrongF, wrongF, if_neg (by omega)]
  | f + 1, g + 1, p, h1, h2 => by
    have := wid_pos s p
    rw [wrongF, wrongF, wrongF_more s f g (p + wid s p) (by omega) (by omega)]
theorem Valid.one {c : ByteArray} {q : Nat} (hq : q < c.size) (hg : bad c q (sig c q) = false) (h : Valid c (q + wid c q)) : Valid c q := by
  obtain ⟨f, h1, h2⟩ := h
  refine ⟨c.size + 1, by omega, ?_⟩
  rw [wrongF, if_pos hq, hg]
  rw [wrongF_more c f c.size _ h1 (by omega)] at h2
  exact h2
theorem Valid.low {c : ByteArray} {q : Nat} (hq : q < c.size) (h0 : bt c q ≠ 0) (hl : bt c q < 128) (h : Valid c (q + 1)) : Valid c q := by
  obtain ⟨e1, e2⟩ := sig_1 c q hl
  refine Valid.one hq ?_ (by rw [e2]; exact h)
  unfold bad
  rw [e1]
  simp only [Bool.or_eq_false_iff, Bool.and_eq_false_iff]
  refine ⟨⟨?_, .inl ?_⟩, .inl ?_⟩
  · exact beq_eq_false_iff_ne.2 (by omega)
  · exact beq_eq_false_iff_ne.2 (by omega)
  · exact beq_eq_false_iff_ne.2 (by omega)
theorem valid_move (t c : ByteArray) : ∀ n m p q, n ≤ m → p + n ≤ t.size → Edge t (p + n) → Valid t p → (0 < p ∨ bt t p < 128) → q + n ≤ c.size → Moved t c p q n → Valid c (q + n) → Valid c q := by
  intro n m
  induction m generalizing n with
  | zero => intro p q hnm ht hE hv hpos hc hm h; obtain rfl : n = 0 := by omega
            exact h
  | succ m ih =>
    intro p q hnm ht hE hv hpos hc hm h
    by_cases h0 : n = 0
    · subst h0; exact h
    · obtain ⟨hg, hv'⟩ := valid_next (by omega) hv
      have hw := wid_pos t p
      have hs := edge_skip (t := t) (p := p) (q := p + n) (by omega) (by omega) ht hE
      have hd := dec_move t c p q (by omega) hg (fun i hi => hm i (by omega)) (by omega)
      have es : sig c q = sig t p := congrArg Prod.fst hd
      have ew : wid c q = wid t p := congrArg Prod.snd hd
      refine Valid.one (by omega) ?_ ?_
      · rw [es]
        unfold bad at hg ⊢
        rw [ew]
        have hfe : (((sig t p : Nat) : Int) == 65279 && decide (0 < q)) = false := by
          rcases hpos with hp | hp
          · rw [decide_eq_true hp, Bool.and_true] at hg
            have : (((sig t p : Nat) : Int) == 65279) = false := by
              cases e : (((sig t p : Nat) : Int) == 65279)
              · rfl
              · rw [e] at hg; simp at hg
            rw [this]; rfl
          · have := (sig_1 t p hp).1
            rw [beq_eq_false_iff_ne.2 (by omega : ((sig t p : Nat) : Int) ≠ 65279)]; rfl
        rw [hfe, Bool.or_false]
        cases e1 : (((sig t p : Nat) : Int) == 0)
        · rw [Bool.false_or]
          rw [Bool.or_eq_false_iff] at hg
          exact hg.2
        · rw [e1] at hg; simp at hg
      · rw [ew]
        refine ih (n - wid t p) (p + wid t p) (q + wid t p) (by omega) (by omega) (by rw [show p + wid t p + (n - wid t p) = p + n by omega]; exact hE) hv' (.inl (by omega)) (by omega) (fun i hi => ?_) (by rw [show q + wid t p + (n - wid t p) = q + n by omega]; exact h)
        have := hm (wid t p + i) (by omega)
        rw [← Nat.add_assoc, ← Nat.add_assoc] at this
        exact this
end Go.Proofs.YthpengbglbgidaaDoor
