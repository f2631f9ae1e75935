/- What means a number or a text is a token of its own: pure. What means a text is a token of its own: pure. -/
import Derived.Test.YtijinpnbhnfiiaaDoorLit18
import Derived.Test.YtijinpnbhnfiiaaDoorTok30
namespace Go.Proofs.YtijinpnbhnfiiaaDoor
open Go.RowKit
set_option linter.unusedVariables false

/-! ### A token alone -/
theorem step_cls {s : ByteArray} {p k e : Nat} (h : Cls s p k e) (hf : ¬ feff s p = true) (hb : bt s p ≠ 10 ∧ bt s p ≠ 32 ∧ bt s p ≠ 9 ∧ bt s p ≠ 13) (l n : List Tk) : stepB s ⟨p, l, n⟩ = some ⟨e, l ++ [⟨k, s.extract p e, p⟩], n⟩ := by
  have h47 : bt s p ≠ 47 → noteI s p = 0 := fun h => by unfold noteI; rw [if_pos (.inr h)]
  unfold stepB
  dsimp only
  rw [if_neg hf, if_neg hb.1, if_neg (by omega)]
  cases h with
  | run h =>
    have hn : noteI s p = 0 := h47 (by intro e; rw [e] at h; revert h; decide)
    rw [if_neg (fun h => h hn), if_pos h]
  | quote h e he =>
    have hin : ¬ isIn (bt s p : Int) = true := by rcases h with h | h <;> rw [h] <;> decide
    rw [if_neg (fun h' => h' (h47 (by omega))), if_neg hin, if_pos h, he, if_neg (by omega), Int.toNat_natCast]
  | sign hI hn hq h0 =>
    rw [if_neg (fun h => h hI), if_neg (by rw [hn]; simp), if_neg hq, if_neg h0]

theorem ext_self (s : ByteArray) : s.extract 0 s.size = s :=
  ba_ext _ _ (by rw [ext_size _ _ _ (Nat.le_refl _)]; omega) (fun i hi => by
    rw [ext_size _ _ _ (Nat.le_refl _)] at hi
    rw [bt_ext s 0 s.size i (by omega) (Nat.le_refl _), Nat.zero_add])

theorem scan_one (s : ByteArray) (k : Nat) (h0 : 0 < s.size) (hs : s.size ≤ 65536) (hv : Valid s 0) (hc : Cls s 0 k s.size) (hb : bt s 0 ≠ 10 ∧ bt s 0 ≠ 32 ∧ bt s 0 ≠ 9 ∧ bt s 0 ≠ 13) (hk : k = 4 ∨ k = 5) :
    (scanR s).err = 0 ∧ (scanR s).st.toks = [⟨k, s, 0⟩, ⟨6, nlT, s.size⟩] := by
  obtain ⟨e1, -, e3, -⟩ := scanR_scanB s
  rw [e1, e3]
  have hlow := (hc.low h0).1
  have hfe : ¬ feff s 0 = true := fun h => by
    have := ((feff_iff s 0).1 h).2.2.1
    omega
  have hstep := step_cls hc hfe hb [] []
  rw [ext_self] at hstep
  have hsc : scanF s s.size st0 = .ok ⟨s.size, [⟨k, s, 0⟩], []⟩ := by
    obtain ⟨m, hm⟩ : ∃ m, s.size = m + 1 := ⟨s.size - 1, by omega⟩
    have e : scanF s (m + 1) ⟨0, [], []⟩ = .ok ⟨s.size, [⟨k, s, 0⟩], []⟩ := by
      rw [scanF, if_pos h0, hstep]
      dsimp only
      cases m with
      | zero => rfl
      | succ m => rw [scanF, if_neg (by simp)]; rfl
    rw [← hm] at e
    exact e
  obtain ⟨f, hf, hw⟩ := hv
  have hw' : ¬ 0 ≤ wrongR s := by
    unfold wrongR
    rw [wrongF_more s _ f 0 (by omega) hf, hw]
    omega
  have hend : endL [(⟨k, s, 0⟩ : Tk)] s.size = [⟨k, s, 0⟩, ⟨6, nlT, s.size⟩] := by
    have : endsB ⟨k, s, 0⟩ = true := by
      unfold endsB
      rcases hk with rfl | rfl <;> rfl
    unfold endL
    simp [this]
  unfold scanB
  rw [if_neg (by omega), if_neg hw', hsc]
  exact ⟨rfl, hend⟩

theorem valid_low (s : ByteArray) (h : ∀ i, i < s.size → bt s i ≠ 0 ∧ bt s i < 128) : ∀ k p, p ≤ s.size → s.size ≤ p + k → Valid s p
  | 0, p, h1, h2 => ⟨0, by omega, rfl⟩
  | k + 1, p, h1, h2 => by
    by_cases hp : p < s.size
    · exact (valid_low s h k (p + 1) (by omega) (by omega)).low hp (h p hp).1 (h p hp).2
    · exact ⟨0, by omega, rfl⟩

/-! ### Numbers -/
theorem digW_ok {r base : Int} (hb : base ≤ 16) (h : digW r base < base) : (48 ≤ r ∧ r ≤ 57) ∨ (97 ≤ r ∧ r ≤ 102) ∨ (65 ≤ r ∧ r ≤ 70) := by
  unfold digW at h
  split at h
  · exact .inl (by assumption)
  · split at h
    · exact .inr (.inl (by assumption))
    · split at h
      · exact .inr (.inr (by assumption))
      · omega
theorem isIn_dig {r : Int} (h : (48 ≤ r ∧ r ≤ 57) ∨ (97 ≤ r ∧ r ≤ 102) ∨ (65 ≤ r ∧ r ≤ 70)) : isIn r = true := by
  unfold isIn isLet isFig
  rcases h with h | h | h
  · simp only [Bool.or_eq_true, Bool.and_eq_true, decide_eq_true_eq, beq_iff_eq]; omega
  · simp only [Bool.or_eq_true, Bool.and_eq_true, decide_eq_true_eq, beq_iff_eq]; omega
  · simp only [Bool.or_eq_true, Bool.and_eq_true, decide_eq_true_eq, beq_iff_eq]; omega

theorem numF_bytes (d : ByteArray) (base : Nat) (hb : base ≤ 16) : ∀ k p a l r, numF d base k p a l = some r → d.size ≤ p + k → ∀ i, p ≤ i → i < d.size → isIn (bt d i) = true
  | 0, p, a, l, r, h, hk, i, h1, h2 => by omega
  | k + 1, p, a, l, r, h, hk, i, h1, h2 => by
    rw [numF, if_pos (by omega)] at h
    rcases sign_kind d p with ⟨e1, e2, e3⟩ | ⟨e1, e2, e3⟩
    · rw [e1] at h
      by_cases hi : i = p
      · subst hi
        split at h
        · rename_i hc
          have : bt d i = 95 := by omega
          rw [this]; rfl
        · split at h
          · rename_i hd
            have := isIn_dig (digW_ok (by omega) hd)
            rw [e2] at this
            exact this
          · cases h
      · split at h
        · split at h
          · cases h
          · exact numF_bytes d base hb k (p + 1) _ _ r h (by omega) i (by omega) h2
        · split at h
          · exact numF_bytes d base hb k (p + 1) _ _ r h (by omega) i (by omega) h2
          · cases h
    · split at h
      · omega
      · split at h
        · rename_i hd
          have := digW_ok (by omega) hd
          omega
        · cases h

theorem num_bytes (s t : ByteArray) (h : numR s = (t, 0)) : 0 < s.size ∧ s.size ≤ 200 ∧ isFig (bt s 0) = true ∧ ∀ i, i < s.size → isIn (bt s i) = true := by
  unfold numR at h
  split at h
  · cases h
  rename_i h200
  unfold numberP at h
  generalize hF : numF _ _ _ _ _ _ = r at h
  cases r with
  | none => cases h
  | some al =>
    obtain ⟨a, l⟩ := al
    have hb := splitN_base s
    change meantV (if _ then none else some (writtenB l)) = _ at h
    split at h
    · cases h
    rename_i hz
    have hsp : (splitN s).2 ≤ 2 ∧ ((splitN s).2 ≠ 0 → 2 ≤ s.size) := by
      unfold splitN
      split
      · simp
      · rename_i h1
        repeat' split
        all_goals simp
        all_goals omega
    have hsz : s.size ≠ 0 := fun h0 => hz (.inl (by rw [ext_size _ _ _ (Nat.le_refl _)]; omega))
    have hsz2 : (splitN s).2 < s.size := by
      rcases Nat.lt_or_ge (splitN s).2 s.size with h | h
      · exact h
      · exact absurd (.inl (by rw [ext_size _ _ _ (Nat.le_refl _)]; omega)) hz
    have hd := numF_bytes _ _ (by omega) _ _ _ _ _ hF (by omega)
    have hrest : ∀ i, (splitN s).2 ≤ i → i < s.size → isIn (bt s i) = true := fun i h1 h2 => by
      have := hd (i - (splitN s).2) (Nat.zero_le _) (by rw [ext_size _ _ _ (Nat.le_refl _)]; omega)
      rw [bt_ext s _ s.size _ (by omega) (Nat.le_refl _), show (splitN s).2 + (i - (splitN s).2) = i by omega] at this
      exact this
    refine ⟨by omega, by omega, ?_, ?_⟩
    · by_cases h10 : (splitN s).1 = 10
      · have h20 : (splitN s).2 = 0 := by
          unfold splitN at h10 ⊢
          split
          · rfl
          · rename_i h1
            rw [if_neg h1] at h10
            repeat' split at h10
            all_goals simp at h10
        rw [h10, h20, if_pos rfl, ext_self] at hF
        obtain ⟨m, hm⟩ : ∃ m, s.size = m + 1 := ⟨s.size - 1, by omega⟩
        rw [hm, numF, if_pos (by omega)] at hF
        split at hF
        · rw [if_pos rfl] at hF; cases hF
        · split at hF
          · rename_i hdw
            have h1 := digW_ok (by decide) hdw
            have h2 : 48 ≤ (sig s 0 : Int) ∧ (sig s 0 : Int) ≤ 57 := by
              rcases h1 with h | h | h
              · exact h
              · unfold digW at hdw
                rw [if_neg (by omega), if_pos h] at hdw
                omega
              · unfold digW at hdw
                rw [if_neg (by omega), if_neg (by omega), if_pos h] at hdw
                omega
            have h3 : isFig (sig s 0) = true := by unfold isFig; simp; omega
            rw [sig_small s 0 isFig isFig128] at h3
            exact h3
          · cases hF
      · have : bt s 0 = 48 := by
          unfold splitN at h10
          split at h10
          · exact absurd rfl h10
          · rename_i h1
            omega
        rw [this]; rfl
    · intro i hi
      by_cases h2 : (splitN s).2 ≤ i
      · exact hrest i h2 hi
      · have hspl : bt s 0 = 48 ∧ ((splitN s).2 = 2 → bt s 1 = 120 ∨ bt s 1 = 88 ∨ bt s 1 = 98 ∨ bt s 1 = 66 ∨ bt s 1 = 111 ∨ bt s 1 = 79) := by
          unfold splitN at h2 ⊢
          split
          · rename_i h1
            rw [if_pos h1] at h2
            exact absurd (Nat.zero_le _) h2
          · rename_i h1
            refine ⟨by omega, ?_⟩
            repeat' split
            all_goals intro _
            all_goals omega
        rcases (by omega : i = 0 ∨ (i = 1 ∧ (splitN s).2 = 2)) with rfl | ⟨rfl, h3⟩
        · rw [hspl.1]; rfl
        · rcases hspl.2 h3 with h | h | h | h | h | h <;> rw [h] <;> rfl

/-- A number is a token of its own. -/
theorem num_token (s t : ByteArray) (h : numR s = (t, 0)) : (scanR s).err = 0 ∧ (scanR s).st.toks = [⟨4, s, 0⟩, ⟨6, nlT, s.size⟩] := by
  obtain ⟨h0, h2, hf, hi⟩ := num_bytes s t h
  have hl : isLet (bt s 0) = false := by
    cases e : isLet (bt s 0)
    · rfl
    · have := let_fig e; rw [hf] at this; cases this
  have hr : runB s isIn s.size (0 + 1) = s.size := by
    rw [runB_skip s isIn (0 + 1) (s.size - 1) s.size (by omega) (fun i h => hi _ (by omega)) (by omega)]
    rw [show 0 + 1 + (s.size - 1) = s.size by omega]
    exact runB_stop _ _ _ _ (.inl (Nat.le_refl _))
  have hc : Cls s 0 4 s.size := by
    have := Cls.run (t := s) (p := 0) (hi 0 h0)
    rw [hl, if_neg (by simp), hr] at this
    exact this
  have hb := isFig_lt hf
  refine scan_one s 4 h0 (by omega) ?_ hc (by omega) (.inl rfl)
  refine valid_low s (fun i h => ?_) s.size 0 (Nat.zero_le _) (by omega)
  have h1 := hi i h
  have h2 := isIn128 _ h1
  refine ⟨fun e => ?_, by omega⟩
  rw [e] at h1
  revert h1
  decide
end Go.Proofs.YtijinpnbhnfiiaaDoor

namespace Go.Proofs.YtijinpnbhnfiiaaDoor
open Go.RowKit
set_option linter.unusedVariables false

/-- Over bytes that neither end a text nor a line nor are strokes. -/
theorem quoteI_pass (t : ByteArray) (k : Nat) : ∀ n, k + n ≤ t.size → (∀ i, i < n → bt t (k + i) ≠ 10 ∧ bt t (k + i) ≠ 92 ∧ bt t (k + i) ≠ 34) → quoteI t 34 t.size k = quoteI t 34 t.size (k + n)
  | 0, h1, h2 => rfl
  | n + 1, h1, h2 => by
    obtain ⟨a, b, c⟩ := h2 n (by omega)
    rw [quoteI_pass t k n (by omega) (fun i hi => h2 i (by omega)), quoteI_else t (k + n) (by omega) a b c]
    rfl

theorem digF_bytes (u : ByteArray) (base : Nat) (hb : base ≤ 16) : ∀ k q n r, digF u base k q n = some r → u.size ≤ q + k → ∀ i, q ≤ i → i < u.size → (48 ≤ bt u i ∧ bt u i ≤ 57) ∨ (97 ≤ bt u i ∧ bt u i ≤ 102) ∨ (65 ≤ bt u i ∧ bt u i ≤ 70)
  | 0, q, n, r, h, hk, i, h1, h2 => by omega
  | k + 1, q, n, r, h, hk, i, h1, h2 => by
    rw [digF, if_pos (by omega)] at h
    split at h
    · rename_i hd
      have hx := digW_ok (by omega) hd
      rcases sign_kind u q with ⟨e1, e2, e3⟩ | ⟨e1, e2, e3⟩
      · rw [e1] at h
        by_cases hi : i = q
        · subst hi; omega
        · exact digF_bytes u base hb k (q + 1) _ r h (by omega) i (by omega) h2
      · omega
    · cases h

theorem digitsP_bytes {t : ByteArray} {p count base : Nat} {ahead n : Int} {q : Nat} (hb : base ≤ 16) (h : digitsP t p count base ahead = some (n, q)) : q = p + count ∧ q ≤ t.size ∧ ∀ i, p ≤ i → i < q → bt t i ≠ 10 ∧ bt t i ≠ 92 ∧ bt t i ≠ 34 := by
  unfold digitsP at h
  split at h
  · rename_i hp
    split at h
    · rename_i m hm
      injection h with h
      injection h with h1 h2
      subst h1 h2
      refine ⟨rfl, hp, fun i h1 h2 => ?_⟩
      have hz := ext_size t p (p + count) hp
      have := digF_bytes _ base hb count 0 ahead m hm (by omega) (i - p) (Nat.zero_le _) (by omega)
      rw [bt_ext t p (p + count) (i - p) (by omega) hp, show p + (i - p) = i by omega] at this
      omega
    · cases h
  · cases h

theorem strokeR_ten : strokeR 10 = none := by decide
/-- What a stroke takes. -/
theorem strokeP_bytes {t : ByteArray} {p r : Nat} {l m : List UInt8} (h : strokeP t p l = some (r, m)) : p + 1 ≤ r ∧ r ≤ t.size ∧ bt t p ≠ 10 ∧ ∀ i, p + 1 ≤ i → i < r → bt t i ≠ 10 ∧ bt t i ≠ 92 ∧ bt t i ≠ 34 := by
  unfold strokeP signP at h
  split at h
  · rename_i c q hq
    split at hq
    · rename_i hp
      injection hq with hq
      injection hq with h1 h2
      subst h1 h2
      have hsm : sig t p < 128 → wid t p = 1 ∧ bt t p = sig t p := fun h => by
        rcases sign_kind t p with ⟨e1, e2, e3⟩ | ⟨e1, e2, e3⟩
        · exact ⟨e1, e2.symm⟩
        · omega
      unfold strokeB at h
      split at h
      · rename_i x hx
        injection h with h
        injection h with h1 h2
        have hlt : sig t p < 128 ∧ sig t p ≠ 10 := by
          unfold strokeR at hx
          cases e : strokeL.find? (fun y => y.1 == ((sig t p : Nat) : Int)) with
          | none => rw [e] at hx; cases hx
          | some y =>
            have h3 := List.mem_of_find?_eq_some e
            have h4 := List.find?_some e
            have h5 : ∀ y ∈ strokeL, y.1 < 128 ∧ y.1 ≠ 10 := by decide
            have := h5 y h3
            have := beq_iff_eq.1 h4
            omega
        obtain ⟨e1, e2⟩ := hsm hlt.1
        refine ⟨by omega, by omega, by omega, fun i h3 h4 => by omega⟩
      · rename_i hx
        have fin : ∀ (count base : Nat) (ahead n : Int) (q : Nat), base ≤ 16 → sig t p < 128 → sig t p ≠ 10 → digitsP t (p + wid t p) count base ahead = some (n, q) → q = r → p + 1 ≤ r ∧ r ≤ t.size ∧ bt t p ≠ 10 ∧ ∀ i, p + 1 ≤ i → i < r → bt t i ≠ 10 ∧ bt t i ≠ 92 ∧ bt t i ≠ 34 := by
          intro count base ahead n q hb h1 h2 h3 h4
          obtain ⟨e1, e2⟩ := hsm h1
          rw [e1] at h3
          obtain ⟨g1, g2, g3⟩ := digitsP_bytes hb h3
          subst h4
          exact ⟨by omega, g2, by omega, g3⟩
        have byte : ∀ (count base : Nat) (ahead : Int), base ≤ 16 → sig t p < 128 → sig t p ≠ 10 → byteP (digitsP t (p + wid t p) count base ahead) l = some (r, m) → p + 1 ≤ r ∧ r ≤ t.size ∧ bt t p ≠ 10 ∧ ∀ i, p + 1 ≤ i → i < r → bt t i ≠ 10 ∧ bt t i ≠ 92 ∧ bt t i ≠ 34 := by
          intro count base ahead hb h1 h2 h3
          unfold byteP at h3
          split at h3
          · rename_i n q hd
            injection h3 with h3
            injection h3 with h3 h4
            exact fin count base ahead n q hb h1 h2 hd h3
          · cases h3
        have rune : ∀ (count base : Nat) (ahead : Int), base ≤ 16 → sig t p < 128 → sig t p ≠ 10 → runeP (digitsP t (p + wid t p) count base ahead) l = some (r, m) → p + 1 ≤ r ∧ r ≤ t.size ∧ bt t p ≠ 10 ∧ ∀ i, p + 1 ≤ i → i < r → bt t i ≠ 10 ∧ bt t i ≠ 92 ∧ bt t i ≠ 34 := by
          intro count base ahead hb h1 h2 h3
          unfold runeP at h3
          split at h3
          · rename_i n q hd
            split at h3
            · injection h3 with h3
              injection h3 with h3 h4
              exact fin count base ahead n q hb h1 h2 hd h3
            · cases h3
          · cases h3
        split at h
        · exact byte 2 16 0 (by omega) (by omega) (by omega) h
        · split at h
          · exact rune 4 16 0 (by omega) (by omega) (by omega) h
          · split at h
            · exact rune 8 16 0 (by omega) (by omega) (by omega) h
            · split at h
              · rename_i hd
                have hc := digW_ok (by omega) hd
                unfold octalP at h
                split at h
                · rename_i n q hq
                  split at h
                  · injection h with h
                    injection h with h3 h4
                    exact fin 2 8 _ n q (by omega) (by omega) (by omega) hq h3
                  · cases h
                · cases h
              · cases h
    · cases hq
  · cases h

/-- Between quotes: the text ends behind the last byte. -/
theorem parts_quote (s t : ByteArray) (hz : s.size = t.size + 2) (hb : ∀ i, i < t.size → bt s (i + 1) = bt t i) (hq : bt s (t.size + 1) = 34) : ∀ k p l r, partsF t k p l = some r → t.size ≤ p + k → p ≤ t.size → quoteI s 34 s.size (p + 1) = (s.size : Int)
  | 0, p, l, r, h, hk, hp => by
    obtain rfl : p = t.size := by omega
    rw [quoteI_hit s _ (by omega) hq]
    omega
  | k + 1, p, l, r, h, hk, hp => by
    rw [partsF] at h
    by_cases hlt : p < t.size
    · rw [if_pos hlt] at h
      have e0 := hb p hlt
      have hw := wid_pos t p
      have hwl := wid_le t p hlt
      split at h
      · cases h
      rename_i h1
      split at h
      · rename_i h2
        split at h
        · rename_i r' m hs
          obtain ⟨g1, g2, g3, g4⟩ := strokeP_bytes hs
          have h92 : bt t p = 92 ∧ wid t p = 1 := by rcases sign_kind t p with ⟨e1, e2, e3⟩ | ⟨e1, e2, e3⟩ <;> omega
          rw [h92.2] at g1 g3 g4
          have e1 := hb (p + 1) (by omega)
          rw [quoteI_stroke s (p + 1) (by omega) (by omega), if_neg (by omega)]
          have hpass := quoteI_pass s (p + 1 + 2) (r' - (p + 2)) (by omega) (fun i hi => by
            have e2 := hb (p + 2 + i) (by omega)
            have := g4 (p + 2 + i) (by omega) (by omega)
            rw [show p + 1 + 2 + i = p + 2 + i + 1 by omega]
            omega)
          rw [hpass, show p + 1 + 2 + (r' - (p + 2)) = r' + 1 by omega]
          exact parts_quote s t hz hb hq k r' m r h (by omega) g2
        · cases h
      · rename_i h2
        rcases sign_kind t p with ⟨e1, e2, e3⟩ | ⟨e1, e2, e3⟩
        · rw [e1] at h
          rw [quoteI_else s (p + 1) (by omega) (by omega) (by omega) (by omega)]
          exact parts_quote s t hz hb hq k (p + 1) _ r h (by omega) (by omega)
        · have hs := quoteI_skip s (p + 1) (wid t p) (by omega) (fun i hi => by
            have := e3 i hi
            have := hb (p + i) (by omega)
            rw [show p + 1 + i = p + i + 1 by omega]
            omega)
          rw [hs, show p + 1 + wid t p = p + wid t p + 1 by omega]
          exact parts_quote s t hz hb hq k _ _ r h (by omega) hwl
    · obtain rfl : p = t.size := by omega
      rw [quoteI_hit s _ (by omega) hq]
      omega

theorem raw_bytes (t : ByteArray) : ∀ k p l r, rawF t k p l = some r → t.size ≤ p + k → ∀ i, p ≤ i → i < t.size → bt t i ≠ 96
  | 0, p, l, r, h, hk, i, h1, h2 => by omega
  | k + 1, p, l, r, h, hk, i, h1, h2 => by
    rw [rawF, if_pos (by omega)] at h
    have hw := wid_pos t p
    split at h
    · cases h
    rename_i h96
    have hi : i < p + wid t p → bt t i ≠ 96 := fun hi => by
      rcases sign_kind t p with ⟨e1, e2, e3⟩ | ⟨e1, e2, e3⟩
      · obtain rfl : i = p := by omega
        omega
      · have := e3 (i - p) (by omega)
        rw [show p + (i - p) = i by omega] at this
        omega
    by_cases hlt : i < p + wid t p
    · exact hi hlt
    · split at h
      · exact raw_bytes t k _ _ r h (by omega) i (by omega) h2
      · exact raw_bytes t k _ _ r h (by omega) i (by omega) h2

/-- A text is a token of its own. -/
theorem txt_token (s t : ByteArray) (h : txtR s = (t, 0)) : (scanR s).err = 0 ∧ (scanR s).st.toks = [⟨5, s, 0⟩, ⟨6, nlT, s.size⟩] := by
  unfold txtR at h
  split at h
  · cases h
  rename_i hs
  unfold textP at h
  split at h
  case isFalse => cases h
  rename_i hg
  obtain ⟨h1, he, hw⟩ := hg
  have hz := ext_size s 1 (s.size - 1) (by omega)
  have hb : ∀ i, i < (s.extract 1 (s.size - 1)).size → bt s (i + 1) = bt (s.extract 1 (s.size - 1)) i := fun i hi => by
    rw [bt_ext s 1 (s.size - 1) i (by omega) (by omega), Nat.add_comm]
  have hv : Valid s 0 := ⟨s.size, by omega, wrongR_neg s (by omega)⟩
  split at h
  · rename_i h34
    unfold partsP at h
    cases hp : partsF (s.extract 1 (s.size - 1)) (s.extract 1 (s.size - 1)).size 0 [] with
    | none => rw [hp] at h; cases h
    | some r =>
      have hq := parts_quote s _ (by omega) hb (by rw [hz, show s.size - 1 - 1 + 1 = s.size - 1 by omega]; omega) _ 0 [] r hp (by omega) (Nat.zero_le _)
      have hc : Cls s 0 5 s.size := .quote (.inl h34) s.size (by rw [h34]; exact hq)
      exact scan_one s 5 (by omega) (by omega) hv hc (by omega) (.inr rfl)
  · split at h
    · rename_i h34 h96
      unfold rawP at h
      cases hp : rawF (s.extract 1 (s.size - 1)) (s.extract 1 (s.size - 1)).size 0 [] with
      | none => rw [hp] at h; cases h
      | some r =>
        have hr := raw_bytes _ _ 0 [] r hp (by omega)
        have hq := tick_some s (s.size - 1) (by omega) (by omega) s.size 1 (by omega) (by omega) (fun i h3 h4 => by
          have := hr (i - 1) (Nat.zero_le _) (by omega)
          rw [← hb (i - 1) (by omega), show i - 1 + 1 = i by omega] at this
          exact this)
        have hc : Cls s 0 5 s.size := .quote (.inr h96) s.size (by rw [h96, Nat.zero_add, hq]; omega)
        exact scan_one s 5 (by omega) (by omega) hv hc (by omega) (.inr rfl)
    · cases h
end Go.Proofs.YtijinpnbhnfiiaaDoor
