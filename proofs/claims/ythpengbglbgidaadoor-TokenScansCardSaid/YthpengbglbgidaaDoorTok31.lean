/- The scanner sign by sign tells what it tells byte by byte. No program stands in it. -/
import Derived.Test.YthpengbglbgidaaDoorTok30
namespace Go.Proofs.YthpengbglbgidaaDoor
open Go.RowKit
set_option linter.unusedVariables false

theorem hasPre_iff (s t : ByteArray) : hasPre s t = true ↔ t.size ≤ s.size ∧ ∀ i, i < t.size → bt s i = bt t i := by
  constructor
  · exact hasPre_byte s t
  · rintro ⟨h1, h2⟩
    unfold hasPre
    rw [decide_eq_true h1, Bool.true_and, beq_iff_eq]
    rw [show s.extract 0 t.size = t from ba_ext _ _ (by rw [ext_size _ _ _ h1]; omega) (fun i hi => by
      rw [ext_size _ _ _ h1] at hi
      rw [bt_ext s 0 t.size i (by omega) h1, Nat.zero_add]; exact h2 i (by omega))]
theorem pre_two (t : ByteArray) (p a b : Nat) (s : ByteArray) (hs : s.size = 2) (h0 : bt s 0 = a) (h1 : bt s 1 = b) (hp : p < t.size) : hasPre (t.extract p t.size) s = true ↔ p + 2 ≤ t.size ∧ bt t p = a ∧ bt t (p + 1) = b := by
  rw [hasPre_iff, ext_size _ _ _ (Nat.le_refl _), hs]
  constructor
  · rintro ⟨g1, g2⟩
    have x0 := g2 0 (by omega)
    have x1 := g2 1 (by omega)
    rw [bt_ext t p t.size 0 (by omega) (Nat.le_refl _)] at x0
    rw [bt_ext t p t.size 1 (by omega) (Nat.le_refl _)] at x1
    exact ⟨by omega, x0.trans h0, x1.trans h1⟩
  · rintro ⟨g1, g2, g3⟩
    refine ⟨by omega, fun i hi => ?_⟩
    rw [bt_ext t p t.size i (by omega) (Nat.le_refl _)]
    rcases (by omega : i = 0 ∨ i = 1) with rfl | rfl
    · exact g2.trans h0.symm
    · exact g3.trans h1.symm

theorem feff_dec (t : ByteArray) (h : 3 ≤ t.size) (h0 : bt t 0 = 239) (h1 : bt t 1 = 187) (h2 : bt t 2 = 191) : sig t 0 = 65279 ∧ wid t 0 = 3 := by
  have e := dec_3 t 0 (by omega) (by omega)
  rw [h0, show 0 + 1 = 1 from rfl, show 0 + 2 = 2 from rfl, h1, h2, if_pos (by omega)] at e
  unfold sig wid
  rw [e]
  exact ⟨rfl, rfl⟩
theorem feff_of (t : ByteArray) (hf : sig t 0 = 65279) : 3 ≤ t.size ∧ bt t 0 = 239 ∧ bt t 1 = 187 ∧ bt t 2 = 191 ∧ wid t 0 = 3 := by
  unfold sig at hf
  unfold wid
  have hlt := bt_lt t 0
  by_cases g1 : bt t 0 < 128
  · rw [dec_1 t 0 g1] at hf; simp at hf; omega
  by_cases g2 : bt t 0 < 192 ∨ 248 ≤ bt t 0
  · rw [dec_x t 0 (by omega) g2] at hf; simp at hf
  by_cases g3 : bt t 0 < 224
  · rw [dec_2 t 0 (by omega) g3] at hf
    split at hf
    · dsimp only at hf; have := bt_lt t (0 + 1); omega
    · simp at hf
  by_cases g4 : bt t 0 < 240
  · have l1 := bt_lt t (0 + 1)
    have l2 := bt_lt t (0 + 2)
    rw [dec_3 t 0 (by omega) g4] at hf ⊢
    split at hf
    · rename_i hh
      dsimp only at hf
      rw [if_pos hh]
      simp only [Nat.zero_add] at hh hf l1 l2
      refine ⟨by omega, by omega, by omega, by omega, rfl⟩
    · simp at hf
  · have l1 := bt_lt t (0 + 1)
    rw [dec_4 t 0 (by omega) (by omega)] at hf
    split at hf
    · rename_i hh; dsimp only at hf; omega
    · simp at hf
theorem feff_iff (t : ByteArray) (p : Nat) : feff t p = true ↔ p = 0 ∧ 3 ≤ t.size ∧ bt t 0 = 239 ∧ bt t 1 = 187 ∧ bt t 2 = 191 := by
  unfold feff
  simp only [Bool.and_eq_true, beq_iff_eq, decide_eq_true_eq]

theorem blank_iff (n : Nat) : isBlank (n : Int) = true ↔ (n = 32 ∨ n = 9 ∨ n = 13 ∨ n = 65279) := by
  unfold isBlank
  simp only [Bool.or_eq_true, beq_iff_eq]
  omega
theorem c10_iff (n : Nat) : ((n : Int) == 10) = true ↔ n = 10 := by simp only [beq_iff_eq]; omega
theorem c34_iff (n : Nat) : ((n : Int) == 34) = true ↔ n = 34 := by simp only [beq_iff_eq]; omega
theorem c96_iff (n : Nat) : ((n : Int) == 96) = true ↔ n = 96 := by simp only [beq_iff_eq]; omega

/-! ### A step -/
def SameSt (x x' y : St) (p w : Nat) : Prop := x'.toks = y.toks ∧ x'.notes = y.notes ∧ ((x'.at_ = x.at_ ∧ y.at_ = p + w) ∨ (p < x'.at_ ∧ x'.at_ = y.at_))
def StepSame (t : ByteArray) (x : St) (p : Nat) : Prop :=
  (beginP t x p (sig t p : Int) = none ∧ stepB t ⟨p, x.toks, x.notes⟩ = none) ∨ ∃ x' y, beginP t x p (sig t p : Int) = some x' ∧ stepB t ⟨p, x.toks, x.notes⟩ = some y ∧ SameSt x x' y p (wid t p)

theorem noteI_none (t : ByteArray) (p : Nat) (hp : p < t.size) (h1 : hasPre (t.extract p t.size) sSlash = false) (h2 : hasPre (t.extract p t.size) sOpen = false) : noteI t p = 0 := by
  have n1 : ¬ (p + 2 ≤ t.size ∧ bt t p = 47 ∧ bt t (p + 1) = 47) := fun h => by rw [(pre_two t p 47 47 sSlash rfl rfl rfl hp).2 h] at h1; cases h1
  have n2 : ¬ (p + 2 ≤ t.size ∧ bt t p = 47 ∧ bt t (p + 1) = 42) := fun h => by rw [(pre_two t p 47 42 sOpen rfl rfl rfl hp).2 h] at h2; cases h2
  unfold noteI
  split
  · rfl
  · rw [if_neg (by omega), if_pos (by omega)]
theorem noteI_line (t : ByteArray) (p : Nat) (hp : p < t.size) (h1 : hasPre (t.extract p t.size) sSlash = true) : bt t p = 47 ∧ rowN (t.extract p t.size) noEnd ≠ 0 ∧ noteI t p = ((p + rowN (t.extract p t.size) noEnd : Nat) : Int) := by
  obtain ⟨g1, g2, g3⟩ := (pre_two t p 47 47 sSlash rfl rfl rfl hp).1 h1
  have hr := rowN_runB t p (by omega) noEnd (.inl noEnd_big)
  have hs := runB_step t noEnd t.size t.size p hp (by rw [g2]; decide) (by omega) (by omega)
  have hge := runB_ge t noEnd t.size (p + 1)
  refine ⟨g2, by omega, ?_⟩
  unfold noteI
  rw [if_neg (by omega), if_pos g3, hr]
theorem noteI_open (t : ByteArray) (p : Nat) (hp : p < t.size) (h1 : hasPre (t.extract p t.size) sOpen = true) : bt t p = 47 ∧ hasPre (t.extract p t.size) sSlash = false ∧ ((closedN (t.extract p t.size) 2 sClose = 0 ∧ noteI t p = -1) ∨ (closedN (t.extract p t.size) 2 sClose ≠ 0 ∧ noteI t p = ((p + closedN (t.extract p t.size) 2 sClose : Nat) : Int))) := by
  obtain ⟨g1, g2, g3⟩ := (pre_two t p 47 42 sOpen rfl rfl rfl hp).1 h1
  have e : noteI t p = closeI t t.size (p + 4) := by
    unfold noteI
    rw [if_neg (by omega), if_neg (by omega), if_neg (by omega)]
  refine ⟨g2, ?_, ?_⟩
  · cases h : hasPre (t.extract p t.size) sSlash
    · rfl
    · have := ((pre_two t p 47 47 sSlash rfl rfl rfl hp).1 h).2.2
      omega
  · rw [e]
    rcases close_same t p g1 with ⟨h1, h2⟩ | ⟨h1, h2⟩
    · exact .inl ⟨h1, h2⟩
    · exact .inr ⟨by omega, h2⟩

theorem step_note {t : ByteArray} {x : St} {p : Nat} (hfe : ¬ feff t p = true) (h47 : bt t p = 47) (n : Nat) (hn : n ≠ 0) (hI : noteI t p = ((p + n : Nat) : Int)) (hb : beginP t x p (sig t p : Int) = noteP t x p n) : StepSame t x p := by
  right
  refine ⟨⟨p + n, noteToks (t.extract p (p + n)) x.toks p, x.notes ++ [⟨0, t.extract p (p + n), p⟩]⟩, ⟨p + n, noteToks (t.extract p (p + n)) x.toks p, x.notes ++ [⟨0, t.extract p (p + n), p⟩]⟩, ?_, ?_, rfl, rfl, .inr ⟨by show p < p + n; omega, rfl⟩⟩
  · rw [hb]; unfold noteP; rw [if_neg hn]
  · unfold stepB
    dsimp only
    rw [if_neg hfe, if_neg (by omega), if_neg (by omega), if_pos (by omega), if_neg (by omega), hI, Int.toNat_natCast]
theorem step_take {t : ByteArray} {x : St} {p : Nat} (k n : Nat) (hn : n ≠ 0) (hb : beginP t x p (sig t p : Int) = takeP t x k p n) (hs : stepB t ⟨p, x.toks, x.notes⟩ = some ⟨p + n, x.toks ++ [⟨k, t.extract p (p + n), p⟩], x.notes⟩) : StepSame t x p := by
  right
  refine ⟨⟨p + n, x.toks ++ [⟨k, t.extract p (p + n), p⟩], x.notes⟩, _, ?_, hs, rfl, rfl, .inr ⟨by show p < p + n; omega, rfl⟩⟩
  rw [hb]; unfold takeP; rw [if_neg hn]
theorem step_fail {t : ByteArray} {x : St} {p : Nat} (k : Nat) (hb : beginP t x p (sig t p : Int) = takeP t x k p 0) (hs : stepB t ⟨p, x.toks, x.notes⟩ = none) : StepSame t x p :=
  .inl ⟨by rw [hb]; unfold takeP; rw [if_pos rfl], hs⟩

theorem step_small (t : ByteArray) (x : St) (p : Nat) (hp : p < t.size) (hc : bt t p < 128) : StepSame t x p := by
  obtain ⟨es, ew⟩ := sig_1 t p hc
  have hz := ext_size t p t.size (Nat.le_refl _)
  have b0 := bt_rest t p hp
  have hfe : ¬ feff t p = true := fun h => by
    obtain ⟨h0, _, h1, _⟩ := (feff_iff t p).1 h
    subst h0
    omega
  by_cases c10 : bt t p = 10
  · right
    refine ⟨⟨x.at_, endL x.toks p, x.notes⟩, ⟨p + 1, endL x.toks p, x.notes⟩, ?_, ?_, rfl, rfl, .inl ⟨rfl, by rw [ew]⟩⟩
    · unfold beginP; rw [es, if_pos ((c10_iff _).2 c10)]
    · unfold stepB; dsimp only; rw [if_neg hfe, if_pos c10]
  have n10 : ¬ ((bt t p : Int) == 10) = true := fun h => c10 ((c10_iff _).1 h)
  by_cases cb : bt t p = 32 ∨ bt t p = 9 ∨ bt t p = 13
  · right
    refine ⟨x, ⟨p + 1, x.toks, x.notes⟩, ?_, ?_, rfl, rfl, .inl ⟨rfl, by rw [ew]⟩⟩
    · unfold beginP; rw [es, if_neg n10, if_pos ((blank_iff _).2 (by omega))]
    · unfold stepB; dsimp only; rw [if_neg hfe, if_neg c10, if_pos cb]
  have nb : ¬ isBlank (bt t p : Int) = true := fun h => by have := (blank_iff _).1 h; omega
  cases h1 : hasPre (t.extract p t.size) sSlash
  case true =>
    obtain ⟨g1, g2, g3⟩ := noteI_line t p hp h1
    exact step_note hfe g1 _ g2 g3 (by unfold beginP; rw [es, if_neg n10, if_neg nb, if_pos h1])
  cases h2 : hasPre (t.extract p t.size) sOpen
  case true =>
    obtain ⟨g1, -, ⟨g2, g3⟩ | ⟨g2, g3⟩⟩ := noteI_open t p hp h2
    · refine .inl ⟨?_, ?_⟩
      · unfold beginP; rw [es, if_neg n10, if_neg nb, h1, if_neg (by simp), if_pos h2, g2]; rfl
      · unfold stepB; dsimp only; rw [if_neg hfe, if_neg c10, if_neg cb, g3]; rfl
    · exact step_note hfe g1 _ g2 g3 (by unfold beginP; rw [es, if_neg n10, if_neg nb, h1, if_neg (by simp), if_pos h2])
  have hI := noteI_none t p hp h1 h2
  have s1 : ¬ hasPre (t.extract p t.size) sSlash = true := by rw [h1]; simp
  have s2 : ¬ hasPre (t.extract p t.size) sOpen = true := by rw [h2]; simp
  have hIn : ¬ noteI t p ≠ 0 := fun h => h hI
  have row : isIn (bt t p) = true → rowN (t.extract p t.size) isIn ≠ 0 ∧ p + rowN (t.extract p t.size) isIn = runB t isIn t.size (p + 1) ∧ p + rowN (t.extract p t.size) isIn ≤ t.size := fun hin => by
    have hr := rowN_runB t p (by omega) isIn (.inr isIn_big)
    have hs := runB_step t isIn t.size t.size p hp hin (by omega) (by omega)
    have hge := runB_ge t isIn t.size (p + 1)
    have hle := rowN_le (t.extract p t.size) isIn
    omega
  cases hl : isLet (bt t p)
  case true =>
    have hin := let_in hl
    obtain ⟨r1, r2, r3⟩ := row hin
    have hnz : rowN (t.extract p t.size) isLet ≠ 0 := fun h => by
      have := (rowN_pos (t.extract p t.size) isLet (by omega)).1 h
      rw [sig_small _ 0 isLet isLet128, b0, hl] at this
      cases this
    have hN : nameN (t.extract p t.size) = rowN (t.extract p t.size) isIn := by unfold nameN; rw [if_neg hnz]
    refine step_take (1 + wordN (t.extract p (p + rowN (t.extract p t.size) isIn))) _ r1 ?_ ?_
    · unfold beginP; rw [es, if_neg n10, if_neg nb, if_neg s1, if_neg s2, if_pos hl, hN, ext_ext t p _ r3]
    · unfold stepB; dsimp only; rw [if_neg hfe, if_neg c10, if_neg cb, if_neg hIn, if_pos hin, if_pos hl, ← r2]
  have nl : ¬ isLet (bt t p : Int) = true := by rw [hl]; simp
  cases hf : isFig (bt t p)
  case true =>
    have hin : isIn (bt t p) = true := by unfold isIn; rw [hl, hf]; rfl
    obtain ⟨r1, r2, r3⟩ := row hin
    refine step_take 4 _ r1 ?_ ?_
    · unfold beginP; rw [es, if_neg n10, if_neg nb, if_neg s1, if_neg s2, if_neg nl, if_pos hf]
    · unfold stepB; dsimp only; rw [if_neg hfe, if_neg c10, if_neg cb, if_neg hIn, if_pos hin, if_neg nl, ← r2]
  have nf : ¬ isFig (bt t p : Int) = true := by rw [hf]; simp
  have nin : ¬ isIn (bt t p : Int) = true := by unfold isIn; rw [hl, hf]; simp
  by_cases q1 : bt t p = 34
  · have hq := quote_same t p (by omega)
    unfold told34 at hq
    have hbeg : beginP t x p (sig t p : Int) = takeP t x 5 p (textN (t.extract p t.size)) := by
      unfold beginP; rw [es, if_neg n10, if_neg nb, if_neg s1, if_neg s2, if_neg nl, if_neg nf, if_pos ((c34_iff _).2 q1)]
    by_cases h0 : textN (t.extract p t.size) = 0
    · rw [if_pos h0] at hq
      refine step_fail 5 (by rw [hbeg, h0]) ?_
      unfold stepB; dsimp only; rw [if_neg hfe, if_neg c10, if_neg cb, if_neg hIn, if_neg nin, if_pos (.inl q1), q1, hq]; rfl
    · rw [if_neg h0] at hq
      refine step_take 5 _ h0 hbeg ?_
      unfold stepB; dsimp only; rw [if_neg hfe, if_neg c10, if_neg cb, if_neg hIn, if_neg nin, if_pos (.inl q1), q1, hq, if_neg (by omega), Int.toNat_natCast]
  have n34 : ¬ ((bt t p : Int) == 34) = true := fun h => q1 ((c34_iff _).1 h)
  by_cases q2 : bt t p = 96
  · have hbeg : beginP t x p (sig t p : Int) = takeP t x 5 p (closedN (t.extract p t.size) 1 sTick) := by
      unfold beginP; rw [es, if_neg n10, if_neg nb, if_neg s1, if_neg s2, if_neg nl, if_neg nf, if_neg n34, if_pos ((c96_iff _).2 q2)]
    rcases tick_same t p (by omega) with ⟨h0, hq⟩ | ⟨h0, hq⟩
    · refine step_fail 5 (by rw [hbeg, h0]) ?_
      unfold stepB; dsimp only; rw [if_neg hfe, if_neg c10, if_neg cb, if_neg hIn, if_neg nin, if_pos (.inr q2), q2, hq]; rfl
    · refine step_take 5 _ (by omega) hbeg ?_
      unfold stepB; dsimp only; rw [if_neg hfe, if_neg c10, if_neg cb, if_neg hIn, if_neg nin, if_pos (.inr q2), q2, hq, if_neg (by omega), Int.toNat_natCast]
  have n96 : ¬ ((bt t p : Int) == 96) = true := fun h => q2 ((c96_iff _).1 h)
  have hbeg : beginP t x p (sig t p : Int) = takeP t x 6 p (signN (t.extract p t.size)) := by
    unfold beginP; rw [es, if_neg n10, if_neg nb, if_neg s1, if_neg s2, if_neg nl, if_neg nf, if_neg n34, if_neg n96]
  by_cases h0 : signN (t.extract p t.size) = 0
  · refine step_fail 6 (by rw [hbeg, h0]) ?_
    unfold stepB; dsimp only; rw [if_neg hfe, if_neg c10, if_neg cb, if_neg hIn, if_neg nin, if_neg (by omega), if_pos h0]
  · refine step_take 6 _ h0 hbeg ?_
    unfold stepB; dsimp only; rw [if_neg hfe, if_neg c10, if_neg cb, if_neg hIn, if_neg nin, if_neg (by omega), if_neg h0]

theorem step_same (t : ByteArray) (x : St) (p : Nat) (hp : p < t.size) (hg : bad t p (sig t p) = false) : StepSame t x p := by
  by_cases hc : bt t p < 128
  · exact step_small t x p hp hc
  have hbig : 128 ≤ sig t p := by rcases sign_kind t p with ⟨_, _, h⟩ | ⟨h, _, _⟩ <;> omega
  have n10 : ¬ ((sig t p : Int) == 10) = true := fun h => by have := (c10_iff _).1 h; omega
  by_cases hf : sig t p = 65279
  · have hp0 : p = 0 := by
      unfold bad at hg
      rw [hf] at hg
      rcases Nat.eq_zero_or_pos p with h | h
      · exact h
      · rw [decide_eq_true h] at hg
        simp at hg
    subst hp0
    obtain ⟨g1, g2, g3, g4, g5⟩ := feff_of t hf
    right
    refine ⟨x, ⟨3, x.toks, x.notes⟩, ?_, ?_, rfl, rfl, .inl ⟨rfl, by rw [g5]⟩⟩
    · unfold beginP; rw [if_neg n10, if_pos ((blank_iff _).2 (by omega))]
    · unfold stepB; dsimp only; rw [if_pos ((feff_iff t 0).2 ⟨rfl, g1, g2, g3, g4⟩)]
  · have hfe : ¬ feff t p = true := fun h => by
      obtain ⟨h0, h1, h2, h3, h4⟩ := (feff_iff t p).1 h
      subst h0
      exact hf (feff_dec t h1 h2 h3 h4).1
    have nb : ¬ isBlank (sig t p : Int) = true := fun h => by have := (blank_iff _).1 h; omega
    have s1 : hasPre (t.extract p t.size) sSlash = false := by
      cases h : hasPre (t.extract p t.size) sSlash
      · rfl
      · have := ((pre_two t p 47 47 sSlash rfl rfl rfl hp).1 h).2.1; omega
    have s2 : hasPre (t.extract p t.size) sOpen = false := by
      cases h : hasPre (t.extract p t.size) sOpen
      · rfl
      · have := ((pre_two t p 47 42 sOpen rfl rfl rfl hp).1 h).2.1; omega
    have hI := noteI_none t p hp s1 s2
    have nl : ¬ isLet (sig t p : Int) = true := fun h => by have := isLet128 _ h; omega
    have nf : ¬ isFig (sig t p : Int) = true := fun h => by have := isFig128 _ h; omega
    have nin : ¬ isIn (bt t p : Int) = true := fun h => by have := isIn128 _ h; omega
    have n34 : ¬ ((sig t p : Int) == 34) = true := fun h => by have := (c34_iff _).1 h; omega
    have n96 : ¬ ((sig t p : Int) == 96) = true := fun h => by have := (c96_iff _).1 h; omega
    have h0 : signN (t.extract p t.size) = 0 := by
      rcases Nat.eq_zero_or_pos (signN (t.extract p t.size)) with h | h
      · exact h
      · have hle := signN_le (t.extract p t.size)
        have := sign_bytes _ (signN_isSign (t.extract p t.size) (by omega)) 0 (by rw [ext_size _ _ _ hle]; omega)
        rw [bt_ext (t.extract p t.size) 0 _ 0 (by omega) hle, Nat.zero_add, bt_rest t p hp] at this
        omega
    refine step_fail 6 ?_ ?_
    · unfold beginP; rw [if_neg n10, if_neg nb, s1, s2, if_neg (by simp), if_neg (by simp), if_neg nl, if_neg nf, if_neg n34, if_neg n96, h0]
    · unfold stepB; dsimp only; rw [if_neg hfe, if_neg (by omega), if_neg (by omega), if_neg (fun h => h hI), if_neg nin, if_neg (by omega), if_pos h0]

/-! ### Through all -/
def Valid (t : ByteArray) (p : Nat) : Prop := ∃ f, t.size ≤ p + f ∧ wrongF t f p = -1
theorem allF_more (t : ByteArray) : ∀ f g p x, t.size ≤ p + f → t.size ≤ p + g → allF t f p x = allF t g p x
  | 0, 0, p, x, _, _ => rfl
  | 0, g + 1, p, x, h, _ => by rw [allF, allF, if_neg (by omega)]
  | f + 1, 0, p, x, _, h => by rw [allF, allF, if_neg (by omega)]
  | f + 1, g + 1, p, x, h1, h2 => by
    have hw := wid_pos t p
    rw [allF, allF, allF_more t f g (p + wid t p) x (by omega) (by omega)]
    congr 2
    cases beginP t x p (sig t p : Int) with
    | none => rfl
    | some x' => exact allF_more t f g (p + wid t p) x' (by omega) (by omega)
theorem allF_to (t : ByteArray) (x : St) (hq : x.at_ ≤ t.size) (hE : Edge t x.at_) : ∀ k p, p ≤ x.at_ → t.size ≤ p + k → Valid t p → allF t k p x = allF t t.size x.at_ x ∧ Valid t x.at_
  | 0, p, h1, h2, hv => by
    have : p = x.at_ := by omega
    rw [this] at hv h2 ⊢
    exact ⟨allF_more t _ _ _ _ (by omega) (by omega), hv⟩
  | k + 1, p, h1, h2, hv => by
    by_cases e : p = x.at_
    · rw [e] at hv h2 ⊢
      exact ⟨allF_more t _ _ _ _ (by omega) (by omega), hv⟩
    · have hw := wid_pos t p
      have hs := edge_skip (t := t) (p := p) (q := x.at_) (by omega) (by omega) hq hE
      rw [allF, if_pos (by omega), if_neg (by omega)]
      exact allF_to t x hq hE k _ hs (by omega) (valid_next (by omega) hv).2

/-- What two scanners tell is the same. -/
def SameEnd : Except Nat St → Except Nat St → Prop
  | .error p, .error q => p = q
  | .ok x, .ok y => x.toks = y.toks ∧ x.notes = y.notes
  | _, _ => False
theorem scan_same (t : ByteArray) : ∀ n p x k j, t.size ≤ p + n → p ≤ t.size → Valid t p → x.at_ ≤ p → t.size ≤ p + k → t.size ≤ p + j → SameEnd (allF t k p x) (scanF t j ⟨p, x.toks, x.notes⟩) := by
  intro n
  induction n with
  | zero =>
    intro p x k j h1 h2 hv ha hk hj
    rw [allF_more t k 0 p x hk (by omega)]
    have e : scanF t j ⟨p, x.toks, x.notes⟩ = .ok ⟨p, x.toks, x.notes⟩ := by
      cases j with
      | zero => rfl
      | succ j => rw [scanF, if_neg (by show ¬ p < _; omega)]
    rw [e]
    exact ⟨rfl, rfl⟩
  | succ n ih =>
    intro p x k j h1 h2 hv ha hk hj
    by_cases hp : p < t.size
    · obtain ⟨k, rfl⟩ : ∃ k', k = k' + 1 := ⟨k - 1, by omega⟩
      obtain ⟨j, rfl⟩ : ∃ j', j = j' + 1 := ⟨j - 1, by omega⟩
      have hw := wid_pos t p
      have hwl := wid_le t p hp
      obtain ⟨hg, hv'⟩ := valid_next hp hv
      rw [allF, scanF, if_pos hp, if_pos hp, if_pos ha]
      rcases step_same t x p hp hg with ⟨e1, e2⟩ | ⟨x', y, e1, e2, s1, s2, s3⟩
      · rw [e1, e2]; exact rfl
      · rw [e1, e2]
        dsimp only
        rcases s3 with ⟨s3, s4⟩ | ⟨s3, s4⟩
        · have := ih (p + wid t p) x' k j (by omega) hwl hv' (by omega) (by omega) (by omega)
          have ey : y = ⟨p + wid t p, x'.toks, x'.notes⟩ := by rw [s1, s2, ← s4]
          rw [ey]
          exact this
        · have hE : x'.at_ ≤ t.size ∧ Edge t x'.at_ := by
            cases begin_step hp e1 with
            | nl h e => subst e; exact absurd s3 (by show ¬ p < x.at_; omega)
            | blank h e => subst e; omega
            | note n h0 hn he e => subst e; exact ⟨hn, he⟩
            | take k n hk h0 hn he hb e => subst e; exact ⟨hn, he⟩
          have hs := edge_skip (t := t) (p := p) (q := x'.at_) hp s3 hE.1 hE.2
          obtain ⟨a1, a2⟩ := allF_to t x' hE.1 hE.2 k (p + wid t p) hs (by omega) hv'
          rw [a1]
          have := ih x'.at_ x' t.size j (by omega) hE.1 a2 (Nat.le_refl _) (by omega) (by omega)
          have ey : y = ⟨x'.at_, x'.toks, x'.notes⟩ := by rw [s1, s2, s4]
          rw [ey]
          exact this
    · have := ih p x k j (by omega) h2 hv ha hk hj
      exact this

/-- Of any bytes the same is told. -/
theorem scanR_scanB (s : ByteArray) : (scanR s).err = (scanB s).err ∧ (scanR s).pos = (scanB s).pos ∧ (scanR s).st.toks = (scanB s).st.toks ∧ (scanR s).st.notes = (scanB s).st.notes := by
  unfold scanR scanB
  split
  · exact ⟨rfl, rfl, rfl, rfl⟩
  split
  · exact ⟨rfl, rfl, rfl, rfl⟩
  · rename_i h
    have := scan_same s s.size 0 ⟨0, [], []⟩ s.size s.size (by omega) (Nat.zero_le _) ⟨s.size, by omega, wrongR_neg s h⟩ (Nat.zero_le _) (by omega) (by omega)
    unfold allP
    rw [show (st0 : St) = ⟨0, [], []⟩ from rfl]
    cases e1 : allF s s.size 0 ⟨0, [], []⟩ with
    | error p =>
      cases e2 : scanF s s.size ⟨0, [], []⟩ with
      | error q =>
        rw [e1, e2] at this
        obtain rfl : p = q := this
        exact ⟨rfl, rfl, rfl, rfl⟩
      | ok y => rw [e1, e2] at this; exact this.elim
    | ok x =>
      cases e2 : scanF s s.size ⟨0, [], []⟩ with
      | error q => rw [e1, e2] at this; exact this.elim
      | ok y =>
        rw [e1, e2] at this
        obtain ⟨h1, h2⟩ := this
        exact ⟨rfl, rfl, by show endL x.toks _ = endL y.toks _; rw [h1], h2⟩
end Go.Proofs.YthpengbglbgidaaDoor
