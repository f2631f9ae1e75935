/- LitNumbers: what the program tells is what the document does; the walk. -/
import Derived.Test.YtijinpnbhnfiiaaDoorLit32
import Derived.Test.YtijinpnbhnfiiaaDoorText
import Derived.BigQuiet
import Derived.Deep.QuietTactic
namespace Go.Proofs.YtijinpnbhnfiiaaDoor
open Go.RowKit
set_option linter.unusedVariables false

theorem bt_ext2 (t : ByteArray) (a b i : Nat) (h : a + i < b) (hb : b ≤ t.size) : bt (t.extract a b) i = bt t (a + i) := by
  have h1 : i < (t.extract a b).size := by rw [ByteArray.size_extract]; omega
  rw [bt_eq _ i h1, bt_eq t (a + i) (by omega)]
  congr 1
  exact ByteArray.getElem_extract ..
theorem ba_ext2 (a b : ByteArray) (hs : a.size = b.size) (h : ∀ i, i < a.size → bt a i = bt b i) : a = b := by
  apply ByteArray.ext
  apply Array.ext'
  apply List.ext_getElem?
  intro i
  rcases Nat.lt_or_ge i a.size with hi | hi
  · rw [bt_list a i hi, bt_list b i (by omega), h i hi]
  · rw [List.getElem?_eq_none (by exact hi), List.getElem?_eq_none (by have : b.data.toList.length = b.size := rfl; omega)]
theorem digW_ok2 {r base : Int} (hb : base ≤ 16) (h : digW r base < base) : (48 ≤ r ∧ r ≤ 57) ∨ (97 ≤ r ∧ r ≤ 102) ∨ (65 ≤ r ∧ r ≤ 70) := by
  unfold digW at h
  split at h
  · exact .inl (by assumption)
  · split at h
    · exact .inr (.inl (by assumption))
    · split at h
      · exact .inr (.inr (by assumption))
      · omega
theorem refNumF_more (s : ByteArray) (base : Nat) : ∀ f g i l, s.size ≤ i + f → s.size ≤ i + g → refNumF s base f i l = refNumF s base g i l
  | 0, 0, i, l, _, _ => rfl
  | 0, g + 1, i, l, h, _ => by rw [refNumF, refNumF, if_neg (by omega)]
  | f + 1, 0, i, l, _, h => by rw [refNumF, refNumF, if_neg (by omega)]
  | f + 1, g + 1, i, l, h1, h2 => by
    rw [refNumF, refNumF, refNumF_more s base f g (i + 1) l (by omega) (by omega), refNumF_more s base f g (i + 1) (l ++ [dgB (bt s i)]) (by omega) (by omega)]

/-- What the program's loop has where the document's has q. -/
def NumLike (base p n : Nat) (a : Int) (l : List Nat) (q : Option (List Nat)) (r : Option (Int × List Nat)) : Prop :=
  (q = none → r = none ∨ ∃ m, r = some (95, m)) ∧ ∀ l', q = some l' → ∃ b, r = some (b, foldD base l') ∧ (p < n → b ≠ 95) ∧ (p = n → b = a ∧ l' = l) ∧ (p < n → l'.length ≠ 0)
theorem NumLike.fail {base p n : Nat} {a : Int} {l : List Nat} {r : Option (Int × List Nat)} (h : r = none ∨ ∃ m, r = some (95, m)) : NumLike base p n a l none r :=
  ⟨fun _ => h, fun _ h => by cases h⟩
theorem NumLike.next {base p n : Nat} {a a' : Int} {l l' : List Nat} {q : Option (List Nat)} {r : Option (Int × List Nat)} (h : NumLike base (p + 1) n a' l' q r) (hp : p < n) (hb : p + 1 = n → a' ≠ 95 ∧ l'.length ≠ 0) : NumLike base p n a l q r := by
  refine ⟨h.1, fun x hx => ?_⟩
  obtain ⟨b, g1, g2, g3, g4⟩ := h.2 x hx
  refine ⟨b, g1, fun _ => ?_, fun h => by omega, fun _ => ?_⟩
  · by_cases hq : p + 1 < n
    · exact g2 hq
    · have h1 : p + 1 = n := by omega
      rw [(g3 h1).1]; exact (hb h1).1
  · by_cases hq : p + 1 < n
    · exact g4 hq
    · have h1 : p + 1 = n := by omega
      rw [(g3 h1).2]; exact (hb h1).2

/-- Sign by sign is byte by byte: over the digits d = s behind byte a. -/
theorem num_loop (s d : ByteArray) (at0 base : Nat) (hb : base ≤ 16) (hz : s.size = at0 + d.size) (hd : ∀ i, i < d.size → bt s (at0 + i) = bt d i) : ∀ f p a (l : List Nat), d.size ≤ p + f → p ≤ d.size →
    (a = 95 → p < d.size → bt d p ≠ 95) → NumLike base p d.size a l (refNumF s base f (at0 + p) l) (numF d base f p a (foldD base l))
  | 0, p, a, l, h1, h2, ha => by
    obtain rfl : p = d.size := by omega
    refine ⟨(fun h => by cases h), fun l' h => ?_⟩
    cases h
    exact ⟨a, rfl, fun h => by omega, fun _ => ⟨rfl, rfl⟩, fun h => by omega⟩
  | f + 1, p, a, l, h1, h2, ha => by
    by_cases hp : p < d.size
    · have hbl := bt_lt d p
      have hps : at0 + p < s.size := by omega
      by_cases c95 : bt d p = 95
      · obtain ⟨e1, e2⟩ := sig_one d p (by omega)
        have s95 : bt s (at0 + p) = 95 := by rw [hd p hp]; exact c95
        have hN : numF d base (f + 1) p a (foldD base l) = numF d base f (p + 1) 95 (foldD base l) := by
          have g : (sig d p : Int) = 95 := by omega
          rw [numF, if_pos hp, if_pos g, if_neg (fun h => ha h hp c95), e2]
        by_cases hend : at0 + p + 1 = s.size
        · have hR : refNumF s base (f + 1) (at0 + p) l = none := by
            have g : at0 + p + 1 = s.size ∨ bt s (at0 + p + 1) = 95 := .inl hend
            rw [refNumF, if_pos hps, if_pos s95, if_pos g]
          rw [hR, hN]
          refine NumLike.fail (.inr ⟨foldD base l, ?_⟩)
          cases f with
          | zero => rfl
          | succ f => rw [numF, if_neg (by omega)]
        · by_cases d95 : bt s (at0 + p + 1) = 95
          · have hR : refNumF s base (f + 1) (at0 + p) l = none := by
              have g : at0 + p + 1 = s.size ∨ bt s (at0 + p + 1) = 95 := .inr d95
              rw [refNumF, if_pos hps, if_pos s95, if_pos g]
            rw [hR, hN]
            rw [Nat.add_assoc, hd (p + 1) (by omega)] at d95
            obtain ⟨f, rfl⟩ : ∃ f', f = f' + 1 := ⟨f - 1, by omega⟩
            obtain ⟨e3, e4⟩ := sig_one d (p + 1) (by omega)
            have g : (sig d (p + 1) : Int) = 95 := by omega
            have hlt : p + 1 < d.size := by omega
            refine NumLike.fail (.inl ?_)
            rw [numF, if_pos hlt, if_pos g, if_pos rfl]
          · have g : ¬ (at0 + p + 1 = s.size ∨ bt s (at0 + p + 1) = 95) := by omega
            have hR : refNumF s base (f + 1) (at0 + p) l = refNumF s base f (at0 + (p + 1)) l := by
              rw [refNumF, if_pos hps, if_pos s95, if_neg g]
              rfl
            rw [hR, hN]
            rw [Nat.add_assoc, hd (p + 1) (by omega)] at d95
            exact (num_loop s d at0 base hb hz hd f (p + 1) 95 l (by omega) (by omega) (fun _ _ => d95)).next hp (fun h => by omega)
      · have hdg := dgB_digW (bt d p) base hb
        have s95 : ¬ bt s (at0 + p) = 95 := by rw [hd p hp]; exact c95
        have sdg : dgB (bt s (at0 + p)) = dgB (bt d p) := by rw [hd p hp]
        rcases sign_kind d p with ⟨e2, e1, e3⟩ | ⟨e1, e2, e3⟩
        · have g : ¬ (sig d p : Int) = 95 := by omega
          by_cases hlt : base ≤ dgB (bt d p)
          · have hR : refNumF s base (f + 1) (at0 + p) l = none := by
              rw [refNumF, if_pos hps, if_neg s95, if_pos (by rw [sdg]; exact hlt)]
            have g2 : ¬ digW (sig d p : Int) base < base := by rw [e1]; exact fun h => by have := hdg.1.1 h; omega
            have hN : numF d base (f + 1) p a (foldD base l) = none := by
              rw [numF, if_pos hp, if_neg g, if_neg g2]
            rw [hR, hN]
            exact NumLike.fail (.inl rfl)
          · have hR : refNumF s base (f + 1) (at0 + p) l = refNumF s base f (at0 + (p + 1)) (l ++ [dgB (bt d p)]) := by
              rw [refNumF, if_pos hps, if_neg s95, if_neg (by rw [sdg]; exact hlt), sdg]
              rfl
            have g2 : digW (sig d p : Int) base < base := by rw [e1]; exact hdg.1.2 (by omega)
            have g3 : (digW (sig d p : Int) base).toNat = dgB (bt d p) := by rw [e1]; exact hdg.2 (by omega)
            have hfold : growN base (foldD base l) (dgB (bt d p)) = foldD base (l ++ [dgB (bt d p)]) := by
              unfold foldD
              rw [List.foldl_append]
              rfl
            have hN : numF d base (f + 1) p a (foldD base l) = numF d base f (p + 1) (sig d p : Int) (foldD base (l ++ [dgB (bt d p)])) := by
              rw [numF, if_pos hp, if_neg g, if_pos g2, g3, hfold, e2]
            rw [hR, hN]
            exact (num_loop s d at0 base hb hz hd f (p + 1) (sig d p : Int) (l ++ [dgB (bt d p)]) (by omega) (by omega) (fun h => by omega)).next hp (fun _ => ⟨by omega, by simp⟩)
        · have h99 : dgB (bt d p) = 99 := by
            unfold dgB
            rw [if_neg (by omega), if_neg (by omega), if_neg (by omega)]
          have hR : refNumF s base (f + 1) (at0 + p) l = none := by
            rw [refNumF, if_pos hps, if_neg s95, if_pos (by rw [sdg, h99]; omega)]
          have g : ¬ (sig d p : Int) = 95 := by omega
          have g2 : ¬ digW (sig d p : Int) base < base := fun h => by have := digW_ok2 (by omega) h; omega
          have hN : numF d base (f + 1) p a (foldD base l) = none := by
            rw [numF, if_pos hp, if_neg g, if_neg g2]
          rw [hR, hN]
          exact NumLike.fail (.inl rfl)
    · obtain rfl : p = d.size := by omega
      have hR : refNumF s base (f + 1) (at0 + d.size) l = some l := by rw [refNumF, if_neg (by omega)]
      have hN : numF d base (f + 1) d.size a (foldD base l) = some (a, foldD base l) := by rw [numF, if_neg hp]
      rw [hR, hN]
      refine ⟨(fun h => by cases h), fun l' h => ?_⟩
      cases h
      exact ⟨a, rfl, fun h => by omega, fun _ => ⟨rfl, rfl⟩, fun h => by omega⟩

theorem ten_at (s : ByteArray) : ((splitN s).1 = 10 → (splitN s).2 = 0) ∧ ((splitN s).1 ≠ 10 → bt s 0 = 48) := by
  unfold splitN
  by_cases h1 : s.size < 2 ∨ bt s 0 ≠ 48
  · rw [if_pos h1]
    exact ⟨fun _ => rfl, fun h => absurd rfl h⟩
  · rw [if_neg h1]
    refine ⟨fun h => ?_, fun _ => by omega⟩
    repeat' split at h
    all_goals simp at h

/-- What any text means as a number. -/
theorem num_same2 (s : ByteArray) : numR s = refNum s := by
  by_cases h2 : 200 < s.size
  · unfold numR refNum
    rw [if_pos h2, if_pos h2]
  have hN : numR s = meantV (numberE (s.extract (splitN s).2 s.size) (numF (s.extract (splitN s).2 s.size) (splitN s).1 (s.extract (splitN s).2 s.size).size 0 (if (splitN s).1 = 10 then 95 else 48) [])) := by
    unfold numR
    rw [if_neg h2]
    rfl
  obtain ⟨a0, ha0⟩ : ∃ a0 : Int, a0 = (if (splitN s).1 = 10 then 95 else 48) := ⟨_, rfl⟩
  have ha : ((splitN s).1 = 10 → a0 = 95) ∧ ((splitN s).1 ≠ 10 → a0 = 48) := ⟨fun h => by rw [ha0, if_pos h], fun h => by rw [ha0, if_neg h]⟩
  rw [← ha0] at hN
  have hR : refNum s = if s.size = 0 ∨ bt s 0 < 48 ∨ 57 < bt s 0 then (⟨#[]⟩, 4) else refNumE (splitN s).1 (refNumF s (splitN s).1 s.size (splitN s).2 []) := by
    unfold refNum
    rw [if_neg h2]
  have hb := splitN_base s
  have hat := splitN_at s
  have hten := ten_at s
  clear ha0
  generalize (splitN s).1 = base at *
  generalize (splitN s).2 = at0 at *
  have hz : (s.extract at0 s.size).size = s.size - at0 := by rw [ByteArray.size_extract]; omega
  have hdb : ∀ i, i < (s.extract at0 s.size).size → bt s (at0 + i) = bt (s.extract at0 s.size) i := fun i hi => (bt_ext2 s at0 s.size i (by omega) (Nat.le_refl _)).symm
  generalize s.extract at0 s.size = d at *
  rw [hN, hR]
  by_cases h0 : s.size = 0
  · have g : s.size = 0 ∨ bt s 0 < 48 ∨ 57 < bt s 0 := .inl h0
    have hd0 : d.size = 0 := by omega
    have hF : numF d base d.size 0 a0 [] = some (a0, []) := by rw [hd0]; rfl
    have g2 : d.size = 0 ∨ a0 = 95 := .inl hd0
    rw [if_pos g, hF]
    show meantV (if d.size = 0 ∨ a0 = 95 then none else _) = _
    rw [if_pos g2]
    rfl
  by_cases hc : bt s 0 < 48 ∨ 57 < bt s 0
  · have g : s.size = 0 ∨ bt s 0 < 48 ∨ 57 < bt s 0 := .inr hc
    have e10 : base = 10 := by
      by_cases e : base = 10
      · exact e
      · have := hten.2 e; omega
    have e0 := hten.1 e10
    have ea := ha.1 e10
    subst e10 e0 ea
    obtain ⟨k, hk⟩ : ∃ k, d.size = k + 1 := ⟨d.size - 1, by omega⟩
    have hd0 : bt d 0 = bt s 0 := (hdb 0 (by omega)).symm
    have hF : numF d 10 d.size 0 95 [] = none := by
      have hp : 0 < d.size := by omega
      rw [hk, numF, if_pos hp]
      by_cases c95 : (sig d 0 : Int) = 95
      · rw [if_pos c95, if_pos rfl]
      · rw [if_neg c95]
        have hno : ¬ digW (sig d 0 : Int) ((10 : Nat) : Int) < ((10 : Nat) : Int) := fun h => by
          have h' : digW (sig d 0 : Int) 10 < 10 := h
          have hx := digW_ok2 (by decide) h'
          rcases sign_kind d 0 with ⟨e2, e1, e3⟩ | ⟨e1, e2, e3⟩
          · unfold digW at h'
            rw [if_neg (by omega)] at h'
            split at h'
            · omega
            · split at h' <;> omega
          · omega
        rw [if_neg hno]
    rw [if_pos g, hF]
    rfl
  · have g : ¬ (s.size = 0 ∨ bt s 0 < 48 ∨ 57 < bt s 0) := by omega
    have hl := num_loop s d at0 base (by omega) (by omega) hdb d.size 0 a0 [] (by omega) (Nat.zero_le _) (fun h hlt => by
      by_cases e : base = 10
      · have e0 := hten.1 e
        rw [← hdb 0 hlt, e0]
        show bt s 0 ≠ 95
        omega
      · have := ha.2 e
        omega)
    have hfu : refNumF s base s.size at0 [] = refNumF s base d.size (at0 + 0) [] := refNumF_more s _ _ _ _ _ (by omega) (by omega)
    have hfd : foldD base [] = [] := rfl
    rw [hfd] at hl
    rw [if_neg g, hfu]
    generalize numF d base d.size 0 a0 [] = r at *
    generalize refNumF s base d.size (at0 + 0) [] = q at *
    cases q with
    | none =>
      rcases hl.1 rfl with h | ⟨m, h⟩
      · rw [h]; rfl
      · have g2 : d.size = 0 ∨ (95 : Int) = 95 := .inr rfl
        rw [h]
        show meantV (if d.size = 0 ∨ (95 : Int) = 95 then none else _) = _
        rw [if_pos g2]
        rfl
    | some l' =>
      obtain ⟨b, g1, g2, g3, g4⟩ := hl.2 l' rfl
      rw [g1]
      show meantV (if d.size = 0 ∨ b = 95 then none else some (writtenB (foldD base l'))) = if l'.length = 0 then (⟨#[]⟩, 4) else (writtenB (foldD base l'), 0)
      by_cases hz0 : d.size = 0
      · have g5 : d.size = 0 ∨ b = 95 := .inl hz0
        have g6 : l'.length = 0 := by rw [(g3 hz0.symm).2]; rfl
        rw [if_pos g5, if_pos g6]
        rfl
      · have h1 := g2 (by omega)
        have h3 := g4 (by omega)
        have g5 : ¬ (d.size = 0 ∨ b = 95) := by omega
        rw [if_neg g5, if_neg h3]
        rfl
end Go.Proofs.YtijinpnbhnfiiaaDoor
