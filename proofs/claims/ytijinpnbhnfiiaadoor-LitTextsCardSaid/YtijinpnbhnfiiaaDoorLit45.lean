/- The document's texts and the program's: texts with strokes: pure. -/
import Derived.Test.YtijinpnbhnfiiaaDoorLit44
namespace Go.Proofs.YtijinpnbhnfiiaaDoor
open Go.RowKit
set_option linter.unusedVariables false

theorem fine_more (t : ByteArray) : ∀ f g p, t.size ≤ p + f → t.size ≤ p + g → Fine t f p → Fine t g p
  | 0, 0, p, hf, hg, h => trivial
  | 0, g + 1, p, hf, hg, h => fun hp => absurd hp (by omega)
  | f + 1, 0, p, hf, hg, h => trivial
  | f + 1, g + 1, p, hf, hg, h => fun hp => by
    obtain ⟨h1, h2⟩ := h hp
    have := wid_pos t p
    exact ⟨h1, fine_more t f g _ (by omega) (by omega) h2⟩
theorem fine_next (t : ByteArray) (p : Nat) (hp : p < t.size) (h : Fine t t.size p) : Fine t t.size (p + wid t p) := by
  obtain ⟨z, hz⟩ : ∃ z, t.size = z + 1 := ⟨t.size - 1, by omega⟩
  have h2 : Fine t (z + 1) p := by rw [← hz]; exact h
  have := wid_pos t p
  exact fine_more t z t.size _ (by omega) (by omega) (h2 hp).2
theorem fine_small (t : ByteArray) (p : Nat) (hp : p < t.size) (hb : bt t p < 128) (h : Fine t t.size p) : Fine t t.size (p + 1) := by
  have := fine_next t p hp h
  rcases sign_kind t p with ⟨e1, e2, e3⟩ | ⟨e1, e2, e3⟩
  · rwa [e1] at this
  · omega
theorem fine_row (t : ByteArray) : ∀ m k, k + m ≤ t.size → (∀ i, i < m → bt t (k + i) < 128) → Fine t t.size k → Fine t t.size (k + m)
  | 0, k, hk, hb, h => h
  | m + 1, k, hk, hb, h => by
    have h0 := hb 0 (by omega)
    rw [Nat.add_zero] at h0
    have := fine_row t m (k + 1) (by omega) (fun i hi => by have := hb (i + 1) (by omega); rw [show k + (i + 1) = k + 1 + i from by omega] at this; exact this) (fine_small t k (by omega) h0 h)
    rw [show k + (m + 1) = k + 1 + m from by omega]
    exact this
theorem dgB_small (c : Nat) (h : dgB c < 99) : c < 128 := by
  unfold dgB at h
  repeat' split at h
  all_goals omega
theorem valF_small (t : ByteArray) (base : Nat) (hb : base ≤ 16) : ∀ n k v r, valF t base n k v = some r → ∀ i, i < n → bt t (k + i) < 128
  | 0, k, v, r, h, i, hi => absurd hi (by omega)
  | n + 1, k, v, r, h, i, hi => by
    rw [valF] at h
    by_cases hd : dgB (bt t k) < base
    · rw [if_pos hd] at h
      rcases Nat.eq_zero_or_pos i with rfl | hi0
      · rw [Nat.add_zero]
        exact dgB_small _ (by omega)
      · have := valF_small t base hb n (k + 1) _ r h (i - 1) (by omega)
        rw [show k + 1 + (i - 1) = k + i from by omega] at this
        exact this
    · rw [if_neg hd] at h
      exact absurd h (by simp)
theorem valO_small (t : ByteArray) (base n k r : Nat) (hb : base ≤ 16) (h : valO t base k n = some r) : k + n ≤ t.size ∧ ∀ i, i < n → bt t (k + i) < 128 := by
  unfold valO at h
  by_cases hz : t.size < k + n
  · rw [if_pos hz] at h
    exact absurd h (by simp)
  · rw [if_neg hz] at h
    exact ⟨by omega, valF_small t base hb n k 0 r h⟩
def Small (t : ByteArray) (k m : Nat) : Prop := k + m ≤ t.size ∧ ∀ i, i < m → bt t (k + i) < 128
theorem small_one {t : ByteArray} {k n : Nat} (h0 : k < t.size) (hb : bt t k < 128) (h : Small t (k + 1) n) : Small t k (n + 1) :=
  ⟨by have := h.1; omega, fun i hi => by
    rcases Nat.eq_zero_or_pos i with rfl | hi0
    · exact hb
    · have := h.2 (i - 1) (by omega)
      rw [show k + 1 + (i - 1) = k + i from by omega] at this
      exact this⟩
theorem one_small {t : ByteArray} {k : Nat} {o : Option Nat} (h : ∀ r, o = some r → Small t k 3) (hn : (oneB o).2 ≠ 0) : Small t k (oneB o).2 := by
  cases o with
  | none => exact absurd rfl hn
  | some v =>
    unfold oneB at hn ⊢
    dsimp only at hn ⊢
    by_cases hv : v < 256
    · rw [if_pos hv]
      exact h v rfl
    · rw [if_neg hv] at hn
      exact absurd rfl hn
theorem uni_small {t : ByteArray} {k n : Nat} {o : Option Nat} (h : ∀ r, o = some r → Small t k (n + 1)) (hn : (uniB n o).2 ≠ 0) : Small t k (uniB n o).2 := by
  cases o with
  | none => exact absurd rfl hn
  | some v =>
    unfold uniB at hn ⊢
    dsimp only at hn ⊢
    by_cases hv : (signB v).size = 0
    · rw [if_pos hv] at hn
      exact absurd rfl hn
    · rw [if_neg hv]
      exact h v rfl
theorem part_small (t : ByteArray) (k : Nat) (hk : k ≤ t.size) (hn : (partB t k).2 ≠ 0) : Small t k (partB t k).2 := by
  unfold partB at hn ⊢
  by_cases h0 : k = t.size
  · rw [if_pos h0] at hn
    exact absurd rfl hn
  rw [if_neg h0] at hn ⊢
  have hb : ∀ d, stkB (bt t k) = some d → bt t k < 128 := fun d e => by
    rcases Nat.lt_or_ge (bt t k) 128 with h | h
    · exact h
    · rw [stk_big _ h] at e
      exact absurd e (by simp)
  cases e : stkB (bt t k) with
  | some d =>
    exact small_one (n := 0) (by omega) (hb d e) ⟨by omega, fun i hi => absurd hi (by omega)⟩
  | none =>
    rw [e] at hn
    dsimp only at hn ⊢
    by_cases h120 : bt t k = 120
    · rw [if_pos h120] at hn ⊢
      exact one_small (fun r hr => small_one (by omega) (by omega) (valO_small t 16 2 (k + 1) r (by omega) hr)) hn
    rw [if_neg h120] at hn ⊢
    by_cases h117 : bt t k = 117
    · rw [if_pos h117] at hn ⊢
      exact uni_small (fun r hr => small_one (by omega) (by omega) (valO_small t 16 4 (k + 1) r (by omega) hr)) hn
    rw [if_neg h117] at hn ⊢
    by_cases h85 : bt t k = 85
    · rw [if_pos h85] at hn ⊢
      exact uni_small (fun r hr => small_one (by omega) (by omega) (valO_small t 16 8 (k + 1) r (by omega) hr)) hn
    rw [if_neg h85] at hn ⊢
    exact one_small (fun r hr => valO_small t 8 3 k r (by omega) hr) hn
theorem refTxtF_stroke (t : ByteArray) (k : Nat) (l : List UInt8) (h : k < t.size) (h1 : bt t k = 92) : refTxtF 34 t t.size k l = if (partB t (k + 1)).2 = 0 then none else refTxtF 34 t t.size (k + (partB t (k + 1)).2 + 1) (l ++ (partB t (k + 1)).1.data.toList) := by
  obtain ⟨z, hz⟩ : ∃ z, t.size = z + 1 := ⟨t.size - 1, by omega⟩
  conv => lhs; rw [hz]
  rw [refTxtF, if_pos (by omega), if_neg (by omega), if_neg (by omega), if_pos ⟨rfl, h1⟩, refTxtF_more 34 t z t.size (k + (partB t (k + 1)).2 + 1) _ (by omega) (by omega)]
theorem parts_same (t : ByteArray) : ∀ k p l, t.size ≤ p + k → Fine t t.size p → partsF t k p l = refTxtF 34 t t.size p l
  | 0, p, l, h, hF => by rw [refTxtF_past 34 t t.size p l (by omega), partsF]
  | k + 1, p, l, h, hF => by
    rw [partsF]
    by_cases hp : p < t.size
    · rw [if_pos hp]
      have hg : ¬ (sig t p = 65533 ∧ wid t p = 1) := by
        obtain ⟨z, hz⟩ : ∃ z, t.size = z + 1 := ⟨t.size - 1, by omega⟩
        have h2 : Fine t (z + 1) p := by rw [← hz]; exact hF
        exact (h2 hp).1
      have hN := fine_next t p hp hF
      have hsb := sign_bytes t p hp hg
      have hw := wid_pos t p
      have hwl := wid_le t p hp
      rcases sign_kind t p with ⟨e1, e2, e3⟩ | ⟨e1, e2, e3⟩
      · rw [e1] at hsb hN ⊢
        rw [drop_cons t p hp, List.take_succ_cons, List.take_zero] at hsb
        by_cases h1 : bt t p = 34 ∨ bt t p = 10
        · rw [if_pos (by omega), refTxtF_none 34 t p l hp (by omega)]
        · rw [if_neg (by omega)]
          by_cases h92 : bt t p = 92
          · rw [if_pos (by omega), stroke_same t (p + 1) l (by omega), refTxtF_stroke t p l hp h92]
            unfold partO
            by_cases hz : (partB t (p + 1)).2 = 0
            · rw [if_pos hz, if_pos hz]
            · rw [if_neg hz, if_neg hz]
              have hs := part_small t (p + 1) (by omega) hz
              show partsF t k (p + 1 + (partB t (p + 1)).2) (l ++ (partB t (p + 1)).1.data.toList) = _
              rw [parts_same t k _ _ (by omega) (fine_row t _ (p + 1) hs.1 hs.2 hN), show p + 1 + (partB t (p + 1)).2 = p + (partB t (p + 1)).2 + 1 from by omega]
          · rw [if_neg (by omega), hsb, refTxtF_one 34 t p l hp (by omega) (by omega) (by omega), parts_same t k (p + 1) _ (by omega) hN]
      · rw [if_neg (by omega), if_neg (by omega), hsb, refTxtF_skip 34 (by omega) t (wid t p) p l (by omega) e3, parts_same t k (p + wid t p) _ (by omega) hN]
    · rw [if_neg hp, refTxtF_past 34 t t.size p l (by omega)]
end Go.Proofs.YtijinpnbhnfiiaaDoor
