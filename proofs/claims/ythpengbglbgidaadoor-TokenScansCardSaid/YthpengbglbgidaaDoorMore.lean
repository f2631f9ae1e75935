/- Plain laws on places, more: how many lines there are, where a place is found again, and texts put together. No program stands in it. -/
import Derived.Test.YthpengbglbgidaaDoorDec
namespace Go.Proofs.YthpengbglbgidaaDoor

/-- A sign is one byte below 128, or all its bytes are 128 or more. -/
theorem sign_kind (s : ByteArray) (p : Nat) : (wid s p = 1 ∧ sig s p = bt s p ∧ bt s p < 128) ∨ (128 ≤ sig s p ∧ 128 ≤ bt s p ∧ ∀ i, i < wid s p → 128 ≤ bt s (p + i)) := by
  have bad : Bad s p → 128 ≤ bt s p → (128 ≤ sig s p ∧ 128 ≤ bt s p ∧ ∀ i, i < wid s p → 128 ≤ bt s (p + i)) := fun h h1 => by
    refine ⟨by unfold sig; rw [h]; omega, h1, fun i hi => ?_⟩
    rw [h.wid] at hi
    obtain rfl : i = 0 := by omega
    exact h1
  by_cases k1 : bt s p < 128
  · refine .inl ⟨by unfold wid; rw [dec_1 s p k1], by unfold sig; rw [dec_1 s p k1], k1⟩
  refine .inr ?_
  by_cases k2 : bt s p < 192 ∨ 248 ≤ bt s p
  · exact bad (dec_x s p (by omega) k2) (by omega)
  by_cases k3 : bt s p < 224
  · have e := dec_2 s p (by omega) k3
    split at e
    · rename_i h
      refine ⟨by unfold sig; rw [e]; exact h.2.2, by omega, fun i hi => ?_⟩
      unfold wid at hi; rw [e] at hi
      match i, hi with
      | 0, _ => rw [Nat.add_zero]; omega
      | 1, _ => omega
    · exact bad e (by omega)
  by_cases k4 : bt s p < 240
  · have e := dec_3 s p (by omega) k4
    split at e
    · rename_i h
      refine ⟨by unfold sig; rw [e]; show 128 ≤ (_ : Nat); omega, by omega, fun i hi => ?_⟩
      unfold wid at hi; rw [e] at hi
      match i, hi with
      | 0, _ => rw [Nat.add_zero]; omega
      | 1, _ => omega
      | 2, _ => omega
    · exact bad e (by omega)
  · have e := dec_4 s p (by omega) (by omega)
    split at e
    · rename_i h
      refine ⟨by unfold sig; rw [e]; show 128 ≤ (_ : Nat); omega, by omega, fun i hi => ?_⟩
      unfold wid at hi; rw [e] at hi
      match i, hi with
      | 0, _ => rw [Nat.add_zero]; omega
      | 1, _ => omega
      | 2, _ => omega
      | 3, _ => omega
    · exact bad e (by omega)

/-! ### Lines -/
def nl (s : ByteArray) : Nat := s.data.toList.count 10
def cnt (s : ByteArray) (p : Nat) : Nat := (s.data.toList.drop p).count 10

theorem cnt_end (s : ByteArray) (p : Nat) (h : s.size ≤ p) : cnt s p = 0 := by
  unfold cnt
  rw [List.drop_of_length_le (by simpa using h)]
  rfl
theorem cnt_one (s : ByteArray) (p : Nat) (h : p < s.size) : cnt s p = (if bt s p = 10 then 1 else 0) + cnt s (p + 1) := by
  unfold cnt
  rw [List.drop_eq_getElem_cons (by simpa using h), List.count_cons]
  have e : s.data.toList[p]'(by simpa using h) = s[p] := by rw [Array.getElem_toList]; rfl
  rw [e, bt_eq s p h]
  have : (s[p] == 10) = decide (s[p].toNat = 10) := by
    rw [Bool.eq_iff_iff]; simp only [beq_iff_eq, decide_eq_true_eq]
    exact ⟨fun h => by rw [h]; rfl, fun h => UInt8.toNat_inj.1 h⟩
  rw [this]
  simp only [decide_eq_true_eq]
  omega
theorem cnt_skip (s : ByteArray) : ∀ n p, p + n ≤ s.size → (∀ i, i < n → bt s (p + i) ≠ 10) → cnt s p = cnt s (p + n)
  | 0, p, _, _ => rfl
  | n + 1, p, h, hb => by
    rw [cnt_one s p (by omega), if_neg (by have := hb 0 (by omega); exact this), Nat.zero_add, cnt_skip s n (p + 1) (by omega) (fun i hi => by have := hb (i + 1) (by omega); rwa [show p + (i + 1) = p + 1 + i by omega] at this)]
    rw [show p + 1 + n = p + (n + 1) by omega]
theorem cnt_sign (s : ByteArray) (p : Nat) (h : p < s.size) : cnt s p = (if sig s p = 10 then 1 else 0) + cnt s (p + wid s p) := by
  rcases sign_kind s p with ⟨h1, h2, h3⟩ | ⟨h1, h2, h3⟩
  · rw [h1, h2]; exact cnt_one s p h
  · rw [if_neg (by omega), Nat.zero_add]
    exact cnt_skip s _ p (wid_le s p h) (fun i hi => by have := h3 i hi; omega)

theorem seek_lines (s : ByteArray) : ∀ f p l c, s.size ≤ p + f → (seek s s.size f p l c).2.1 = l + cnt s p
  | 0, p, l, c, hf => by rw [seek, cnt_end s p (by omega)]; rfl
  | f + 1, p, l, c, hf => by
    rw [seek]
    by_cases h : p < s.size
    · have hw := wid_pos s p
      rw [if_pos ⟨h, h⟩, seek_lines s f _ _ _ (by omega), cnt_sign s p h]
      unfold lineN
      split <;> omega
    · rw [if_neg (by omega), cnt_end s p (by omega)]; rfl

theorem st_lines (s : ByteArray) : (st s s.size).2.1 = nl s + 1 := by
  unfold st
  rw [seek_lines s s.size 0 1 1 (by omega)]
  unfold cnt nl
  rw [List.drop_zero]
  omega

theorem ofL_end (s : ByteArray) : ofL s s.size = nl s + 1 := by
  unfold ofL
  rw [if_neg (by omega), Int.toNat_natCast, st_lines]
theorem of_0 (s : ByteArray) : ofL s 0 = 1 ∧ ofC s 0 = 1 := by
  have e : st s 0 = (0, 1, 1) := seek_stop s 0 0 1 1 (by omega) _
  unfold ofL ofC
  rw [if_neg (by omega), if_neg (by omega)]
  have : (0 : Int).toNat = 0 := rfl
  rw [this, e]
  exact ⟨rfl, rfl⟩
theorem of_none (s : ByteArray) (n : Int) (h : n < 0 ∨ (s.size : Int) < n) : ofL s n = 0 ∧ ofC s n = 0 := by
  unfold ofL ofC
  rw [if_pos h, if_pos h]
  exact ⟨rfl, rfl⟩

/-! ### Where a place is met -/
/-- Where the walk from p, l, c on comes to the place pl, pc; -1: nowhere. -/
def meet (s : ByteArray) (pl pc : Int) : Nat → Nat → Nat → Nat → Int
  | 0, _, l, c => if (l : Int) = pl ∧ (c : Int) = pc then s.size else -1
  | f + 1, p, l, c => if (l : Int) = pl ∧ (c : Int) = pc then p else if p < s.size then meet s pl pc f (p + wid s p) (lineN s p l) (colN s p c) else -1
def atR (s : ByteArray) (pl pc : Int) : Int := meet s pl pc s.size 0 1 1

theorem meet_none (s : ByteArray) : ∀ f p l c, 1 ≤ l → meet s 0 0 f p l c = -1
  | 0, p, l, c, h => by rw [meet, if_neg (by omega)]
  | f + 1, p, l, c, h => by
    rw [meet, if_neg (by omega)]
    split
    · exact meet_none s f _ _ _ (by unfold lineN; split <;> omega)
    · rfl
theorem atR_none (s : ByteArray) : atR s 0 0 = -1 := meet_none s _ _ _ _ (Nat.le_refl _)

theorem step_rises (s : ByteArray) (p l c : Nat) : l < lineN s p l ∨ l = lineN s p l ∧ c < colN s p c := by
  unfold lineN colN
  split <;> omega

theorem meet_back (s : ByteArray) (k : Nat) (hk : k ≤ s.size) : ∀ f p l c, s.size ≤ p + f → p ≤ k → (seek s k f p l c).1 = k → meet s (seek s k f p l c).2.1 (seek s k f p l c).2.2 f p l c = k
  | 0, p, l, c, hf, hp, h => by
    rw [seek] at h ⊢
    rw [meet, if_pos ⟨rfl, rfl⟩]
    simp only [] at h
    omega
  | f + 1, p, l, c, hf, hp, h => by
    have hw := wid_pos s p
    by_cases hlt : p < k
    · have e : seek s k (f + 1) p l c = seek s k f (p + wid s p) (lineN s p l) (colN s p c) := by rw [seek, if_pos (by omega)]
      rw [e] at h ⊢
      have hge := seek_ge s k f (p + wid s p) (lineN s p l) (colN s p c)
      have hr := seek_rises s k f (p + wid s p) (lineN s p l) (colN s p c)
      have hs := step_rises s p l c
      rw [meet, if_neg (by omega), if_pos (by omega)]
      exact meet_back s k hk f _ _ _ (by omega) (by omega) h
    · have e : seek s k (f + 1) p l c = (p, l, c) := by rw [seek, if_neg (by omega)]
      rw [e] at h ⊢
      rw [meet, if_pos ⟨rfl, rfl⟩]
      simp only [] at h
      omega

/-- At tells of the place of a sign's beginning just it. -/
theorem atR_back (s : ByteArray) (k : Nat) (hk : k ≤ s.size) (h : (st s k).1 = k) : atR s (ofL s k) (ofC s k) = k := by
  have e := meet_back s k hk s.size 0 1 1 (by omega) (Nat.zero_le _) h
  unfold ofL ofC atR
  rw [if_neg (by omega), if_neg (by omega), Int.toNat_natCast]
  exact e

theorem meet_of (s : ByteArray) (pl pc : Int) : ∀ f p l c, s.size ≤ p + f → p ≤ s.size → meet s pl pc f p l c = -1 ∨ ∃ k : Nat, meet s pl pc f p l c = k ∧ p ≤ k ∧ k ≤ s.size ∧ (((seek s k f p l c).2.1 : Nat) : Int) = pl ∧ (((seek s k f p l c).2.2 : Nat) : Int) = pc
  | 0, p, l, c, hf, hp => by
    rw [meet]
    split
    · rename_i h
      exact .inr ⟨s.size, rfl, hp, Nat.le_refl _, h.1, h.2⟩
    · exact .inl rfl
  | f + 1, p, l, c, hf, hp => by
    rw [meet]
    split
    · rename_i h
      refine .inr ⟨p, rfl, Nat.le_refl _, hp, ?_⟩
      rw [seek, if_neg (by omega)]
      exact h
    · split
      · rename_i h
        have hw := wid_pos s p
        rcases meet_of s pl pc f (p + wid s p) (lineN s p l) (colN s p c) (by omega) (wid_le s p h) with e | ⟨k, e, h1, h2, h3⟩
        · exact .inl e
        · refine .inr ⟨k, e, by omega, h2, ?_⟩
          rw [seek, if_pos (by omega)]
          exact h3
      · exact .inl rfl

/-- What At tells is nothing, or a byte of that place. -/
theorem atR_of (s : ByteArray) (pl pc : Int) : atR s pl pc = -1 ∨ ∃ k : Nat, atR s pl pc = k ∧ k ≤ s.size ∧ (ofL s k : Int) = pl ∧ (ofC s k : Int) = pc := by
  rcases meet_of s pl pc s.size 0 1 1 (by omega) (Nat.zero_le _) with e | ⟨k, e, _, h2, h3⟩
  · exact .inl e
  · refine .inr ⟨k, e, h2, ?_⟩
    unfold ofL ofC
    rw [if_neg (by omega), if_neg (by omega), Int.toNat_natCast]
    exact h3

/-- From a sign's beginning the next one is one. -/
theorem st_next (s : ByteArray) (k : Nat) (hk : k < s.size) (h : (st s k).1 = k) : (st s (k + wid s k)).1 = k + wid s k := by
  have hw := wid_pos s k
  have e := seek_seek s k (k + wid s k) (by omega) s.size 0 1 1 (by omega)
  unfold st at *
  rw [← e, h]
  rw [seek_step s (k + wid s k) k _ _ hk (by omega) s.size s.size (by omega) (by omega), seek_stop _ _ _ _ _ (by omega)]

theorem st_bounds (s : ByteArray) (k : Nat) : 1 ≤ (st s k).2.1 ∧ 1 ≤ (st s k).2.2 ∧ (st s k).2.1 ≤ s.size + 1 ∧ (st s k).2.2 ≤ s.size + 1 := by
  have h := seek_bounds s k s.size 0 1 1
  unfold st
  have := h.2.2.2 (Nat.le_refl _)
  omega
end Go.Proofs.YthpengbglbgidaaDoor
