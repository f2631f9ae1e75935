/- Plain laws on places: a text's signs, lines and columns. No program stands in it. Plain laws: what a sign is, byte by byte. No program stands in it. Plain laws on places, more: how many lines there are, where a place is found again, and texts put together. No program stands in it. Plain laws on places: two texts with a line's end between. No program stands in it. -/
import Derived.Laws.RangeAny
namespace Go.Proofs.YtpdkebljacmgfaaDoor

/-- How many bytes the sign at p has; its number. -/
def wid (s : ByteArray) (p : Nat) : Nat := (Utf8.decode s p).2
def sig (s : ByteArray) (p : Nat) : Nat := (Utf8.decode s p).1
def lineN (s : ByteArray) (p l : Nat) : Nat := if sig s p = 10 then l + 1 else l
def colN (s : ByteArray) (p c : Nat) : Nat := if sig s p = 10 then 1 else c + 1

theorem wid_pos (s : ByteArray) (p : Nat) : 1 ≤ wid s p := by
  unfold wid Utf8.decode
  simp only []
  repeat' split
  all_goals simp

theorem wid_le (s : ByteArray) (p : Nat) (h : p < s.size) : p + wid s p ≤ s.size := by
  unfold wid Utf8.decode
  simp only []
  repeat' split
  all_goals simp_all
  all_goals omega

theorem sig_le (s : ByteArray) (p : Nat) : sig s p ≤ 2147483647 := decode_le s p

/-- Where the walk stands, from p, l, c on, when it comes to the first sign at the byte a or behind it (or to the end). -/
def seek (s : ByteArray) (a : Nat) : Nat → Nat → Nat → Nat → Nat × Nat × Nat
  | 0, p, l, c => (p, l, c)
  | f + 1, p, l, c => if p < s.size ∧ p < a then seek s a f (p + wid s p) (lineN s p l) (colN s p c) else (p, l, c)

theorem seek_more (s : ByteArray) (a : Nat) : ∀ f g p l c, s.size ≤ p + f → s.size ≤ p + g → seek s a f p l c = seek s a g p l c
  | 0, 0, p, l, c, _, _ => rfl
  | 0, g + 1, p, l, c, hf, _ => by
    rw [seek, seek, if_neg (by omega)]
  | f + 1, 0, p, l, c, _, hg => by
    rw [seek, seek, if_neg (by omega)]
  | f + 1, g + 1, p, l, c, hf, hg => by
    rw [seek, seek]
    have := wid_pos s p
    rw [seek_more s a f g _ _ _ (by omega) (by omega)]

/-- The state in which the walk from the beginning comes to a. -/
def st (s : ByteArray) (a : Nat) : Nat × Nat × Nat := seek s a s.size 0 1 1

theorem seek_step (s : ByteArray) (a p l c : Nat) (h : p < s.size) (ha : p < a) (f g : Nat) (hf : s.size ≤ p + f) (hg : s.size ≤ p + 1 + g) :
    seek s a f p l c = seek s a g (p + wid s p) (lineN s p l) (colN s p c) := by
  have := wid_pos s p
  rw [seek_more s a f (g + 1) p l c hf (by omega), seek, if_pos ⟨h, ha⟩]

theorem seek_stop (s : ByteArray) (a p l c : Nat) (h : ¬ (p < s.size ∧ p < a)) (f : Nat) : seek s a f p l c = (p, l, c) := by
  cases f with
  | zero => rfl
  | succ f => rw [seek, if_neg h]

/-- What Of tells. -/
def ofL (s : ByteArray) (a : Int) : Nat := if a < 0 ∨ (s.size : Int) < a then 0 else (st s a.toNat).2.1
def ofC (s : ByteArray) (a : Int) : Nat := if a < 0 ∨ (s.size : Int) < a then 0 else (st s a.toNat).2.2

/-! ### Bounds -/
theorem seek_bounds (s : ByteArray) (a : Nat) : ∀ f p l c, (seek s a f p l c).2.1 ≤ l + f ∧ (seek s a f p l c).2.2 ≤ max c 1 + f ∧ l ≤ (seek s a f p l c).2.1 ∧ (1 ≤ c → 1 ≤ (seek s a f p l c).2.2)
  | 0, p, l, c => by simp [seek]; omega
  | f + 1, p, l, c => by
    rw [seek]
    split
    · have h := seek_bounds s a f (p + wid s p) (lineN s p l) (colN s p c)
      have h1 : lineN s p l ≤ l + 1 ∧ l ≤ lineN s p l := by unfold lineN; split <;> omega
      have h2 : colN s p c ≤ c + 1 ∧ 1 ≤ colN s p c := by unfold colN; split <;> omega
      have h3 := h.2.2.2 h2.2
      omega
    · simp only []; omega

theorem seek_pos_le (s : ByteArray) (a : Nat) : ∀ f p l c, p ≤ s.size → (seek s a f p l c).1 ≤ s.size
  | 0, p, l, c, h => h
  | f + 1, p, l, c, h => by
    rw [seek]
    split
    · rename_i hp
      exact seek_pos_le s a f _ _ _ (wid_le s p hp.1)
    · exact h

/-! ### Places rise -/
theorem seek_ge (s : ByteArray) (a : Nat) : ∀ f p l c, p ≤ (seek s a f p l c).1
  | 0, p, l, c => Nat.le_refl _
  | f + 1, p, l, c => by
    rw [seek]
    split
    · have := seek_ge s a f (p + wid s p) (lineN s p l) (colN s p c)
      have := wid_pos s p
      omega
    · exact Nat.le_refl _

/-- To come to b one may come to a ≤ b first. -/
theorem seek_seek (s : ByteArray) (a b : Nat) (hab : a ≤ b) : ∀ f p l c, s.size ≤ p + f →
    seek s b f (seek s a f p l c).1 (seek s a f p l c).2.1 (seek s a f p l c).2.2 = seek s b f p l c
  | 0, p, l, c, _ => rfl
  | f + 1, p, l, c, hf => by
    have hw := wid_pos s p
    by_cases h : p < s.size ∧ p < a
    · have e := seek_seek s a b hab f (p + wid s p) (lineN s p l) (colN s p c) (by omega)
      rw [show seek s a (f + 1) p l c = seek s a f (p + wid s p) (lineN s p l) (colN s p c) by rw [seek, if_pos h]]
      rw [show seek s b (f + 1) p l c = seek s b f (p + wid s p) (lineN s p l) (colN s p c) by rw [seek, if_pos (by omega)]]
      rw [← e]
      refine seek_more s b (f + 1) f _ _ _ ?_ ?_
      all_goals
        have : p + wid s p ≤ (seek s a f (p + wid s p) (lineN s p l) (colN s p c)).1 := seek_ge s a f _ _ _
        omega
    · rw [show seek s a (f + 1) p l c = (p, l, c) by rw [seek, if_neg h]]

theorem seek_rises (s : ByteArray) (b : Nat) : ∀ f p l c, l < (seek s b f p l c).2.1 ∨ l = (seek s b f p l c).2.1 ∧ c ≤ (seek s b f p l c).2.2
  | 0, p, l, c => .inr ⟨rfl, Nat.le_refl _⟩
  | f + 1, p, l, c => by
    rw [seek]
    split
    · have h := seek_rises s b f (p + wid s p) (lineN s p l) (colN s p c)
      have h1 : (lineN s p l = l + 1) ∨ (lineN s p l = l ∧ colN s p c = c + 1) := by unfold lineN colN; split <;> simp
      omega
    · exact .inr ⟨rfl, Nat.le_refl _⟩

theorem st_rises (s : ByteArray) (a b : Nat) (hab : a ≤ b) : (st s a).2.1 < (st s b).2.1 ∨ (st s a).2.1 = (st s b).2.1 ∧ (st s a).2.2 ≤ (st s b).2.2 := by
  have h := seek_rises s b s.size (st s a).1 (st s a).2.1 (st s a).2.2
  unfold st at *
  rw [seek_seek s a b hab _ _ _ _ (by omega)] at h
  exact h

end Go.Proofs.YtpdkebljacmgfaaDoor

namespace Go.Proofs.YtpdkebljacmgfaaDoor

def bt (s : ByteArray) (k : Nat) : Nat := (s.get! k).toNat
theorem bt_eq (s : ByteArray) (k : Nat) (h : k < s.size) : bt s k = s[k].toNat := by
  have := get_at s k h
  rw [Nat.add_zero] at this
  unfold bt
  rw [this]
theorem bt_lt (s : ByteArray) (k : Nat) : bt s k < 256 := (s.get! k).toNat_lt

/-- A sign's number; -1, if none begins there. -/
def sgv (s : ByteArray) (p : Nat) : Int := if sig s p = 65533 ∧ wid s p = 1 then -1 else sig s p

def Bad (s : ByteArray) (p : Nat) : Prop := Utf8.decode s p = (65533, 1)
theorem Bad.wid {s : ByteArray} {p : Nat} (h : Bad s p) : wid s p = 1 := by unfold YtpdkebljacmgfaaDoor.wid; rw [h]
theorem Bad.sgv {s : ByteArray} {p : Nat} (h : Bad s p) : sgv s p = -1 := by unfold YtpdkebljacmgfaaDoor.sgv sig YtpdkebljacmgfaaDoor.wid; rw [h]; rfl

theorem dec_bt (s : ByteArray) (p : Nat) : Utf8.decode s p =
    (if bt s p < 128 then (bt s p, 1)
    else if bt s p / 32 == 6 && (decide (p + 1 < s.size) && bt s (p + 1) / 64 == 2) then
      if (bt s p % 32) * 64 + bt s (p + 1) % 64 ≥ 128 then ((bt s p % 32) * 64 + bt s (p + 1) % 64, 2) else (65533, 1)
    else if bt s p / 16 == 14 && (decide (p + 1 < s.size) && bt s (p + 1) / 64 == 2) && (decide (p + 2 < s.size) && bt s (p + 2) / 64 == 2) then
      if ((bt s p % 16) * 4096 + (bt s (p + 1) % 64) * 64 + bt s (p + 2) % 64 ≥ 2048 && Utf8.valid ((bt s p % 16) * 4096 + (bt s (p + 1) % 64) * 64 + bt s (p + 2) % 64 : Nat)) = true then
        ((bt s p % 16) * 4096 + (bt s (p + 1) % 64) * 64 + bt s (p + 2) % 64, 3) else (65533, 1)
    else if bt s p / 8 == 30 && (decide (p + 1 < s.size) && bt s (p + 1) / 64 == 2) && (decide (p + 2 < s.size) && bt s (p + 2) / 64 == 2) && (decide (p + 3 < s.size) && bt s (p + 3) / 64 == 2) then
      if ((bt s p % 8) * 262144 + (bt s (p + 1) % 64) * 4096 + (bt s (p + 2) % 64) * 64 + bt s (p + 3) % 64 ≥ 65536 && Utf8.valid ((bt s p % 8) * 262144 + (bt s (p + 1) % 64) * 4096 + (bt s (p + 2) % 64) * 64 + bt s (p + 3) % 64 : Nat)) = true then
        ((bt s p % 8) * 262144 + (bt s (p + 1) % 64) * 4096 + (bt s (p + 2) % 64) * 64 + bt s (p + 3) % 64, 4) else (65533, 1)
    else (65533, 1)) := rfl

theorem dec_1 (s : ByteArray) (p : Nat) (h : bt s p < 128) : Utf8.decode s p = (bt s p, 1) := by
  rw [dec_bt]
  rw [if_pos h]

theorem dec_x (s : ByteArray) (p : Nat) (h1 : 128 ≤ bt s p) (h2 : bt s p < 192 ∨ 248 ≤ bt s p) : Bad s p := by
  unfold Bad
  rw [dec_bt]
  rw [if_neg (by omega), if_neg (by simp; omega), if_neg (by simp; omega), if_neg (by simp; omega)]

theorem dec_2 (s : ByteArray) (p : Nat) (h1 : 192 ≤ bt s p) (h2 : bt s p < 224) : 
    Utf8.decode s p = if p + 1 < s.size ∧ bt s (p + 1) / 64 = 2 ∧ 128 ≤ (bt s p - 192) * 64 + (bt s (p + 1) - 128) then ((bt s p - 192) * 64 + (bt s (p + 1) - 128), 2) else (65533, 1) := by
  rw [dec_bt]
  generalize bt s p = a at h1 h2 ⊢
  generalize bt s (p + 1) = b
  rw [if_neg (by omega)]
  by_cases hc : p + 1 < s.size ∧ b / 64 = 2
  · have e : a % 32 * 64 + b % 64 = (a - 192) * 64 + (b - 128) := by omega
    rw [if_pos (by simp; omega), e]
    by_cases hv : 128 ≤ (a - 192) * 64 + (b - 128)
    · rw [if_pos hv, if_pos ⟨hc.1, hc.2, hv⟩]
    · rw [if_neg hv, if_neg (by omega)]
  · rw [if_neg (by simp; omega), if_neg (by simp; omega), if_neg (by simp; omega), if_neg (by omega)]

theorem dec_3 (s : ByteArray) (p : Nat) (h1 : 224 ≤ bt s p) (h2 : bt s p < 240) :
    Utf8.decode s p = if p + 2 < s.size ∧ bt s (p + 1) / 64 = 2 ∧ bt s (p + 2) / 64 = 2 ∧ 2048 ≤ (bt s p - 224) * 4096 + (bt s (p + 1) - 128) * 64 + (bt s (p + 2) - 128) ∧
        ((bt s p - 224) * 4096 + (bt s (p + 1) - 128) * 64 + (bt s (p + 2) - 128) < 55296 ∨ 57344 ≤ (bt s p - 224) * 4096 + (bt s (p + 1) - 128) * 64 + (bt s (p + 2) - 128))
      then ((bt s p - 224) * 4096 + (bt s (p + 1) - 128) * 64 + (bt s (p + 2) - 128), 3) else (65533, 1) := by
  rw [dec_bt]
  generalize bt s p = a at h1 h2 ⊢
  have hb := bt_lt s (p + 1)
  have hd := bt_lt s (p + 2)
  generalize bt s (p + 1) = b at hb ⊢
  generalize bt s (p + 2) = d at hd ⊢
  rw [if_neg (by omega), if_neg (by simp; omega)]
  by_cases hc : p + 2 < s.size ∧ b / 64 = 2 ∧ d / 64 = 2
  · have e : a % 16 * 4096 + b % 64 * 64 + d % 64 = (a - 224) * 4096 + (b - 128) * 64 + (d - 128) := by omega
    rw [if_pos (by simp; omega), e]
    by_cases hv : 2048 ≤ ((a - 224) * 4096 + (b - 128) * 64 + (d - 128)) ∧ (((a - 224) * 4096 + (b - 128) * 64 + (d - 128)) < 55296 ∨ 57344 ≤ ((a - 224) * 4096 + (b - 128) * 64 + (d - 128)))
    · rw [if_pos (by simp [Utf8.valid]; omega), if_pos (by omega)]
    · rw [if_neg (by simp [Utf8.valid]; omega), if_neg (by omega)]
  · rw [if_neg (by simp; omega), if_neg (by simp; omega), if_neg (by omega)]

theorem dec_4 (s : ByteArray) (p : Nat) (h1 : 240 ≤ bt s p) (h2 : bt s p < 248) :
    Utf8.decode s p = if p + 3 < s.size ∧ bt s (p + 1) / 64 = 2 ∧ bt s (p + 2) / 64 = 2 ∧ bt s (p + 3) / 64 = 2 ∧ 65536 ≤ (bt s p - 240) * 262144 + (bt s (p + 1) - 128) * 4096 + (bt s (p + 2) - 128) * 64 + (bt s (p + 3) - 128) ∧
        (bt s p - 240) * 262144 + (bt s (p + 1) - 128) * 4096 + (bt s (p + 2) - 128) * 64 + (bt s (p + 3) - 128) ≤ 1114111
      then ((bt s p - 240) * 262144 + (bt s (p + 1) - 128) * 4096 + (bt s (p + 2) - 128) * 64 + (bt s (p + 3) - 128), 4) else (65533, 1) := by
  rw [dec_bt]
  generalize bt s p = a at h1 h2 ⊢
  have hb := bt_lt s (p + 1)
  have hd := bt_lt s (p + 2)
  have he := bt_lt s (p + 3)
  generalize bt s (p + 1) = b at hb ⊢
  generalize bt s (p + 2) = d at hd ⊢
  generalize bt s (p + 3) = e' at he ⊢
  rw [if_neg (by omega), if_neg (by simp; omega), if_neg (by simp; omega)]
  by_cases hc : p + 3 < s.size ∧ b / 64 = 2 ∧ d / 64 = 2 ∧ e' / 64 = 2
  · have e : a % 8 * 262144 + b % 64 * 4096 + d % 64 * 64 + e' % 64 = (a - 240) * 262144 + (b - 128) * 4096 + (d - 128) * 64 + (e' - 128) := by omega
    rw [if_pos (by simp; omega), e]
    by_cases hv : 65536 ≤ ((a - 240) * 262144 + (b - 128) * 4096 + (d - 128) * 64 + (e' - 128)) ∧ ((a - 240) * 262144 + (b - 128) * 4096 + (d - 128) * 64 + (e' - 128)) ≤ 1114111
    · rw [if_pos (by simp [Utf8.valid]; omega), if_pos (by omega)]
    · rw [if_neg (by simp [Utf8.valid]; omega), if_neg (by omega)]
  · rw [if_neg (by simp; omega), if_neg (by omega)]
end Go.Proofs.YtpdkebljacmgfaaDoor

namespace Go.Proofs.YtpdkebljacmgfaaDoor

/-- A sign is one byte below 128, or all its bytes are 128 or more. -/
theorem sign_kind (s : ByteArray) (p : Nat) : (wid s p = 1 ∧ sig s p = bt s p ∧ bt s p < 128) ∨ (128 ≤ sig s p ∧ 128 ≤ bt s p ∧ ∀ i, i < wid s p → 128 ≤ bt s (p + i)) := by
  have bad : Bad s p → 128 ≤ bt s p → (128 ≤ sig s p ∧ 128 ≤ bt s p ∧ ∀ i, i < wid s p → 128 ≤ bt s (p + i)) := fun h h1 => by
    refine ⟨by unfold sig; rw [h]; omega, h1, fun i hi => ?_⟩
    rw [h.wid] at hi
    obtain rfl : i = 0 := by omega
    exact h1
  by_cases k1 : bt s p < 128
  · refine .inl ⟨by unfold wid; rw [dec_1 s p k1], by unfold sig; rw [dec_1 s p k1], k1⟩
  refine .inr ?_
  by_cases k2 : bt s p < 192 ∨ 248 ≤ bt s p
  · exact bad (dec_x s p (by omega) k2) (by omega)
  by_cases k3 : bt s p < 224
  · have e := dec_2 s p (by omega) k3
    split at e
    · rename_i h
      refine ⟨by unfold sig; rw [e]; exact h.2.2, by omega, fun i hi => ?_⟩
      unfold wid at hi; rw [e] at hi
      match i, hi with
      | 0, _ => rw [Nat.add_zero]; omega
      | 1, _ => omega
    · exact bad e (by omega)
  by_cases k4 : bt s p < 240
  · have e := dec_3 s p (by omega) k4
    split at e
    · rename_i h
      refine ⟨by unfold sig; rw [e]; show 128 ≤ (_ : Nat); omega, by omega, fun i hi => ?_⟩
      unfold wid at hi; rw [e] at hi
      match i, hi with
      | 0, _ => rw [Nat.add_zero]; omega
      | 1, _ => omega
      | 2, _ => omega
    · exact bad e (by omega)
  · have e := dec_4 s p (by omega) (by omega)
    split at e
    · rename_i h
      refine ⟨by unfold sig; rw [e]; show 128 ≤ (_ : Nat); omega, by omega, fun i hi => ?_⟩
      unfold wid at hi; rw [e] at hi
      match i, hi with
      | 0, _ => rw [Nat.add_zero]; omega
      | 1, _ => omega
      | 2, _ => omega
      | 3, _ => omega
    · exact bad e (by omega)

/-! ### Lines -/
def nl (s : ByteArray) : Nat := s.data.toList.count 10
def cnt (s : ByteArray) (p : Nat) : Nat := (s.data.toList.drop p).count 10

theorem cnt_end (s : ByteArray) (p : Nat) (h : s.size ≤ p) : cnt s p = 0 := by
  unfold cnt
  rw [List.drop_of_length_le (by simpa using h)]
  rfl
theorem cnt_one (s : ByteArray) (p : Nat) (h : p < s.size) : cnt s p = (if bt s p = 10 then 1 else 0) + cnt s (p + 1) := by
  unfold cnt
  rw [List.drop_eq_getElem_cons (by simpa using h), List.count_cons]
  have e : s.data.toList[p]'(by simpa using h) = s[p] := by rw [Array.getElem_toList]; rfl
  rw [e, bt_eq s p h]
  have : (s[p] == 10) = decide (s[p].toNat = 10) := by
    rw [Bool.eq_iff_iff]; simp only [beq_iff_eq, decide_eq_true_eq]
    exact ⟨fun h => by rw [h]; rfl, fun h => UInt8.toNat_inj.1 h⟩
  rw [this]
  simp only [decide_eq_true_eq]
  omega
theorem cnt_skip (s : ByteArray) : ∀ n p, p + n ≤ s.size → (∀ i, i < n → bt s (p + i) ≠ 10) → cnt s p = cnt s (p + n)
  | 0, p, _, _ => rfl
  | n + 1, p, h, hb => by
    rw [cnt_one s p (by omega), if_neg (by have := hb 0 (by omega); exact this), Nat.zero_add, cnt_skip s n (p + 1) (by omega) (fun i hi => by have := hb (i + 1) (by omega); rwa [show p + (i + 1) = p + 1 + i by omega] at this)]
    rw [show p + 1 + n = p + (n + 1) by omega]
theorem cnt_sign (s : ByteArray) (p : Nat) (h : p < s.size) : cnt s p = (if sig s p = 10 then 1 else 0) + cnt s (p + wid s p) := by
  rcases sign_kind s p with ⟨h1, h2, h3⟩ | ⟨h1, h2, h3⟩
  · rw [h1, h2]; exact cnt_one s p h
  · rw [if_neg (by omega), Nat.zero_add]
    exact cnt_skip s _ p (wid_le s p h) (fun i hi => by have := h3 i hi; omega)

theorem seek_lines (s : ByteArray) : ∀ f p l c, s.size ≤ p + f → (seek s s.size f p l c).2.1 = l + cnt s p
  | 0, p, l, c, hf => by rw [seek, cnt_end s p (by omega)]; rfl
  | f + 1, p, l, c, hf => by
    rw [seek]
    by_cases h : p < s.size
    · have hw := wid_pos s p
      rw [if_pos ⟨h, h⟩, seek_lines s f _ _ _ (by omega), cnt_sign s p h]
      unfold lineN
      split <;> omega
    · rw [if_neg (by omega), cnt_end s p (by omega)]; rfl

theorem st_lines (s : ByteArray) : (st s s.size).2.1 = nl s + 1 := by
  unfold st
  rw [seek_lines s s.size 0 1 1 (by omega)]
  unfold cnt nl
  rw [List.drop_zero]
  omega

theorem ofL_end (s : ByteArray) : ofL s s.size = nl s + 1 := by
  unfold ofL
  rw [if_neg (by omega), Int.toNat_natCast, st_lines]
theorem of_0 (s : ByteArray) : ofL s 0 = 1 ∧ ofC s 0 = 1 := by
  have e : st s 0 = (0, 1, 1) := seek_stop s 0 0 1 1 (by omega) _
  unfold ofL ofC
  rw [if_neg (by omega), if_neg (by omega)]
  have : (0 : Int).toNat = 0 := rfl
  rw [this, e]
  exact ⟨rfl, rfl⟩
theorem of_none (s : ByteArray) (n : Int) (h : n < 0 ∨ (s.size : Int) < n) : ofL s n = 0 ∧ ofC s n = 0 := by
  unfold ofL ofC
  rw [if_pos h, if_pos h]
  exact ⟨rfl, rfl⟩

/-! ### Where a place is met -/
/-- Where the walk from p, l, c on comes to the place pl, pc; -1: nowhere. -/
def meet (s : ByteArray) (pl pc : Int) : Nat → Nat → Nat → Nat → Int
  | 0, _, l, c => if (l : Int) = pl ∧ (c : Int) = pc then s.size else -1
  | f + 1, p, l, c => if (l : Int) = pl ∧ (c : Int) = pc then p else if p < s.size then meet s pl pc f (p + wid s p) (lineN s p l) (colN s p c) else -1
def atR (s : ByteArray) (pl pc : Int) : Int := meet s pl pc s.size 0 1 1

theorem meet_none (s : ByteArray) : ∀ f p l c, 1 ≤ l → meet s 0 0 f p l c = -1
  | 0, p, l, c, h => by rw [meet, if_neg (by omega)]
  | f + 1, p, l, c, h => by
    rw [meet, if_neg (by omega)]
    split
    · exact meet_none s f _ _ _ (by unfold lineN; split <;> omega)
    · rfl
theorem atR_none (s : ByteArray) : atR s 0 0 = -1 := meet_none s _ _ _ _ (Nat.le_refl _)

theorem step_rises (s : ByteArray) (p l c : Nat) : l < lineN s p l ∨ l = lineN s p l ∧ c < colN s p c := by
  unfold lineN colN
  split <;> omega

theorem meet_back (s : ByteArray) (k : Nat) (hk : k ≤ s.size) : ∀ f p l c, s.size ≤ p + f → p ≤ k → (seek s k f p l c).1 = k → meet s (seek s k f p l c).2.1 (seek s k f p l c).2.2 f p l c = k
  | 0, p, l, c, hf, hp, h => by
    rw [seek] at h ⊢
    rw [meet, if_pos ⟨rfl, rfl⟩]
    simp only [] at h
    omega
  | f + 1, p, l, c, hf, hp, h => by
    have hw := wid_pos s p
    by_cases hlt : p < k
    · have e : seek s k (f + 1) p l c = seek s k f (p + wid s p) (lineN s p l) (colN s p c) := by rw [seek, if_pos (by omega)]
      rw [e] at h ⊢
      have hge := seek_ge s k f (p + wid s p) (lineN s p l) (colN s p c)
      have hr := seek_rises s k f (p + wid s p) (lineN s p l) (colN s p c)
      have hs := step_rises s p l c
      rw [meet, if_neg (by omega), if_pos (by omega)]
      exact meet_back s k hk f _ _ _ (by omega) (by omega) h
    · have e : seek s k (f + 1) p l c = (p, l, c) := by rw [seek, if_neg (by omega)]
      rw [e] at h ⊢
      rw [meet, if_pos ⟨rfl, rfl⟩]
      simp only [] at h
      omega

/-- At tells of the place of a sign's beginning just it. -/
theorem atR_back (s : ByteArray) (k : Nat) (hk : k ≤ s.size) (h : (st s k).1 = k) : atR s (ofL s k) (ofC s k) = k := by
  have e := meet_back s k hk s.size 0 1 1 (by omega) (Nat.zero_le _) h
  unfold ofL ofC atR
  rw [if_neg (by omega), if_neg (by omega), Int.toNat_natCast]
  exact e

theorem meet_of (s : ByteArray) (pl pc : Int) : ∀ f p l c, s.size ≤ p + f → p ≤ s.size → meet s pl pc f p l c = -1 ∨ ∃ k : Nat, meet s pl pc f p l c = k ∧ p ≤ k ∧ k ≤ s.size ∧ (((seek s k f p l c).2.1 : Nat) : Int) = pl ∧ (((seek s k f p l c).2.2 : Nat) : Int) = pc
  | 0, p, l, c, hf, hp => by
    rw [meet]
    split
    · rename_i h
      exact .inr ⟨s.size, rfl, hp, Nat.le_refl _, h.1, h.2⟩
    · exact .inl rfl
  | f + 1, p, l, c, hf, hp => by
    rw [meet]
    split
    · rename_i h
      refine .inr ⟨p, rfl, Nat.le_refl _, hp, ?_⟩
      rw [seek, if_neg (by omega)]
      exact h
    · split
      · rename_i h
        have hw := wid_pos s p
        rcases meet_of s pl pc f (p + wid s p) (lineN s p l) (colN s p c) (by omega) (wid_le s p h) with e | ⟨k, e, h1, h2, h3⟩
        · exact .inl e
        · refine .inr ⟨k, e, by omega, h2, ?_⟩
          rw [seek, if_pos (by omega)]
          exact h3
      · exact .inl rfl

/-- What At tells is nothing, or a byte of that place. -/
theorem atR_of (s : ByteArray) (pl pc : Int) : atR s pl pc = -1 ∨ ∃ k : Nat, atR s pl pc = k ∧ k ≤ s.size ∧ (ofL s k : Int) = pl ∧ (ofC s k : Int) = pc := by
  rcases meet_of s pl pc s.size 0 1 1 (by omega) (Nat.zero_le _) with e | ⟨k, e, _, h2, h3⟩
  · exact .inl e
  · refine .inr ⟨k, e, h2, ?_⟩
    unfold ofL ofC
    rw [if_neg (by omega), if_neg (by omega), Int.toNat_natCast]
    exact h3

/-- From a sign's beginning the next one is one. -/
theorem st_next (s : ByteArray) (k : Nat) (hk : k < s.size) (h : (st s k).1 = k) : (st s (k + wid s k)).1 = k + wid s k := by
  have hw := wid_pos s k
  have e := seek_seek s k (k + wid s k) (by omega) s.size 0 1 1 (by omega)
  unfold st at *
  rw [← e, h]
  rw [seek_step s (k + wid s k) k _ _ hk (by omega) s.size s.size (by omega) (by omega), seek_stop _ _ _ _ _ (by omega)]

theorem st_bounds (s : ByteArray) (k : Nat) : 1 ≤ (st s k).2.1 ∧ 1 ≤ (st s k).2.2 ∧ (st s k).2.1 ≤ s.size + 1 ∧ (st s k).2.2 ≤ s.size + 1 := by
  have h := seek_bounds s k s.size 0 1 1
  unfold st
  have := h.2.2.2 (Nat.le_refl _)
  omega
end Go.Proofs.YtpdkebljacmgfaaDoor

namespace Go.Proofs.YtpdkebljacmgfaaDoor

def jn (a b : ByteArray) : ByteArray := ⟨(a.data.toList ++ 10 :: b.data.toList).toArray⟩
theorem jn_size (a b : ByteArray) : (jn a b).size = a.size + 1 + b.size := by
  show (a.data.toList ++ 10 :: b.data.toList).toArray.size = _
  simp
  show a.size + (b.size + 1) = _
  omega
theorem jn_list (a b : ByteArray) : (jn a b).data.toList = a.data.toList ++ 10 :: b.data.toList := rfl
theorem bt_list (s : ByteArray) (k : Nat) (h : k < s.size) : s.data.toList[k]? = some (UInt8.ofNat (bt s k)) := by
  rw [bt_eq s k h, List.getElem?_eq_getElem (by simpa using h)]
  simp
  rfl
theorem bt_of_list (s : ByteArray) (k : Nat) (x : UInt8) (h : s.data.toList[k]? = some x) : bt s k = x.toNat := by
  have hk : k < s.size := by
    rcases Nat.lt_or_ge k s.size with h' | h'
    · exact h'
    · rw [List.getElem?_eq_none (by simpa using h')] at h; cases h
  rw [bt_list s k hk] at h
  have := Option.some.inj h
  rw [← this]
  have := bt_lt s k
  simp; omega

theorem bt_jn_l (a b : ByteArray) (k : Nat) (h : k < a.size) : bt (jn a b) k = bt a k := by
  refine bt_of_list _ _ (UInt8.ofNat (bt a k)) ?_ |>.trans (by have := bt_lt a k; simp; omega)
  rw [jn_list, List.getElem?_append_left (by simpa using h), bt_list a k h]
theorem bt_jn_m (a b : ByteArray) : bt (jn a b) a.size = 10 := by
  refine bt_of_list _ _ 10 ?_
  have e : a.data.toList.length = a.size := by simp
  rw [jn_list, List.getElem?_append_right (by omega), e]
  simp
theorem bt_jn_r (a b : ByteArray) (k : Nat) (h : k < b.size) : bt (jn a b) (a.size + 1 + k) = bt b k := by
  refine bt_of_list _ _ (UInt8.ofNat (bt b k)) ?_ |>.trans (by have := bt_lt b k; simp; omega)
  have e : a.data.toList.length = a.size := by simp
  rw [jn_list, List.getElem?_append_right (by omega), e, show a.size + 1 + k - a.size = k + 1 by omega, List.getElem?_cons_succ, bt_list b k h]

def cont (s : ByteArray) (p i : Nat) : Bool := decide (p + i < s.size) && bt s (p + i) / 64 == 2

theorem dec_ct (s : ByteArray) (p : Nat) : Utf8.decode s p =
    (if bt s p < 128 then (bt s p, 1)
    else if bt s p / 32 == 6 && cont s p 1 then
      if (bt s p % 32) * 64 + bt s (p + 1) % 64 ≥ 128 then ((bt s p % 32) * 64 + bt s (p + 1) % 64, 2) else (65533, 1)
    else if bt s p / 16 == 14 && cont s p 1 && cont s p 2 then
      if ((bt s p % 16) * 4096 + (bt s (p + 1) % 64) * 64 + bt s (p + 2) % 64 ≥ 2048 && Utf8.valid ((bt s p % 16) * 4096 + (bt s (p + 1) % 64) * 64 + bt s (p + 2) % 64 : Nat)) = true then
        ((bt s p % 16) * 4096 + (bt s (p + 1) % 64) * 64 + bt s (p + 2) % 64, 3) else (65533, 1)
    else if bt s p / 8 == 30 && cont s p 1 && cont s p 2 && cont s p 3 then
      if ((bt s p % 8) * 262144 + (bt s (p + 1) % 64) * 4096 + (bt s (p + 2) % 64) * 64 + bt s (p + 3) % 64 ≥ 65536 && Utf8.valid ((bt s p % 8) * 262144 + (bt s (p + 1) % 64) * 4096 + (bt s (p + 2) % 64) * 64 + bt s (p + 3) % 64 : Nat)) = true then
        ((bt s p % 8) * 262144 + (bt s (p + 1) % 64) * 4096 + (bt s (p + 2) % 64) * 64 + bt s (p + 3) % 64, 4) else (65533, 1)
    else (65533, 1)) := rfl

/-- What a sign is hangs on its bytes alone. -/
theorem dec_same (s t : ByteArray) (p q : Nat) (h0 : bt s p = bt t q) (h1 : cont s p 1 = cont t q 1) (v1 : cont s p 1 = true → bt s (p + 1) = bt t (q + 1))
    (h2 : cont s p 1 = true → cont s p 2 = cont t q 2) (v2 : cont s p 1 = true → cont s p 2 = true → bt s (p + 2) = bt t (q + 2))
    (h3 : cont s p 1 = true → cont s p 2 = true → cont s p 3 = cont t q 3) (v3 : cont s p 1 = true → cont s p 2 = true → cont s p 3 = true → bt s (p + 3) = bt t (q + 3)) :
    Utf8.decode s p = Utf8.decode t q := by
  rw [dec_ct, dec_ct, ← h0, ← h1]
  cases c1 : cont s p 1
  · simp only [Bool.and_false, Bool.false_and, Bool.false_eq_true, if_false]
  · rw [← v1 c1, ← h2 c1]
    cases c2 : cont s p 2
    · simp only [Bool.and_false, Bool.false_and, Bool.false_eq_true, if_false]
    · rw [← v2 c1 c2, ← h3 c1 c2]
      cases c3 : cont s p 3
      · simp only [Bool.and_false, Bool.false_eq_true, if_false]
      · rw [← v3 c1 c2 c3]

theorem cont_l (a b : ByteArray) (p i : Nat) (h : p + i ≤ a.size) : cont (jn a b) p i = cont a p i := by
  unfold cont
  rcases Nat.lt_or_ge (p + i) a.size with h' | h'
  · rw [bt_jn_l a b _ h', jn_size, decide_eq_true (show p + i < a.size + 1 + b.size by omega), decide_eq_true h']
  · have e : p + i = a.size := by omega
    rw [e, bt_jn_m, decide_eq_false (Nat.lt_irrefl a.size)]
    simp
theorem cont_lt (a : ByteArray) (p i : Nat) (h : cont a p i = true) : p + i < a.size := by
  unfold cont at h
  simp at h
  exact h.1

theorem dec_l (a b : ByteArray) (p : Nat) (h : p < a.size) : Utf8.decode (jn a b) p = Utf8.decode a p := by
  have k1 := cont_l a b p 1 (by omega)
  have g1 : cont (jn a b) p 1 = true → p + 1 < a.size := fun h => cont_lt a p 1 (k1 ▸ h)
  have k2 : cont (jn a b) p 1 = true → cont (jn a b) p 2 = cont a p 2 := fun h => cont_l a b p 2 (by have := g1 h; omega)
  have g2 : cont (jn a b) p 1 = true → cont (jn a b) p 2 = true → p + 2 < a.size := fun h h' => cont_lt a p 2 (k2 h ▸ h')
  have k3 : cont (jn a b) p 1 = true → cont (jn a b) p 2 = true → cont (jn a b) p 3 = cont a p 3 := fun h h' => cont_l a b p 3 (by have := g2 h h'; omega)
  exact dec_same _ _ _ _ (bt_jn_l a b p h) k1 (fun h => bt_jn_l a b _ (g1 h)) k2 (fun h h' => bt_jn_l a b _ (g2 h h')) k3
    (fun h h' h'' => bt_jn_l a b _ (cont_lt a p 3 (k3 h h' ▸ h'')))
theorem dec_m (a b : ByteArray) : Utf8.decode (jn a b) a.size = (10, 1) := by
  rw [dec_1 _ _ (by rw [bt_jn_m]; omega), bt_jn_m]
theorem cont_r (a b : ByteArray) (p i : Nat) : cont (jn a b) (a.size + 1 + p) i = cont b p i := by
  unfold cont
  rcases Nat.lt_or_ge (p + i) b.size with h' | h'
  · rw [Nat.add_assoc (a.size + 1), bt_jn_r a b _ h', jn_size, decide_eq_true (show a.size + 1 + (p + i) < a.size + 1 + b.size by omega), decide_eq_true h']
  · rw [jn_size, decide_eq_false (show ¬ a.size + 1 + p + i < a.size + 1 + b.size by omega), decide_eq_false (show ¬ p + i < b.size by omega)]
    simp
theorem dec_r (a b : ByteArray) (p : Nat) (h : p < b.size) : Utf8.decode (jn a b) (a.size + 1 + p) = Utf8.decode b p := by
  have v : ∀ i, cont (jn a b) (a.size + 1 + p) i = true → bt (jn a b) (a.size + 1 + p + i) = bt b (p + i) := fun i hc => by
    rw [Nat.add_assoc (a.size + 1)]
    exact bt_jn_r a b _ (cont_lt b p i (cont_r a b p i ▸ hc))
  exact dec_same _ _ _ _ (bt_jn_r a b p h) (cont_r a b p 1) (v 1) (fun _ => cont_r a b p 2) (fun _ => v 2) (fun _ _ => cont_r a b p 3) (fun _ _ => v 3)

/-- Up to the line's end the walk is that over the first text. -/
theorem seek_l (a b : ByteArray) : ∀ f g p l c, a.size ≤ p + g → (jn a b).size ≤ p + f → p ≤ a.size → seek (jn a b) a.size f p l c = seek a a.size g p l c
  | f, 0, p, l, c, hg, hf, hp => by
    rw [seek_stop _ _ _ _ _ (by omega), seek]
  | 0, g + 1, p, l, c, hg, hf, hp => by
    have := jn_size a b
    omega
  | f + 1, g + 1, p, l, c, hg, hf, hp => by
    rw [seek, seek]
    have hs := jn_size a b
    by_cases h : p < a.size
    · have e := dec_l a b p h
      have e1 : wid (jn a b) p = wid a p := congrArg Prod.snd e
      have e2 : sig (jn a b) p = sig a p := congrArg Prod.fst e
      have hw := wid_pos a p
      rw [if_pos (show p < (jn a b).size ∧ p < a.size by omega), if_pos (show p < a.size ∧ p < a.size from ⟨h, h⟩), lineN, colN, lineN, colN, e1, e2]
      exact seek_l a b f g _ _ _ (by omega) (by omega) (wid_le a p h)
    · rw [if_neg (by omega), if_neg (by omega)]

theorem seek_end (s : ByteArray) : ∀ f p l c, s.size ≤ p + f → p ≤ s.size → (seek s s.size f p l c).1 = s.size
  | 0, p, l, c, hf, hp => by rw [seek]; simp only []; omega
  | f + 1, p, l, c, hf, hp => by
    rw [seek]
    by_cases h : p < s.size
    · have hw := wid_pos s p
      rw [if_pos ⟨h, h⟩]
      exact seek_end s f _ _ _ (by omega) (wid_le s p h)
    · rw [if_neg (by omega)]; simp only []; omega

/-- Behind the line's end it is that over the second text, d lines on. -/
theorem seek_r (a b : ByteArray) (k d : Nat) : ∀ f g q l c, b.size ≤ q + g → (jn a b).size ≤ a.size + 1 + q + f → q ≤ b.size →
    seek (jn a b) (a.size + 1 + k) f (a.size + 1 + q) (d + l) c = (a.size + 1 + (seek b k g q l c).1, d + (seek b k g q l c).2.1, (seek b k g q l c).2.2)
  | f, 0, q, l, c, hg, hf, hq => by
    have := jn_size a b
    rw [seek_stop _ _ _ _ _ (by omega), seek]
  | 0, g + 1, q, l, c, hg, hf, hq => by
    have := jn_size a b
    rw [seek_stop b k q l c (by omega), seek]
  | f + 1, g + 1, q, l, c, hg, hf, hq => by
    rw [seek, seek]
    have hs := jn_size a b
    by_cases h : q < b.size ∧ q < k
    · have e := dec_r a b q h.1
      have e1 : wid (jn a b) (a.size + 1 + q) = wid b q := congrArg Prod.snd e
      have e2 : sig (jn a b) (a.size + 1 + q) = sig b q := congrArg Prod.fst e
      have hw := wid_pos b q
      have e3 : lineN (jn a b) (a.size + 1 + q) (d + l) = d + lineN b q l := by unfold lineN; rw [e2]; split <;> omega
      have e4 : colN (jn a b) (a.size + 1 + q) c = colN b q c := by unfold colN; rw [e2]
      rw [if_pos (show a.size + 1 + q < (jn a b).size ∧ a.size + 1 + q < a.size + 1 + k by omega), if_pos h, e1, e3, e4, Nat.add_assoc (a.size + 1)]
      exact seek_r a b k d f g _ _ _ (by omega) (by omega) (wid_le b q h.1)
    · rw [if_neg (show ¬ (a.size + 1 + q < (jn a b).size ∧ a.size + 1 + q < a.size + 1 + k) by omega), if_neg h]

theorem st_jn (a b : ByteArray) (k : Nat) : (st (jn a b) (a.size + 1 + k)).2.1 = (st a a.size).2.1 + (st b k).2.1 ∧ (st (jn a b) (a.size + 1 + k)).2.2 = (st b k).2.2 := by
  have hs := jn_size a b
  have e1 := seek_l a b (jn a b).size a.size 0 1 1 (by omega) (by omega) (Nat.zero_le _)
  have e2 := seek_end a a.size 0 1 1 (by omega) (Nat.zero_le _)
  have e3 := seek_seek (jn a b) a.size (a.size + 1 + k) (by omega) (jn a b).size 0 1 1 (by omega)
  rw [e1, e2] at e3
  have e4 := seek_step (jn a b) (a.size + 1 + k) a.size (seek a a.size a.size 0 1 1).2.1 (seek a a.size a.size 0 1 1).2.2 (by omega) (by omega) (jn a b).size (jn a b).size (by omega) (by omega)
  have f1 : wid (jn a b) a.size = 1 := congrArg Prod.snd (dec_m a b)
  have f2 : sig (jn a b) a.size = 10 := congrArg Prod.fst (dec_m a b)
  rw [e4, f1, lineN, colN, if_pos f2, if_pos f2] at e3
  have e5 := seek_r a b k (seek a a.size a.size 0 1 1).2.1 (jn a b).size b.size 0 1 1 (by omega) (by omega) (Nat.zero_le _)
  rw [Nat.add_zero] at e5
  rw [e5] at e3
  unfold st
  rw [← e3]
  exact ⟨rfl, rfl⟩

theorem nl_jn (a b : ByteArray) : nl (jn a b) = nl a + 1 + nl b := by
  unfold nl
  rw [jn_list, List.count_append, List.count_cons]
  simp
  omega

/-- What PlaceJoins asks. -/
theorem of_jn (a b : ByteArray) (k : Nat) (hk : k ≤ b.size) : ofL (jn a b) ((a.size : Int) + 1 + k) = ofL b k + ofL a a.size ∧ ofC (jn a b) ((a.size : Int) + 1 + k) = ofC b k := by
  have hs := jn_size a b
  have h := st_jn a b k
  have e : ((a.size : Int) + 1 + k).toNat = a.size + 1 + k := by omega
  unfold ofL ofC
  rw [if_neg (by omega), if_neg (by omega), if_neg (by omega), if_neg (by omega), if_neg (by omega), e, Int.toNat_natCast, Int.toNat_natCast]
  omega
end Go.Proofs.YtpdkebljacmgfaaDoor
