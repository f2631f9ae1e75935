/- Plain laws: what a sign is, byte by byte. No program stands in it. -/
import Derived.Test.YthpengbglbgidaaDoorMath
namespace Go.Proofs.YthpengbglbgidaaDoor

def bt (s : ByteArray) (k : Nat) : Nat := (s.get! k).toNat
theorem bt_eq (s : ByteArray) (k : Nat) (h : k < s.size) : bt s k = s[k].toNat := by
  have := get_at s k h
  rw [Nat.add_zero] at this
  unfold bt
  rw [this]
theorem bt_lt (s : ByteArray) (k : Nat) : bt s k < 256 := (s.get! k).toNat_lt

/-- A sign's number; -1, if none begins there. -/
def sgv (s : ByteArray) (p : Nat) : Int := if sig s p = 65533 ∧ wid s p = 1 then -1 else sig s p

def Bad (s : ByteArray) (p : Nat) : Prop := Utf8.decode s p = (65533, 1)
theorem Bad.wid {s : ByteArray} {p : Nat} (h : Bad s p) : wid s p = 1 := by unfold YthpengbglbgidaaDoor.wid; rw [h]
theorem Bad.sgv {s : ByteArray} {p : Nat} (h : Bad s p) : sgv s p = -1 := by unfold YthpengbglbgidaaDoor.sgv sig YthpengbglbgidaaDoor.wid; rw [h]; rfl

theorem dec_bt (s : ByteArray) (p : Nat) : Utf8.decode s p =
    (if bt s p < 128 then (bt s p, 1)
    else if bt s p / 32 == 6 && (decide (p + 1 < s.size) && bt s (p + 1) / 64 == 2) then
      if (bt s p % 32) * 64 + bt s (p + 1) % 64 ≥ 128 then ((bt s p % 32) * 64 + bt s (p + 1) % 64, 2) else (65533, 1)
    else if bt s p / 16 == 14 && (decide (p + 1 < s.size) && bt s (p + 1) / 64 == 2) && (decide (p + 2 < s.size) && bt s (p + 2) / 64 == 2) then
      if ((bt s p % 16) * 4096 + (bt s (p + 1) % 64) * 64 + bt s (p + 2) % 64 ≥ 2048 && Utf8.valid ((bt s p % 16) * 4096 + (bt s (p + 1) % 64) * 64 + bt s (p + 2) % 64 : Nat)) = true then
        ((bt s p % 16) * 4096 + (bt s (p + 1) % 64) * 64 + bt s (p + 2) % 64, 3) else (65533, 1)
    else if bt s p / 8 == 30 && (decide (p + 1 < s.size) && bt s (p + 1) / 64 == 2) && (decide (p + 2 < s.size) && bt s (p + 2) / 64 == 2) && (decide (p + 3 < s.size) && bt s (p + 3) / 64 == 2) then
      if ((bt s p % 8) * 262144 + (bt s (p + 1) % 64) * 4096 + (bt s (p + 2) % 64) * 64 + bt s (p + 3) % 64 ≥ 65536 && Utf8.valid ((bt s p % 8) * 262144 + (bt s (p + 1) % 64) * 4096 + (bt s (p + 2) % 64) * 64 + bt s (p + 3) % 64 : Nat)) = true then
        ((bt s p % 8) * 262144 + (bt s (p + 1) % 64) * 4096 + (bt s (p + 2) % 64) * 64 + bt s (p + 3) % 64, 4) else (65533, 1)
    else (65533, 1)) := rfl

theorem dec_1 (s : ByteArray) (p : Nat) (h : bt s p < 128) : Utf8.decode s p = (bt s p, 1) := by
  rw [dec_bt]
  rw [if_pos h]

theorem dec_x (s : ByteArray) (p : Nat) (h1 : 128 ≤ bt s p) (h2 : bt s p < 192 ∨ 248 ≤ bt s p) : Bad s p := by
  unfold Bad
  rw [dec_bt]
  rw [if_neg (by omega), if_neg (by simp; omega), if_neg (by simp; omega), if_neg (by simp; omega)]

theorem dec_2 (s : ByteArray) (p : Nat) (h1 : 192 ≤ bt s p) (h2 : bt s p < 224) : 
    Utf8.decode s p = if p + 1 < s.size ∧ bt s (p + 1) / 64 = 2 ∧ 128 ≤ (bt s p - 192) * 64 + (bt s (p + 1) - 128) then ((bt s p - 192) * 64 + (bt s (p + 1) - 128), 2) else (65533, 1) := by
  rw [dec_bt]
  generalize bt s p = a at h1 h2 ⊢
  generalize bt s (p + 1) = b
  rw [if_neg (by omega)]
  by_cases hc : p + 1 < s.size ∧ b / 64 = 2
  · have e : a % 32 * 64 + b % 64 = (a - 192) * 64 + (b - 128) := by omega
    rw [if_pos (by simp; omega), e]
    by_cases hv : 128 ≤ (a - 192) * 64 + (b - 128)
    · rw [if_pos hv, if_pos ⟨hc.1, hc.2, hv⟩]
    · rw [if_neg hv, if_neg (by omega)]
  · rw [if_neg (by simp; omega), if_neg (by simp; omega), if_neg (by simp; omega), if_neg (by omega)]

theorem dec_3 (s : ByteArray) (p : Nat) (h1 : 224 ≤ bt s p) (h2 : bt s p < 240) :
    Utf8.decode s p = if p + 2 < s.size ∧ bt s (p + 1) / 64 = 2 ∧ bt s (p + 2) / 64 = 2 ∧ 2048 ≤ (bt s p - 224) * 4096 + (bt s (p + 1) - 128) * 64 + (bt s (p + 2) - 128) ∧
        ((bt s p - 224) * 4096 + (bt s (p + 1) - 128) * 64 + (bt s (p + 2) - 128) < 55296 ∨ 57344 ≤ (bt s p - 224) * 4096 + (bt s (p + 1) - 128) * 64 + (bt s (p + 2) - 128))
      then ((bt s p - 224) * 4096 + (bt s (p + 1) - 128) * 64 + (bt s (p + 2) - 128), 3) else (65533, 1) := by
  rw [dec_bt]
  generalize bt s p = a at h1 h2 ⊢
  have hb := bt_lt s (p + 1)
  have hd := bt_lt s (p + 2)
  generalize bt s (p + 1) = b at hb ⊢
  generalize bt s (p + 2) = d at hd ⊢
  rw [if_neg (by omega), if_neg (by simp; omega)]
  by_cases hc : p + 2 < s.size ∧ b / 64 = 2 ∧ d / 64 = 2
  · have e : a % 16 * 4096 + b % 64 * 64 + d % 64 = (a - 224) * 4096 + (b - 128) * 64 + (d - 128) := by omega
    rw [if_pos (by simp; omega), e]
    by_cases hv : 2048 ≤ ((a - 224) * 4096 + (b - 128) * 64 + (d - 128)) ∧ (((a - 224) * 4096 + (b - 128) * 64 + (d - 128)) < 55296 ∨ 57344 ≤ ((a - 224) * 4096 + (b - 128) * 64 + (d - 128)))
    · rw [if_pos (by simp [Utf8.valid]; omega), if_pos (by omega)]
    · rw [if_neg (by simp [Utf8.valid]; omega), if_neg (by omega)]
  · rw [if_neg (by simp; omega), if_neg (by simp; omega), if_neg (by omega)]

theorem dec_4 (s : ByteArray) (p : Nat) (h1 : 240 ≤ bt s p) (h2 : bt s p < 248) :
    Utf8.decode s p = if p + 3 < s.size ∧ bt s (p + 1) / 64 = 2 ∧ bt s (p + 2) / 64 = 2 ∧ bt s (p + 3) / 64 = 2 ∧ 65536 ≤ (bt s p - 240) * 262144 + (bt s (p + 1) - 128) * 4096 + (bt s (p + 2) - 128) * 64 + (bt s (p + 3) - 128) ∧
        (bt s p - 240) * 262144 + (bt s (p + 1) - 128) * 4096 + (bt s (p + 2) - 128) * 64 + (bt s (p + 3) - 128) ≤ 1114111
      then ((bt s p - 240) * 262144 + (bt s (p + 1) - 128) * 4096 + (bt s (p + 2) - 128) * 64 + (bt s (p + 3) - 128), 4) else (65533, 1) := by
  rw [dec_bt]
  generalize bt s p = a at h1 h2 ⊢
  have hb := bt_lt s (p + 1)
  have hd := bt_lt s (p + 2)
  have he := bt_lt s (p + 3)
  generalize bt s (p + 1) = b at hb ⊢
  generalize bt s (p + 2) = d at hd ⊢
  generalize bt s (p + 3) = e' at he ⊢
  rw [if_neg (by omega), if_neg (by simp; omega), if_neg (by simp; omega)]
  by_cases hc : p + 3 < s.size ∧ b / 64 = 2 ∧ d / 64 = 2 ∧ e' / 64 = 2
  · have e : a % 8 * 262144 + b % 64 * 4096 + d % 64 * 64 + e' % 64 = (a - 240) * 262144 + (b - 128) * 4096 + (d - 128) * 64 + (e' - 128) := by omega
    rw [if_pos (by simp; omega), e]
    by_cases hv : 65536 ≤ ((a - 240) * 262144 + (b - 128) * 4096 + (d - 128) * 64 + (e' - 128)) ∧ ((a - 240) * 262144 + (b - 128) * 4096 + (d - 128) * 64 + (e' - 128)) ≤ 1114111
    · rw [if_pos (by simp [Utf8.valid]; omega), if_pos (by omega)]
    · rw [if_neg (by simp [Utf8.valid]; omega), if_neg (by omega)]
  · rw [if_neg (by simp; omega), if_neg (by omega)]
end Go.Proofs.YthpengbglbgidaaDoor
