/- The document's texts: value. -/
import Derived.Test.YtijinpnbhnfiiaaDoorLit31
namespace Go.Proofs.YtijinpnbhnfiiaaDoor
open Go.RowKit
set_option linter.unusedVariables false

/-- The number of the next digits, behind v; none: one is no digit. -/
def valF (s : ByteArray) (base : Nat) : Nat → Nat → Nat → Option Nat
  | 0, _, v => some v
  | f + 1, k, v => if dgB (bt s k) < base then valF s base f (k + 1) (v * base + dgB (bt s k)) else none
def valI : Option Nat → Int
  | none => -1
  | some v => v
def valO (s : ByteArray) (base p n : Nat) : Option Nat := if s.size < p + n then none else valF s base n p 0

theorem dgB_le (c : Nat) : dgB c ≤ 99 := by
  unfold dgB
  repeat' split
  all_goals omega
theorem valF_lt (s : ByteArray) (base : Nat) (hb : base ≤ 16) : ∀ f k v i, v < 16 ^ i → ∀ r, valF s base f k v = some r → r < 16 ^ (i + f)
  | 0, k, v, i, h, r, e => by
    rw [valF] at e
    injection e with e
    subst e
    exact h
  | f + 1, k, v, i, h, r, e => by
    rw [valF] at e
    by_cases hd : dgB (bt s k) < base
    · rw [if_pos hd] at e
      have := valF_lt s base hb f (k + 1) _ (i + 1) (by
        rw [Nat.pow_succ]
        have : v * base ≤ v * 16 := Nat.mul_le_mul_left _ hb
        omega) r e
      rw [show i + (f + 1) = i + 1 + f from by omega]
      exact this
    · rw [if_neg hd] at e
      exact absurd e (by simp)

set_option maxHeartbeats 1000000 in
theorem refValue_any (s : ByteArray) (p n base : Nat) (hb : base = 8 ∨ base = 16) (hn : n ≤ 8) (hp : p ≤ s.size) (hs : s.size ≤ 500) (w : World) :
    Calls Tryd.prog 39 #[.string s, .int .i64 p, .int .i64 n, .int .i64 base] w fun e w' => e = .returned (.int .i64 (valI (valO s base p n))) ∧ w = w' := by
  have HN : Hid (valO s base p n = if s.size < p + n then none else valF s base n p 0) := rfl
  by_cases h : s.size < p + n
  · have HE : Hid (valI (valO s base p n) = -1) := by show _ = _; rw [HN.out, if_pos h]; rfl
    go_enter Tryd.func39, Tryd.ntmps39
    go_wp2
    go_ret
    rw [HE.out]
    exact ⟨rfl, rfl⟩
  have HE : Hid (valI (valO s base p n) = valI (valF s base n p 0)) := by show _ = _; rw [HN.out, if_neg h]
  clear HN
  rcases hb with rfl | rfl
  · show Calls Tryd.prog 39 #[.string s, .int .i64 p, .int .i64 n, .int .i64 (8 : Int)] w _
    go_enter Tryd.func39, Tryd.ntmps39
    go_wp2
    go_loop [9, 10] (fun v iv => ∃ x i f : Nat, v = .int .i64 x ∧ iv = .int .i64 i ∧ i + f = n ∧ x < 16 ^ i ∧ Hid (valF s 8 f (p + i) x = valF s 8 n p 0)) (fun _ iv => n - (intOf iv).toNat)
    case atStart => exact ⟨0, 0, n, rfl, rfl, by omega, by decide, rfl⟩
    case round =>
      obtain ⟨x, i, f, rfl, rfl, hf, hx, HR⟩ := hrel
      by_cases hlt : i < n
      · have gk : decide (i < n) = true := decide_eq_true hlt
        obtain ⟨f, rfl⟩ : ∃ f', f = f' + 1 := ⟨f - 1, by omega⟩
        have hx8 : x < 4294967296 := Nat.lt_of_lt_of_le hx (Nat.le_trans (Nat.pow_le_pow_right (by decide) (show i ≤ 8 by omega)) (by decide))
        have hx16 : x * 16 + 16 ≤ 16 ^ (i + 1) := by rw [Nat.pow_succ]; omega
        have HX16 := Lib.hid hx16
        clear hx hx16
        have ek := bt_eq s (p + i) (by omega)
        have lk := bt_lt s (p + i)
        have ld := dgB_le (bt s (p + i))
        have HD := Lib.hid (refDigit_any (bt s (p + i)) lk)
        have HR2 := HR.out
        rw [valF] at HR2
        go_wp2_with fail
        try rw [← ek]
        refine (HD.out _).mono ?_
        rintro e w1 ⟨rfl, rfl⟩
        generalize dgB (bt s (p + i)) = d at *
        by_cases hd : d < 8
        · have gd : decide ((8 : Int) ≤ (d : Int)) = false := decide_eq_false (by omega)
          have HX : Hid (valF s 8 f (p + (i + 1)) (x * 8 + d) = valF s 8 n p 0) := by show _ = _; rw [← HR2, if_pos hd]; rfl
          clear HR HR2
          go_wp2
          go_round
          case rel => exact ⟨x * 8 + d, i + 1, f, by go_num, by go_num, by omega, by have := HX16.out; omega, HX.out⟩
          case measure => simp [intOf]; omega
        · have gd : decide ((8 : Int) ≤ (d : Int)) = true := decide_eq_true (by omega)
          have HX : Hid (valF s 8 n p 0 = none) := by show _ = _; rw [← HR2, if_neg hd]
          clear HR HR2
          go_wp2
          go_ret
          rw [HE.out, HX.out]
          exact ⟨rfl, rfl⟩
      · have gk : decide (i < n) = false := decide_eq_false hlt
        obtain rfl : f = 0 := by omega
        have HX := HR
        have HX2 := HX.out
        rw [valF] at HX2
        have HX3 := Lib.hid HX2
        clear HX2 HX HR
        go_wp2
        go_ret
        rw [HE.out, ← HX3.out]
        exact ⟨rfl, rfl⟩
  · show Calls Tryd.prog 39 #[.string s, .int .i64 p, .int .i64 n, .int .i64 (16 : Int)] w _
    go_enter Tryd.func39, Tryd.ntmps39
    go_wp2
    go_loop [9, 10] (fun v iv => ∃ x i f : Nat, v = .int .i64 x ∧ iv = .int .i64 i ∧ i + f = n ∧ x < 16 ^ i ∧ Hid (valF s 16 f (p + i) x = valF s 16 n p 0)) (fun _ iv => n - (intOf iv).toNat)
    case atStart => exact ⟨0, 0, n, rfl, rfl, by omega, by decide, rfl⟩
    case round =>
      obtain ⟨x, i, f, rfl, rfl, hf, hx, HR⟩ := hrel
      by_cases hlt : i < n
      · have gk : decide (i < n) = true := decide_eq_true hlt
        obtain ⟨f, rfl⟩ : ∃ f', f = f' + 1 := ⟨f - 1, by omega⟩
        have hx8 : x < 4294967296 := Nat.lt_of_lt_of_le hx (Nat.le_trans (Nat.pow_le_pow_right (by decide) (show i ≤ 8 by omega)) (by decide))
        have hx16 : x * 16 + 16 ≤ 16 ^ (i + 1) := by rw [Nat.pow_succ]; omega
        have HX16 := Lib.hid hx16
        clear hx hx16
        have ek := bt_eq s (p + i) (by omega)
        have lk := bt_lt s (p + i)
        have ld := dgB_le (bt s (p + i))
        have HD := Lib.hid (refDigit_any (bt s (p + i)) lk)
        have HR2 := HR.out
        rw [valF] at HR2
        go_wp2_with fail
        try rw [← ek]
        refine (HD.out _).mono ?_
        rintro e w1 ⟨rfl, rfl⟩
        generalize dgB (bt s (p + i)) = d at *
        by_cases hd : d < 16
        · have gd : decide ((16 : Int) ≤ (d : Int)) = false := decide_eq_false (by omega)
          have HX : Hid (valF s 16 f (p + (i + 1)) (x * 16 + d) = valF s 16 n p 0) := by show _ = _; rw [← HR2, if_pos hd]; rfl
          clear HR HR2
          go_wp2
          go_round
          case rel => exact ⟨x * 16 + d, i + 1, f, by go_num, by go_num, by omega, by have := HX16.out; omega, HX.out⟩
          case measure => simp [intOf]; omega
        · have gd : decide ((16 : Int) ≤ (d : Int)) = true := decide_eq_true (by omega)
          have HX : Hid (valF s 16 n p 0 = none) := by show _ = _; rw [← HR2, if_neg hd]
          clear HR HR2
          go_wp2
          go_ret
          rw [HE.out, HX.out]
          exact ⟨rfl, rfl⟩
      · have gk : decide (i < n) = false := decide_eq_false hlt
        obtain rfl : f = 0 := by omega
        have HX := HR
        have HX2 := HX.out
        rw [valF] at HX2
        have HX3 := Lib.hid HX2
        clear HX2 HX HR
        go_wp2
        go_ret
        rw [HE.out, ← HX3.out]
        exact ⟨rfl, rfl⟩
end Go.Proofs.YtijinpnbhnfiiaaDoor
