/- demoticlaw09: BigWide. -/
import Derived.Test.YtpdkebljacmgfaaDoorBig20
import Derived.OpenShut
namespace Go.Proofs.YtpdkebljacmgfaaDoor
open Go.RowKit
set_option linter.unusedVariables false

theorem written_val (n : Int) (h0 : -9223372036854775808 ≤ n) (h1 : n ≤ 9223372036854775807) (u : ByteArray) (hu : u.data.toList = Lib.itoa n) (w : World) (htab : Tab w) : Calls Tryd.prog 20 #[.int .i64 n] w fun e w' => e = .returned (.string u) ∧ Below w.heap.size w w' := by
  have := written_any n h0 h1 w htab
  rwa [← bytes_of hu] at this
def two (k : Nat) : Nat := 2 ^ k
theorem two_mono {a b : Nat} (h : a ≤ b) : two a ≤ two b := Nat.pow_le_pow_right (by decide) h
theorem p448_lim : two 63 * two 448 < limN := by decide +kernel
theorem p63 : two 63 = 9223372036854775808 := by decide +kernel
theorem p512 : two 512 = limN := by decide +kernel
/-- A number, doubled so many times. -/
def dbl (n : Int) : Nat → Int
  | 0 => n
  | k + 1 => dbl n k + dbl n k
theorem dbl_abs (n : Int) : ∀ k, (dbl n k).natAbs = n.natAbs * two k
  | 0 => by simp [dbl, two]
  | k + 1 => by
    have := dbl_abs n k
    rw [dbl, show two (k + 1) = two k * 2 from Nat.pow_succ 2 k, ← Nat.mul_assoc, ← this]
    omega
theorem wide_sum {w w' : World} {a : List UInt8} {e : Ending} {x : Int} (h : ReckEnds w (reckP (fun x y : Int => x + y) a a) e w') (hx : readZ a = some x) (hl : limN ≤ (x + x).natAbs) :
    e = .returned (.tuple #[.string ⟨#[]⟩, .int .i64 10]) ∧ Below w.heap.size w w' := by
  obtain ⟨h1, h2⟩ := h
  refine ⟨?_, h2⟩
  rw [h1, show reckP (fun x y : Int => x + y) a a = ([], 10) by unfold reckP; rw [hx]; show (if (x + x).natAbs < limN then _ else _) = _; rw [if_neg (by omega)]]

set_option maxHeartbeats 4000000 in
set_option maxRecDepth 1000000 in
theorem wide_walk (n : Int) (w : World) (h0 : -9223372036854775808 ≤ n) (h1 : n ≤ 9223372036854775807) (htab : Tab w) : Calls Tryd.prog 6 #[.int .i64 n] w fun e w' => e = .returned (.bool true) ∧ Below w.heap.size w w' := by
  obtain ⟨u0, hu0⟩ := text_of n
  have HT := Lib.hid htab
  have CT := Lib.hid (written_val n h0 h1 u0 hu0 w htab)
  have hlow : ∀ k, k < 448 → (dbl n (k + 1)).natAbs < limN := fun k hk => by
    rw [dbl_abs]
    have h2 : n.natAbs ≤ two 63 := by rw [p63]; omega
    exact Nat.lt_of_le_of_lt (Nat.mul_le_mul h2 (two_mono hk)) p448_lim
  have hhigh : n ≠ 0 → limN ≤ (dbl n 512).natAbs := fun h => by
    rw [dbl_abs, p512]
    exact Nat.le_mul_of_pos_left _ (by omega)
  have hnil : n = 0 → ∀ k, (dbl n k).natAbs < limN := fun h k => by
    rw [dbl_abs, h]
    simp
    decide +kernel
  have HLOW := Lib.hid hlow
  have HHIGH := Lib.hid hhigh
  have HNIL := Lib.hid hnil
  have HU0 := Lib.hid hu0
  have HB00 := Lib.hid (show n.natAbs < limN from by
    have : (9223372036854775808 : Nat) < limN := by decide +kernel
    omega)
  have hnc : ((n == 0) = true ∧ n = 0) ∨ ((n == 0) = false ∧ n ≠ 0) := by
    by_cases h : n = 0
    · exact .inl ⟨by rw [h]; rfl, h⟩
    · exact .inr ⟨beq_eq_false_iff_ne.2 h, h⟩
  clear htab hlow hhigh hnil hu0
  go_enter Tryd.func6, Tryd.ntmps6
  go_wp2_with fail
  refine CT.out.mono ?_
  rintro e w1 ⟨rfl, hb⟩
  have HB1 := Lib.hid hb
  clear hb CT
  go_wp2_with fail
  go_loopw [2, 3, 4, 5, 6, 11] (fun _ sv kv _ _ _ wr => ∃ (k : Nat) (u : ByteArray), sv = .string u ∧ kv = .int .i64 k ∧ k ≤ 600 ∧ (n ≠ 0 → k ≤ 511) ∧ Hid (u.data.toList = Lib.itoa (dbl n k)) ∧ Hid ((dbl n k).natAbs < limN) ∧ Hid (Below w.heap.size w wr)) (fun _ _ kv _ _ _ _ => 600 - (intOf kv).toNat)
  case atStart => exact ⟨0, u0, rfl, rfl, by omega, fun _ => by omega, HU0, HB00, HB1⟩
  case round =>
    clear HB1 HU0 HB00
    obtain ⟨k, u, rfl, rfl, hk, hkn, HU, HL, HB⟩ := hrel
    by_cases hlt : k < 600
    · by_cases hw : limN ≤ (dbl n k + dbl n k).natAbs
      · have hn0 : n ≠ 0 := fun h => by
          have := HNIL.out h (k + 1)
          rw [dbl] at this
          omega
        have hk2 : 448 ≤ k := by
          rcases Nat.lt_or_ge k 448 with h | h
          · have := HLOW.out k h
            rw [dbl] at this
            omega
          · exact h
        have hk3 := hkn hn0
        have g0 : (n == 0) = false := beq_eq_false_iff_ne.2 hn0
        have CS := Lib.hid (Sum_any u u wr (HT.out.below HB.out))
        have HW := Lib.hid hw
        clear hw hn0 hnc hkn
        go_wp2_with fail
        refine CS.out.mono ?_
        intro e w2 he
        obtain ⟨rfl, hb⟩ := wide_sum he (read_back HU.out HL.out) HW.out
        have HB2 := Lib.hid (HB.out.trans (hb.mono HB.out.size))
        have AW := Lib.hid (awake_any w2 (HT.out.below HB2.out))
        clear hb he CS HB
        go_wp2_with fail
        refine AW.out.mono ?_
        rintro e w3 ⟨rfl, hb⟩
        have HB3 := Lib.hid (HB2.out.trans (hb.mono HB2.out.size))
        clear hb
        go_wp2
        go_ret
        exact ⟨rfl, HB3.out⟩
      · have hkn2 : n ≠ 0 → k + 1 ≤ 511 := fun h => by
          have h2 := HHIGH.out h
          have h3 := hkn h
          rcases Nat.lt_or_ge k 511 with h4 | h4
          · omega
          · have : k = 511 := by omega
            subst this
            exact absurd h2 (by rw [show (512 : Nat) = 511 + 1 from rfl, dbl]; exact hw)
        obtain ⟨v, hv⟩ := text_of (dbl n (k + 1))
        have HV := Lib.hid hv
        have hl2 : (dbl n (k + 1)).natAbs < limN := by rw [dbl]; omega
        have HL2 := Lib.hid hl2
        have HK2 := Lib.hid hkn2
        have CS := Lib.hid (Sum_any u u wr (HT.out.below HB.out))
        clear hw hkn hv hl2 hkn2 hnc
        go_wp2_with fail
        refine CS.out.mono ?_
        intro e w2 he
        obtain ⟨rfl, hb⟩ := ends_ok (u := v) he (read_back HU.out HL.out) (read_back HU.out HL.out) rfl HL2.out HV.out
        have HB2 := Lib.hid (HB.out.trans (hb.mono HB.out.size))
        clear hb he CS HB
        go_wp2
        go_roundw
        case rel => exact ⟨k + 1, v, rfl, by go_num, by omega, HK2.out, HV, HL2, HB2⟩
        case measure => simp [intOf]; omega
    · obtain rfl : k = 600 := by omega
      have hn0 : n = 0 := by
        rcases hnc with h | h
        · exact h.2
        · have := hkn h.2; omega
      subst hn0
      have AW := Lib.hid (awake_any wr (HT.out.below HB.out))
      clear hnc hkn
      go_wp2_with fail
      refine AW.out.mono ?_
      rintro e w3 ⟨rfl, hb⟩
      have HB3 := Lib.hid (HB.out.trans (hb.mono HB.out.size))
      clear hb
      go_wp2
      go_ret
      exact ⟨rfl, HB3.out⟩
theorem wide_door (n : Int) (w : World) (h : (Lit.int .i64 n).wf = true) (htab : Tab w) : Calls Tryd.prog 6 #[.int .i64 n] w fun e w' => e = .returned (.bool true) ∧ Below w.heap.size w w' :=
  wide_walk n w (bounds_i64 h).1 (bounds_i64 h).2 htab
end Go.Proofs.YtpdkebljacmgfaaDoor
