/- The document's texts and the program's: a stroke: pure. -/
import Derived.Test.YtijinpnbhnfiiaaDoorLit43
namespace Go.Proofs.YtijinpnbhnfiiaaDoor
open Go.RowKit
set_option linter.unusedVariables false

theorem b8_nat (v : Nat) (h : v < 256) : b8 (v : Int) = UInt8.ofNat v := by
  unfold b8
  congr 1
  omega
theorem stroke_small (c : Nat) (h : c < 128) : strokeR (c : Int) = (stkB c).map fun d => (d.toNat : Int) := by
  have : ∀ k : Fin 128, strokeR ((k.val : Nat) : Int) = (stkB k.val).map fun d => (d.toNat : Int) := by decide +kernel
  exact this ⟨c, h⟩
theorem stroke_big (c : Nat) (h : 128 ≤ c) : strokeR (c : Int) = none := by
  unfold strokeR
  rw [List.find?_eq_none.2]
  · rfl
  · intro x hx
    have : ∀ x ∈ strokeL, x.1 < 128 := by decide
    have := this x hx
    simp only [beq_iff_eq]
    omega
theorem stk_big (c : Nat) (h : 128 ≤ c) : stkB c = none := by
  unfold stkB
  rw [if_neg (by omega), if_neg (by omega), if_neg (by omega), if_neg (by omega), if_neg (by omega), if_neg (by omega), if_neg (by omega), if_neg (by omega), if_neg (by omega)]
def partO (k : Nat) (l : List UInt8) (r : ByteArray × Nat) : Option (Nat × List UInt8) := if r.2 = 0 then none else some (k + r.2, l ++ r.1.data.toList)
theorem byte_same (t : ByteArray) (k : Nat) (l : List UInt8) : byteP (digitsP t (k + 1) 2 16 0) l = partO k l (oneB (valO t 16 (k + 1) 2)) := by
  have := digits_val t (k + 1) 2 16 0 (by omega)
  rw [show ((0 : Nat) : Int) = 0 from rfl] at this
  rw [this, valO]
  by_cases h : k + 1 + 2 ≤ t.size
  · rw [if_pos h, if_neg (by omega)]
    cases e : valF t 16 2 (k + 1) 0 with
    | none => rfl
    | some v =>
      have hv := valF_lt t 16 (by omega) 2 (k + 1) 0 0 (by decide) v e
      show some (k + 1 + 2, l ++ [b8 (v : Int)]) = partO k l (if v < 256 then _ else _)
      rw [if_pos (show v < 256 from hv), b8_nat v hv]
      rfl
  · rw [if_neg h, if_pos (by omega)]
    rfl
theorem octal_same (t : ByteArray) (k : Nat) (l : List UInt8) : (if digW (bt t k : Int) 8 < 8 then octalP (digitsP t (k + 1) 2 8 (digW (bt t k : Int) 8)) l else none) = partO k l (oneB (valO t 8 k 3)) := by
  have d1 : digW (bt t k : Int) 8 < 8 ↔ dgB (bt t k) < 8 := (dgB_digW (bt t k) 8 (by omega)).1
  rw [valO]
  by_cases hd : dgB (bt t k) < 8
  · have ev : valF t 8 3 k 0 = valF t 8 2 (k + 1) (dgB (bt t k)) := by
      show (if dgB (bt t k) < 8 then valF t 8 2 (k + 1) (0 * 8 + dgB (bt t k)) else none) = _
      rw [if_pos hd, Nat.zero_mul, Nat.zero_add]
    have dn : digW (bt t k : Int) 8 = (dgB (bt t k) : Int) := digW_nat _ 8 (by omega) hd
    rw [if_pos (d1.2 hd), dn, digits_val t (k + 1) 2 8 _ (by omega)]
    by_cases h : k + 1 + 2 ≤ t.size
    · rw [if_pos h, if_neg (by omega), ev]
      cases e : valF t 8 2 (k + 1) (dgB (bt t k)) with
      | none => rfl
      | some v =>
        show (if (v : Int) ≤ 255 then some (k + 1 + 2, l ++ [b8 (v : Int)]) else none) = partO k l (if v < 256 then _ else _)
        by_cases hv : v < 256
        · rw [if_pos (by omega), if_pos hv, b8_nat v hv]
          rfl
        · rw [if_neg (by omega), if_neg hv]
          rfl
    · rw [if_neg h, if_pos (by omega)]
      rfl
  · rw [if_neg (show ¬ digW (bt t k : Int) 8 < 8 from fun h => hd (d1.1 h))]
    by_cases h : t.size < k + 3
    · rw [if_pos h]
      rfl
    · rw [if_neg h, show valF t 8 3 k 0 = none from by show (if dgB (bt t k) < 8 then valF t 8 2 (k + 1) (0 * 8 + dgB (bt t k)) else none) = _; rw [if_neg hd]]
      rfl
/-- A sign's bytes, the document's and the program's. -/
theorem sign_enc (v : Nat) : pointP (v : Int) = (if (signB v).size = 0 then none else some (v : Int)) ∧ ((signB v).size ≠ 0 → Lib.encodeRune (v : Int) = (signB v).data.toList) := by
  unfold pointP Lib.validRune
  by_cases h1 : 1114111 < v ∨ (55296 ≤ v ∧ v ≤ 57343)
  · have e : signB v = ⟨#[]⟩ := by unfold signB; rw [if_pos h1]
    refine ⟨?_, fun h => absurd (by rw [e]; rfl) h⟩
    rw [if_neg (by simp only [decide_eq_true_eq]; omega), if_pos (by rw [e]; rfl)]
  have hp : ((v : Int) ≤ 1114111 ∧ decide ((0 ≤ (v : Int) ∧ (v : Int) < 0xD800) ∨ (0xDFFF < (v : Int) ∧ (v : Int) ≤ 0x10FFFF)) = true) := by simp only [decide_eq_true_eq]; omega
  rw [if_pos hp]
  clear hp
  have b1 : ∀ (k : Nat) (x : Int), x = (k : Int) → x.toNat.toUInt8 = UInt8.ofNat k := fun k x h => by subst h; rfl
  unfold Lib.encodeRune Lib.encodeRuneZ
  by_cases h2 : v < 128
  · have e : signB v = ⟨#[UInt8.ofNat v]⟩ := by unfold signB; rw [if_neg h1, if_pos h2]
    refine ⟨by rw [if_neg (by rw [e]; show ¬ (1 = 0); omega)], fun _ => ?_⟩
    rw [e, if_pos (by omega)]
    rfl
  by_cases h3 : v < 2048
  · have e : signB v = ⟨#[UInt8.ofNat (192 + v / 64), UInt8.ofNat (128 + v % 64)]⟩ := by unfold signB; rw [if_neg h1, if_neg h2, if_pos h3]
    refine ⟨by rw [if_neg (by rw [e]; show ¬ (2 = 0); omega)], fun _ => ?_⟩
    rw [e, if_neg (by omega), if_pos (by omega)]
    rw [List.map_cons, List.map_cons, List.map_nil, b1 (192 + v / 64) _ (by omega), b1 (128 + v % 64) _ (by omega)]
  by_cases h4 : v < 65536
  · have e : signB v = ⟨#[UInt8.ofNat (224 + v / 4096), UInt8.ofNat (128 + v / 64 % 64), UInt8.ofNat (128 + v % 64)]⟩ := by unfold signB; rw [if_neg h1, if_neg h2, if_neg h3, if_pos h4]
    refine ⟨by rw [if_neg (by rw [e]; show ¬ (3 = 0); omega)], fun _ => ?_⟩
    rw [e, if_neg (by omega), if_neg (by omega), if_pos (by omega)]
    rw [List.map_cons, List.map_cons, List.map_cons, List.map_nil, b1 (224 + v / 4096) _ (by omega), b1 (128 + v / 64 % 64) _ (by omega), b1 (128 + v % 64) _ (by omega)]
  · have e : signB v = ⟨#[UInt8.ofNat (240 + v / 262144), UInt8.ofNat (128 + v / 4096 % 64), UInt8.ofNat (128 + v / 64 % 64), UInt8.ofNat (128 + v % 64)]⟩ := by unfold signB; rw [if_neg h1, if_neg h2, if_neg h3, if_neg h4]
    refine ⟨by rw [if_neg (by rw [e]; show ¬ (4 = 0); omega)], fun _ => ?_⟩
    rw [e, if_neg (by omega), if_neg (by omega), if_neg (by omega), if_pos (by omega)]
    rw [List.map_cons, List.map_cons, List.map_cons, List.map_cons, List.map_nil, b1 (240 + v / 262144) _ (by omega), b1 (128 + v / 4096 % 64) _ (by omega), b1 (128 + v / 64 % 64) _ (by omega), b1 (128 + v % 64) _ (by omega)]
theorem uni_same (t : ByteArray) (k n : Nat) (l : List UInt8) : runeP (digitsP t (k + 1) n 16 0) l = partO k l (uniB n (valO t 16 (k + 1) n)) := by
  have := digits_val t (k + 1) n 16 0 (by omega)
  rw [show ((0 : Nat) : Int) = 0 from rfl] at this
  rw [this, valO]
  by_cases h : k + 1 + n ≤ t.size
  · rw [if_pos h, if_neg (by omega)]
    cases e : valF t 16 n (k + 1) 0 with
    | none => rfl
    | some v =>
      obtain ⟨s1, s2⟩ := sign_enc v
      show (match pointP (v : Int) with | some c => some (k + 1 + n, l ++ Lib.encodeRune c) | none => none) = partO k l (if (signB v).size = 0 then _ else _)
      rw [s1]
      by_cases hz : (signB v).size = 0
      · rw [if_pos hz, if_pos hz]
        rfl
      · rw [if_neg hz, if_neg hz]
        show some (k + 1 + n, l ++ Lib.encodeRune (v : Int)) = partO k l (signB v, n + 1)
        rw [s2 hz]
        unfold partO
        rw [if_neg (by show ¬ (n + 1 = 0); omega), show k + 1 + n = k + (n + 1) from by omega]
  · rw [if_neg h, if_pos (by omega)]
    rfl
theorem stroke_same (t : ByteArray) (k : Nat) (l : List UInt8) (hk : k ≤ t.size) : strokeP t k l = partO k l (partB t k) := by
  unfold strokeP signP partB
  by_cases h0 : k = t.size
  · rw [if_neg (by omega), if_pos h0]
    rfl
  rw [if_pos (by omega), if_neg h0]
  show strokeB t (sig t k) (k + wid t k) l = _
  unfold strokeB
  rcases sign_kind t k with ⟨e1, e2, e3⟩ | ⟨e1, e2, e3⟩
  · rw [e1, e2, stroke_small _ e3]
    cases stkB (bt t k) with
    | some d =>
      show some (k + 1, l ++ [b8 (d.toNat : Int)]) = _
      rw [b8_nat d.toNat d.toNat_lt, show UInt8.ofNat d.toNat = d from by simp]
      rfl
    | none =>
      dsimp only [Option.map]
      by_cases h120 : bt t k = 120
      · rw [if_pos h120, if_pos h120]
        exact byte_same t k l
      rw [if_neg h120, if_neg h120]
      by_cases h117 : bt t k = 117
      · rw [if_pos h117, if_pos h117]
        exact uni_same t k 4 l
      rw [if_neg h117, if_neg h117]
      by_cases h85 : bt t k = 85
      · rw [if_pos h85, if_pos h85]
        exact uni_same t k 8 l
      rw [if_neg h85, if_neg h85]
      exact octal_same t k l
  · have d1 : ¬ digW (sig t k : Int) 8 < 8 := by
      unfold digW
      rw [if_neg (by omega), if_neg (by omega), if_neg (by omega)]
      omega
    have d2 : ¬ dgB (bt t k) < 8 := by
      unfold dgB
      repeat' split
      all_goals omega
    rw [stroke_big _ e1, stk_big _ e2]
    dsimp only
    rw [if_neg (by omega), if_neg (by omega), if_neg (by omega), if_neg d1, if_neg (by omega), if_neg (by omega), if_neg (by omega), valO]
    by_cases h : t.size < k + 3
    · rw [if_pos h]
      rfl
    · rw [if_neg h, show valF t 8 3 k 0 = none from by show (if dgB (bt t k) < 8 then valF t 8 2 (k + 1) (0 * 8 + dgB (bt t k)) else none) = _; rw [if_neg d2]]
      rfl
end Go.Proofs.YtijinpnbhnfiiaaDoor
