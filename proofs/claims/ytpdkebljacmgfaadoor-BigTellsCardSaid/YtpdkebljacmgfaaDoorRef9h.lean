/- demoticref09: what comes of two numbers: pure laws. -/
import Derived.Test.YtpdkebljacmgfaaDoorRef9g
namespace Go.Proofs.YtpdkebljacmgfaaDoor
open Go.RowKit
set_option linter.unusedVariables false
set_option linter.unusedSimpArgs false

def sgnI (m : Bool) (a : Nat) : Int := if m then -(a : Int) else a
theorem amt_open {z : Int} {x : ByteArray} {m ok : Bool} (h : AmtIs (some z) x m ok) : ok = true ∧ ∃ a : Nat, x.data.toList = Lib.decDigits a ∧ x.size ≤ 160 ∧ z = sgnI m a := by
  rcases h with ⟨_, h⟩ | ⟨rfl, n, hx, hs, hm, hr⟩
  · cases h
  · refine ⟨rfl, n, hx, hs, ?_⟩
    split at hr
    · cases hr
    · exact Option.some.inj hr
def resZ (Z : Int) : List UInt8 × Int := if Z.natAbs < limN then (Lib.itoa Z, 0) else ([], 10)
theorem end_ok {res : List UInt8 × Int} {Z : Int} {U : ByteArray} (h : res = resZ Z) (hU : U = ⟨(Lib.itoa Z).toArray⟩) (hl : Z.natAbs < limN) : Ending.returned (.tuple #[.string U, .int .i64 0]) = .returned (.tuple #[.string ⟨res.1.toArray⟩, .int .i64 res.2]) := by
  subst h hU
  unfold resZ
  rw [if_pos hl]
theorem end_big {res : List UInt8 × Int} {Z : Int} (h : res = resZ Z) (hl : ¬ Z.natAbs < limN) : Ending.returned (.tuple #[.string ⟨#[]⟩, .int .i64 10]) = .returned (.tuple #[.string ⟨res.1.toArray⟩, .int .i64 res.2]) := by
  subst h
  unfold resZ
  rw [if_neg hl]
theorem end_arg {res : List UInt8 × Int} (h : res = ([], 1)) : Ending.returned (.tuple #[.string ⟨#[]⟩, .int .i64 1]) = .returned (.tuple #[.string ⟨res.1.toArray⟩, .int .i64 res.2]) := by rw [h]
theorem nd_pw {n k : Nat} (h : n < Ten.pw (k + 1)) : Lib.nDigits n ≤ k + 1 := nd_le h
theorem pw_nd {x : ByteArray} {a k : Nat} (h : x.data.toList = Lib.decDigits a) (hs : x.size ≤ k) : a < Ten.pw k := by
  rw [text_size h] at hs
  exact Nat.lt_of_lt_of_le (Lib.lt_pow_nDigits a) (Ten.pw_le hs)
theorem dec_short {d : Nat} {D : ByteArray} (hD : D.data.toList = Lib.decDigits d) (h : d < Ten.pw 320) : D.size ≤ 320 := by
  rw [text_size hD]
  exact nd_pw (k := 319) h
theorem pw_two {a b : Nat} (ha : a < Ten.pw 160) (hb : b < Ten.pw 160) : a + b < Ten.pw 320 ∧ a * b < Ten.pw 320 ∧ ∀ c, c ≤ a → c < Ten.pw 320 := by
  have h1 : Ten.pw 161 = 10 * Ten.pw 160 := Ten.pw_succ 160
  have h2 : Ten.pw 161 ≤ Ten.pw 320 := Ten.pw_le (by omega)
  refine ⟨by omega, ?_, fun c hc => by omega⟩
  have := Nat.mul_lt_mul'' ha hb
  rwa [← Ten.pw_add] at this
theorem itoa_short {Z : Int} {d : Nat} {b : Bool} (hZ : (if b then -(d : Int) else d) = Z) (h : d < Ten.pw 320) : (⟨(Lib.itoa Z).toArray⟩ : ByteArray).size ≤ 400 := by
  have h1 := nd_pw (k := 319) h
  have h0 := Lib.nDigits_pos d
  show (Lib.itoa Z).toArray.size ≤ 400
  rw [List.size_toArray, ← hZ]
  cases b with
  | false =>
    show (Lib.itoa (d : Int)).length ≤ 400
    rw [itoa_nat, Lib.decDigits_length]; omega
  | true =>
    show (Lib.itoa (-(d : Int))).length ≤ 400
    by_cases hd : d = 0
    · subst hd
      rw [show (-((0 : Nat) : Int)) = ((0 : Nat) : Int) by omega, itoa_nat, Lib.decDigits_length]; omega
    · rw [itoa_neg hd, List.length_cons, Lib.decDigits_length]; omega
theorem signed_to {d : Nat} {b : Bool} {Z : Int} {D U : ByteArray} (hD : D.data.toList = Lib.decDigits d) (hZ : (if b then -(d : Int) else d) = Z) (hU : U = ⟨(Lib.itoa Z).toArray⟩) (hd : d < Ten.pw 320) (W : World) : Calls Tryd.prog 52 #[.string D, .bool b] W fun e w' => e = .returned (.string U) ∧ W = w' := by
  have := refSigned_any D d hD b (Nat.le_trans (dec_short hD hd) (by omega)) W
  rw [hU, ← hZ]
  exact this
theorem right_to {d : Nat} {b : Bool} {Z : Int} {U : ByteArray} (hZ : (if b then -(d : Int) else d) = Z) (hU : U = ⟨(Lib.itoa Z).toArray⟩) (hd : d < Ten.pw 320) (W : World) : Calls Tryd.prog 22 #[.string U] W fun e w' => e = .returned (.bool (decide (Z.natAbs < limN))) ∧ Below W.heap.size W w' := by
  subst hU
  have := refRight_any ⟨(Lib.itoa Z).toArray⟩ (Nat.le_trans (itoa_short hZ hd) (by omega)) W
  rw [show (⟨(Lib.itoa Z).toArray⟩ : ByteArray).data.toList = Lib.itoa Z from rfl, readZ_itoa] at this
  rw [show decide (Z.natAbs < limN) = (if Z.natAbs < limN then some Z else none).isSome by
    by_cases h : Z.natAbs < limN
    · rw [if_pos h, decide_eq_true h]; rfl
    · rw [if_neg h, decide_eq_false h]; rfl]
  exact this
theorem sgnI_mul (m o : Bool) (a b : Nat) : (if (m != o) then -((a * b : Nat) : Int) else ((a * b : Nat) : Int)) = sgnI m a * sgnI o b := by
  cases m <;> cases o <;> simp [sgnI, Int.neg_mul, Int.mul_neg]
theorem sgnI_quo (m o : Bool) (a b : Nat) : (if (m != o) then -((a / b : Nat) : Int) else ((a / b : Nat) : Int)) = (sgnI m a).tdiv (sgnI o b) := by
  cases m <;> cases o <;> simp [sgnI, Int.neg_tdiv, Int.tdiv_neg, Int.ofNat_tdiv]
theorem sgnI_rest (m o : Bool) (a b : Nat) : (if m then -((a % b : Nat) : Int) else ((a % b : Nat) : Int)) = (sgnI m a).tmod (sgnI o b) := by
  cases m <;> cases o <;> simp [sgnI, Int.neg_tmod, Int.tmod_neg] <;> exact (Int.tmod_eq_emod_of_nonneg (by omega)).symm
theorem reck_some {op : Int → Int → Int} {a b : List UInt8} {x y : Int} (hx : readZ a = some x) (hy : readZ b = some y) : reckP op a b = resZ (op x y) := by
  unfold reckP resZ
  rw [hx, hy]
theorem reck_none {op : Int → Int → Int} {a b : List UInt8} (h : readZ a = none ∨ readZ b = none) : reckP op a b = ([], 1) := by
  unfold reckP
  rcases h with h | h
  · rw [h]
  · rw [h]; cases readZ a <;> rfl
theorem divi_some {op : Int → Int → Int} {a b : List UInt8} {x y : Int} (hx : readZ a = some x) (hy : readZ b = some y) (h0 : y ≠ 0) : diviP op a b = resZ (op x y) := by
  unfold diviP
  rw [if_neg (fun e => h0 (by
    rw [e, show readZ [48] = some 0 by decide +kernel] at hy
    exact (Option.some.inj hy).symm)), reck_some hx hy]
theorem divi_nought {op : Int → Int → Int} {a b : List UInt8} (hy : readZ b = some 0) : diviP op a b = ([], 1) := by
  unfold diviP
  rw [if_pos ((itoa_read hy).1.trans nought_text.symm)]
theorem divi_none {op : Int → Int → Int} {a b : List UInt8} (h : readZ a = none ∨ readZ b = none) : diviP op a b = ([], 1) := by
  unfold diviP
  split
  · rfl
  · exact reck_none h
end Go.Proofs.YtpdkebljacmgfaaDoor
