/- The document's texts and the program's: pure. -/
import Derived.Test.YtijinpnbhnfiiaaDoorLit39
import Derived.Test.YtijinpnbhnfiiaaDoorLit16
import Derived.Lib.MapLaws
namespace Go.Proofs.YtijinpnbhnfiiaaDoor
open Go.RowKit
set_option linter.unusedVariables false

theorem refTxtF_past (q : Nat) (t : ByteArray) (f k : Nat) (l : List UInt8) (h : t.size ≤ k) : refTxtF q t f k l = some l := by
  cases f with
  | zero => rfl
  | succ f => rw [refTxtF, if_neg (by omega)]
/-- The fuel is enough. -/
theorem refTxtF_more (q : Nat) (t : ByteArray) : ∀ f g k l, t.size ≤ k + f → t.size ≤ k + g → refTxtF q t f k l = refTxtF q t g k l
  | 0, g, k, l, hf, hg => by rw [refTxtF_past q t 0 k l (by omega), refTxtF_past q t g k l (by omega)]
  | f + 1, 0, k, l, hf, hg => by rw [refTxtF_past q t _ k l (by omega), refTxtF_past q t 0 k l (by omega)]
  | f + 1, g + 1, k, l, hf, hg => by
    rw [refTxtF, refTxtF]
    by_cases hk : k < t.size
    · rw [if_pos hk, if_pos hk, refTxtF_more q t f g (k + 1) l (by omega) (by omega), refTxtF_more q t f g (k + (partB t (k + 1)).2 + 1) _ (by omega) (by omega), refTxtF_more q t f g (k + 1) (l ++ [UInt8.ofNat (bt t k)]) (by omega) (by omega)]
    · rw [if_neg hk, if_neg hk]
theorem drop_cons (t : ByteArray) (k : Nat) (h : k < t.size) : t.data.toList.drop k = UInt8.ofNat (bt t k) :: t.data.toList.drop (k + 1) := by
  rw [List.drop_eq_getElem_cons (by simpa using h), bt_eq t k h]
  congr 1
  rw [show UInt8.ofNat t[k].toNat = t[k] from by simp]
  rfl
/-- Bytes of 128 and more are passed, as they stand. -/
theorem refTxtF_skip (q : Nat) (hq : q < 128) (t : ByteArray) : ∀ n k l, k + n ≤ t.size → (∀ i, i < n → 128 ≤ bt t (k + i)) → refTxtF q t t.size k l = refTxtF q t t.size (k + n) (l ++ (t.data.toList.drop k).take n)
  | 0, k, l, h, hb => by rw [List.take_zero, List.append_nil, Nat.add_zero]
  | n + 1, k, l, h, hb => by
    have h0 := hb 0 (by omega)
    rw [Nat.add_zero] at h0
    obtain ⟨z, hz⟩ : ∃ z, t.size = z + 1 := ⟨t.size - 1, by omega⟩
    have e : refTxtF q t t.size k l = refTxtF q t t.size (k + 1) (l ++ [UInt8.ofNat (bt t k)]) := by
      conv => lhs; rw [hz]
      rw [refTxtF, if_pos (by omega), if_neg (by omega), if_neg (by omega), if_neg (by omega), refTxtF_more q t z t.size (k + 1) _ (by omega) (by omega)]
    rw [e, refTxtF_skip q hq t n (k + 1) _ (by omega) (fun i hi => by have := hb (i + 1) (by omega); rw [show k + (i + 1) = k + 1 + i from by omega] at this; exact this), drop_cons t k (by omega), List.take_succ_cons, List.append_assoc, show k + 1 + n = k + (n + 1) from by omega]
    rfl
/-- One byte that is nothing of its own is passed. -/
theorem refTxtF_one (q : Nat) (t : ByteArray) (k : Nat) (l : List UInt8) (h : k < t.size) (h1 : bt t k ≠ q) (h2 : ¬ (q = 34 ∧ (bt t k = 10 ∨ bt t k = 92))) (h3 : ¬ (q = 96 ∧ bt t k = 13)) : refTxtF q t t.size k l = refTxtF q t t.size (k + 1) (l ++ [UInt8.ofNat (bt t k)]) := by
  obtain ⟨z, hz⟩ : ∃ z, t.size = z + 1 := ⟨t.size - 1, by omega⟩
  conv => lhs; rw [hz]
  rw [refTxtF, if_pos (by omega), if_neg (by omega), if_neg (by omega), if_neg (by omega), refTxtF_more q t z t.size (k + 1) _ (by omega) (by omega)]
/-- A sign's bytes, where it is one. -/
theorem sign_bytes (t : ByteArray) (p : Nat) (hp : p < t.size) (hg : ¬ (sig t p = 65533 ∧ wid t p = 1)) : Lib.encodeRune (sig t p : Int) = (t.data.toList.drop p).take (wid t p) := by
  have hd : Lib.decodeL (t.data.toList.drop p) = (sig t p, wid t p) := (dropB_dec t p hp)
  have hne : t.data.toList.drop p ≠ [] := by
    intro h
    have := congrArg List.length h
    simp at this
    omega
  have := Lib.encode_decode (t.data.toList.drop p) hne (by rw [hd]; exact hg)
  rw [hd] at this
  exact this
/-- From p on each is a sign. -/
def Fine (t : ByteArray) : Nat → Nat → Prop
  | 0, _ => True
  | k + 1, p => p < t.size → (¬ (sig t p = 65533 ∧ wid t p = 1) ∧ Fine t k (p + wid t p))
theorem refTxtF_none (q : Nat) (t : ByteArray) (k : Nat) (l : List UInt8) (h : k < t.size) (h1 : bt t k = q ∨ (q = 34 ∧ bt t k = 10)) : refTxtF q t t.size k l = none := by
  obtain ⟨z, hz⟩ : ∃ z, t.size = z + 1 := ⟨t.size - 1, by omega⟩
  conv => lhs; rw [hz]
  rw [refTxtF, if_pos (by omega), if_pos h1]
theorem refTxtF_cr (t : ByteArray) (k : Nat) (l : List UInt8) (h : k < t.size) (h1 : bt t k = 13) : refTxtF 96 t t.size k l = refTxtF 96 t t.size (k + 1) l := by
  obtain ⟨z, hz⟩ : ∃ z, t.size = z + 1 := ⟨t.size - 1, by omega⟩
  conv => lhs; rw [hz]
  rw [refTxtF, if_pos (by omega), if_neg (by omega), if_pos ⟨rfl, h1⟩, refTxtF_more 96 t z t.size (k + 1) _ (by omega) (by omega)]
theorem raw_same (t : ByteArray) : ∀ k p l, t.size ≤ p + k → Fine t k p → rawF t k p l = refTxtF 96 t t.size p l
  | 0, p, l, h, hF => by rw [refTxtF_past 96 t t.size p l (by omega), rawF]
  | k + 1, p, l, h, hF => by
    rw [rawF]
    by_cases hp : p < t.size
    · rw [if_pos hp]
      obtain ⟨hg, hF⟩ := hF hp
      have hsb := sign_bytes t p hp hg
      have hw := wid_pos t p
      have hwl := wid_le t p hp
      rcases sign_kind t p with ⟨e1, e2, e3⟩ | ⟨e1, e2, e3⟩
      · rw [e1] at hsb hF ⊢
        rw [drop_cons t p hp, List.take_succ_cons, List.take_zero] at hsb
        by_cases h96 : bt t p = 96
        · rw [if_pos (by omega), refTxtF_none 96 t p l hp (.inl h96)]
        · rw [if_neg (by omega)]
          by_cases h13 : bt t p = 13
          · rw [if_pos (by omega), refTxtF_cr t p l hp h13, raw_same t k (p + 1) l (by omega) hF]
          · rw [if_neg (by omega), hsb, refTxtF_one 96 t p l hp h96 (by omega) (by omega), raw_same t k (p + 1) _ (by omega) hF]
      · rw [if_neg (by omega), if_neg (by omega), hsb, refTxtF_skip 96 (by omega) t (wid t p) p l (by omega) e3, raw_same t k (p + wid t p) _ (by omega) hF]
    · rw [if_neg hp, refTxtF_past 96 t t.size p l (by omega)]
end Go.Proofs.YtijinpnbhnfiiaaDoor
