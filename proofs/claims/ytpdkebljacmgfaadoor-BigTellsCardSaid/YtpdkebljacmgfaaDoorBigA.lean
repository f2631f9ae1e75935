/- Figures put into digits, from the high end on: pure. -/
import Derived.Test.YtpdkebljacmgfaaDoorBigT
namespace Go.Proofs.YtpdkebljacmgfaaDoor
set_option linter.unusedVariables false

theorem val_drop (l : List Nat) (j : Nat) : val (l.drop j) = l.getD j 0 + 1000000000 * val (l.drop (j + 1)) := by
  rcases Nat.lt_or_ge j l.length with h | h
  · rw [List.drop_eq_getElem_cons h, val, List.getD_eq_getElem?_getD, List.getElem?_eq_getElem h]
    rfl
  · rw [List.drop_of_length_le h, List.drop_of_length_le (by omega), List.getD_eq_getElem?_getD, List.getElem?_eq_none h]
    rfl
theorem pow_cases {e : Nat} (h : e < 9) : 10 ^ e * 10 ≤ 1000000000 := by
  have : 10 ^ (e + 1) ≤ 10 ^ 9 := Nat.pow_le_pow_right (by decide) (by omega)
  rw [Nat.pow_succ] at this
  simpa using this
/-- The first p of N figures stand in the digits l. -/
structure AmtAt (L : List UInt8) (N p : Nat) (l : List Nat) : Prop where
  len : l.length = (N + 8) / 9
  ok : Dgs l
  num : numL (L.take p) = val (l.drop ((N - p) / 9 + 1)) * 10 ^ (9 - (N - p) % 9) + l.getD ((N - p) / 9) 0
  cur : l.getD ((N - p) / 9) 0 < 10 ^ (9 - (N - p) % 9)
  zero : ∀ i, i < (N - p) / 9 → l.getD i 0 = 0
theorem AmtAt.start (L : List UInt8) (N : Nat) : AmtAt L N 0 (List.replicate ((N + 8) / 9) 0) := by
  have g : ∀ i, (List.replicate ((N + 8) / 9) 0).getD i 0 = 0 := fun i => by
    rw [List.getD_eq_getElem?_getD, List.getElem?_replicate]; split <;> rfl
  refine ⟨by simp, Dgs.rep _, ?_, by rw [g]; exact Nat.pow_pos (by decide), fun i _ => g i⟩
  rw [g, val_zeros (fun d hd => (List.mem_replicate.1 (List.mem_of_mem_drop hd)).2)]
  simp [numL]
theorem AmtAt.step {L : List UInt8} {N p : Nat} {l : List Nat} {c : UInt8} (h : AmtAt L N p l) (hp : p < N) (hc : L[p]? = some c) (h1 : 48 ≤ c.toNat) (h2 : c.toNat ≤ 57) :
    (N - 1 - p) / 9 < l.length ∧ l.getD ((N - 1 - p) / 9) 0 * 10 + (c.toNat - 48) < 1000000000 ∧ AmtAt L N (p + 1) (l.set ((N - 1 - p) / 9) (l.getD ((N - 1 - p) / 9) 0 * 10 + (c.toNat - 48))) := by
  have hlen := h.len
  have hlt : (N - 1 - p) / 9 < l.length := by omega
  have htk : L.take (p + 1) = L.take p ++ [c] := by
    rw [List.take_add_one, hc]; rfl
  obtain ⟨q, hq⟩ : ∃ q, N - p = q + 1 := ⟨N - p - 1, by omega⟩
  have e1 : N - 1 - p = q := by omega
  have e2 : N - (p + 1) = q := by omega
  have hnum := h.num
  have hcur := h.cur
  have hz := h.zero
  rw [hq] at hnum hcur hz
  rw [e1] at hlt ⊢
  have hs : (l.set (q / 9) (l.getD (q / 9) 0 * 10 + (c.toNat - 48))).getD (q / 9) 0 = l.getD (q / 9) 0 * 10 + (c.toNat - 48) := by rw [get_set, if_pos ⟨rfl, hlt⟩]
  have hdr : (l.set (q / 9) (l.getD (q / 9) 0 * 10 + (c.toNat - 48))).drop (q / 9 + 1) = l.drop (q / 9 + 1) := by
    rw [List.drop_set, if_pos (by omega)]
  by_cases h0 : (q + 1) % 9 = 0
  · -- a new digit begins
    have e3 : (q + 1) / 9 = q / 9 + 1 := by omega
    have e4 : q % 9 = 8 := by omega
    have z0 : l.getD (q / 9) 0 = 0 := hz _ (by omega)
    rw [h0, e3, Nat.sub_zero] at hnum
    rw [z0] at hs hdr ⊢
    have hv := val_drop l (q / 9 + 1)
    refine ⟨hlt, by omega, ⟨by simpa using hlen, h.ok.set _ (by omega), ?_, ?_, fun i hi => ?_⟩⟩
    · rw [htk, numL_snoc, e2, hdr, hs, e4, hnum, hv]
      have : (10 : Nat) ^ 9 = 1000000000 := by decide
      have : (10 : Nat) ^ (9 - 8) = 10 := by decide
      omega
    · rw [e2, hs, e4]
      have : (10 : Nat) ^ (9 - 8) = 10 := by decide
      omega
    · rw [e2] at hi
      rw [get_set, if_neg (by omega)]
      exact hz i (by omega)
  · have e3 : (q + 1) / 9 = q / 9 := by omega
    have e4 : 9 - q % 9 = (9 - (q + 1) % 9) + 1 := by omega
    rw [e3] at hnum hcur hz
    have hb := pow_cases (show 9 - (q + 1) % 9 < 9 by omega)
    have hbound : l.getD (q / 9) 0 * 10 + (c.toNat - 48) < 10 ^ (9 - (q + 1) % 9) * 10 := by omega
    refine ⟨hlt, by omega, ⟨by simpa using hlen, h.ok.set _ (by omega), ?_, ?_, fun i hi => ?_⟩⟩
    · rw [htk, numL_snoc, e2, hdr, hs, e4, hnum, Nat.pow_succ, Nat.add_mul, Nat.mul_assoc]
      omega
    · rw [e2, hs, e4, Nat.pow_succ]
      exact hbound
    · rw [e2] at hi
      rw [get_set, if_neg (by omega)]
      exact hz i hi
theorem AmtAt.fin {L : List UInt8} {N : Nat} {l : List Nat} (h : AmtAt L N N l) (hL : L.length = N) : val l = numL L := by
  have hn := h.num
  rw [Nat.sub_self, List.take_of_length_le (by omega)] at hn
  have hv := val_drop l 0
  rw [List.drop_zero] at hv
  rw [hn, hv, show (0 : Nat) / 9 = 0 from rfl, show (10 : Nat) ^ (9 - 0 % 9) = 1000000000 by decide]
  omega
end Go.Proofs.YtpdkebljacmgfaaDoor
