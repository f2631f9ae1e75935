/- A number of one figure again and again: pure. -/
import Derived.Test.YtnophgicbmamdaaDoorLit18
namespace Go.Proofs.YtnophgicbmamdaaDoor
open Go.RowKit
set_option linter.unusedVariables false

theorem sig_one (s : ByteArray) (p : Nat) (h : bt s p < 128) : sig s p = bt s p ∧ wid s p = 1 := by
  have e := dec_1 s p h
  unfold sig wid
  rw [e]
  exact ⟨rfl, rfl⟩

theorem growN_same (f : Nat) (h0 : 1 ≤ f) (h1 : f ≤ 9) : ∀ n, growN 10 (List.replicate n f) f = List.replicate (n + 1) f
  | 0 => by
    show tailN f f = [f]
    obtain ⟨k, rfl⟩ : ∃ k, f = k + 1 := ⟨f - 1, by omega⟩
    rw [tailN, if_neg (by omega), Nat.mod_eq_of_lt (by omega), Nat.div_eq_of_lt (by omega)]
    cases k with
    | zero => rfl
    | succ k => rw [tailN, if_pos rfl]
  | n + 1 => by
    rw [List.replicate_succ, growN, show (f + f * 10) % 10 = f by omega, show (f + f * 10) / 10 = f by omega, growN_same f h0 h1 n, ← List.replicate_succ]

theorem numF_same (s : ByteArray) (f : Nat) (h0 : 1 ≤ f) (h1 : f ≤ 9) (hs : ∀ i, i < s.size → bt s i = 48 + f) : ∀ k p a, p ≤ s.size → s.size ≤ p + k → (p = 0 ∨ a = 48 + (f : Int)) → 0 < s.size →
    numF s 10 k p a (List.replicate p f) = some (48 + (f : Int), List.replicate s.size f)
  | 0, p, a, hp, hk, ha, hz => by
    have : p = s.size := by omega
    subst this
    rw [numF]
    rcases ha with h | h
    · omega
    · rw [h]
  | k + 1, p, a, hp, hk, ha, hz => by
    rw [numF]
    by_cases hlt : p < s.size
    · have hb := hs p hlt
      obtain ⟨e1, e2⟩ := sig_one s p (by omega)
      rw [if_pos hlt, e1, e2, hb, if_neg (by omega)]
      have hd : digW ((48 + f : Nat) : Int) ((10 : Nat) : Int) = f := by unfold digW; rw [if_pos (by omega)]; omega
      rw [hd, if_pos (by omega), Int.toNat_natCast, growN_same f h0 h1 p]
      rw [numF_same s f h0 h1 hs k (p + 1) _ (by omega) (by omega) (.inr (by omega)) hz]
    · rw [if_neg hlt]
      have : p = s.size := by omega
      subst this
      rcases ha with h | h
      · omega
      · rw [h]

theorem num_same (s : ByteArray) (f : Nat) (h0 : 1 ≤ f) (h1 : f ≤ 9) (hs : ∀ i, i < s.size → bt s i = 48 + f) (hz : 0 < s.size) (hm : s.size ≤ 200) : numR s = (s, 0) := by
  have hsp : splitN s = (10, 0) := by
    unfold splitN
    rw [if_pos (.inr (by rw [hs 0 hz]; omega))]
  unfold numR
  rw [if_neg (by omega)]
  unfold numberP
  rw [hsp]
  show meantV (numberE (s.extract 0 s.size) (numF (s.extract 0 s.size) 10 (s.extract 0 s.size).size 0 95 [])) = _
  rw [extract_whole, show ([] : List Nat) = List.replicate 0 f from rfl, numF_same s f h0 h1 hs s.size 0 95 (by omega) (by omega) (.inl rfl) hz]
  show meantV (if s.size = 0 ∨ (48 + (f : Int)) = 95 then none else some (writtenB (List.replicate s.size f))) = _
  rw [if_neg (by omega)]
  show (writtenB (List.replicate s.size f), (0 : Int)) = _
  congr 1
  unfold writtenB writtenL
  rw [List.length_replicate, if_neg (by omega), List.reverse_replicate, List.map_replicate]
  apply ByteArray.ext
  apply Array.ext
  · simp
  · intro i g1 g2
    have hi : i < s.size := g2
    have e := hs i hi
    rw [bt_eq s i hi] at e
    show (List.replicate s.size (UInt8.ofNat (48 + f))).toArray[i]'(by simpa using hi) = s.data[i]
    rw [List.getElem_toArray, List.getElem_replicate]
    apply UInt8.toNat_inj.1
    have e2 : s.data[i].toNat = 48 + f := e.symm.symm
    rw [e2, UInt8.toNat_ofNat']
    omega
end Go.Proofs.YtnophgicbmamdaaDoor
