/- The document's texts and the program's are one: pure. -/
import Derived.Test.YtijinpnbhnfiiaaDoorLit45
import Derived.Test.YtijinpnbhnfiiaaDoorLit17
namespace Go.Proofs.YtijinpnbhnfiiaaDoor
open Go.RowKit
set_option linter.unusedVariables false

theorem cut_bt (s : ByteArray) (n p : Nat) (h : s.size = n + 1) (hp : p + 1 < n) : bt (s.extract 1 n) p = bt s (p + 1) := by
  have := bt_cut s 1 (n - 1) p (by omega) (by omega)
  rw [show 1 + (n - 1) = n from by omega, Nat.add_comm 1 p] at this
  exact this
theorem cut_cont (s : ByteArray) (n p i : Nat) (h : s.size = n + 1) (hb : bt s n < 128) : cont (s.extract 1 n) p i = cont s (p + 1) i := by
  have hz : (s.extract 1 n).size = n - 1 := by rw [ByteArray.size_extract]; omega
  unfold cont
  rw [hz]
  rcases Nat.lt_trichotomy (p + 1 + i) n with h1 | h1 | h1
  · rw [show p + 1 + i = p + i + 1 from by omega, cut_bt s n (p + i) h (by omega), decide_eq_true (show p + i < n - 1 by omega), decide_eq_true (show p + i + 1 < s.size by omega)]
  · rw [decide_eq_false (show ¬ p + i < n - 1 by omega), h1]
    have e : (bt s n / 64 == 2) = false := beq_eq_false_iff_ne.2 (by omega)
    rw [e, Bool.false_and, Bool.and_false]
  · rw [decide_eq_false (show ¬ p + i < n - 1 by omega), decide_eq_false (show ¬ p + 1 + i < s.size by omega)]
    simp
theorem cut_dec (s : ByteArray) (n p : Nat) (h : s.size = n + 1) (hb : bt s n < 128) (hp : p + 1 < n) : sig (s.extract 1 n) p = sig s (p + 1) ∧ wid (s.extract 1 n) p = wid s (p + 1) := by
  have hz : (s.extract 1 n).size = n - 1 := by rw [ByteArray.size_extract]; omega
  have v : ∀ i, cont (s.extract 1 n) p i = true → bt (s.extract 1 n) (p + i) = bt s (p + 1 + i) := fun i hc => by
    have := cont_lt _ p i hc
    rw [cut_bt s n (p + i) h (by omega), show p + i + 1 = p + 1 + i from by omega]
  have e : Utf8.decode (s.extract 1 n) p = Utf8.decode s (p + 1) :=
    dec_same _ _ _ _ (cut_bt s n p h hp) (cut_cont s n p 1 h hb) (v 1) (fun _ => cut_cont s n p 2 h hb) (fun _ => v 2) (fun _ _ => cut_cont s n p 3 h hb) (fun _ _ => v 3)
  unfold sig wid
  rw [e]
  exact ⟨rfl, rfl⟩
theorem cut_fine (s : ByteArray) (n : Nat) (h : s.size = n + 1) (hb : bt s n < 128) : ∀ f p, s.size ≤ p + 1 + f → wrongF s f (p + 1) < 0 → Fine (s.extract 1 n) f p
  | 0, p, hf, hw => trivial
  | f + 1, p, hf, hw => fun hp => by
    have hz : (s.extract 1 n).size = n - 1 := by rw [ByteArray.size_extract]; omega
    rw [wrongF, if_pos (by omega)] at hw
    obtain ⟨e1, e2⟩ := cut_dec s n p h hb (by omega)
    by_cases hg : bad s (p + 1) (sig s (p + 1)) = true
    · rw [if_pos hg] at hw
      omega
    · rw [if_neg hg] at hw
      have := wid_pos s (p + 1)
      refine ⟨fun hh => hg ?_, ?_⟩
      · rw [e1, e2] at hh
        unfold bad
        rw [hh.1, hh.2]
        simp
      · rw [e2]
        exact cut_fine s n h hb f (p + wid s (p + 1)) (by omega) (by rw [show p + wid s (p + 1) + 1 = p + 1 + wid s (p + 1) from by omega]; exact hw)
theorem txt_same (s : ByteArray) (hs : s.size ≤ 500) : refTxt s = txtR s := by
  unfold refTxt txtR textP
  rw [if_neg (show ¬ 65536 < s.size by omega)]
  by_cases hb : s.size < 2 ∨ bt s 0 ≠ bt s (s.size - 1) ∨ (bt s 0 ≠ 34 ∧ bt s 0 ≠ 96) ∨ 0 ≤ wrongR s
  · rw [if_pos hb]
    by_cases hc : 1 < s.size ∧ bt s 0 = bt s (s.size - 1) ∧ wrongR s < 0
    · rw [if_pos hc, if_neg (by omega), if_neg (by omega)]
      rfl
    · rw [if_neg hc]
      rfl
  · rw [if_neg hb, if_pos (by omega)]
    obtain ⟨n, h⟩ : ∃ n, s.size = n + 1 := ⟨s.size - 1, by omega⟩
    have e : s.size - 1 = n := by omega
    rw [e] at hb ⊢
    have hz : (s.extract 1 n).size = n - 1 := by rw [ByteArray.size_extract]; omega
    have hF : Fine (s.extract 1 n) (s.extract 1 n).size 0 := by
      have hw : wrongF s s.size 0 < 0 := by
        have : wrongR s < 0 := by omega
        exact this
      rw [h, wrongF, if_pos (by omega)] at hw
      by_cases hg : bad s 0 (sig s 0) = true
      · rw [if_pos hg] at hw
        exact absurd hw (by decide)
      · rw [if_neg hg] at hw
        rcases sign_kind s 0 with ⟨e1, e2, e3⟩ | ⟨e1, e2, e3⟩
        · rw [e1] at hw
          exact fine_more _ n _ 0 (by omega) (by omega) (cut_fine s n h (by omega) n 0 (by omega) hw)
        · omega
    by_cases hq : bt s 0 = 34
    · rw [if_pos hq, hq, refTxtF_more 34 _ s.size (s.extract 1 n).size 0 [] (by omega) (by omega), ← parts_same _ (s.extract 1 n).size 0 [] (by omega) hF]
      unfold partsP
      cases partsF (s.extract 1 n) (s.extract 1 n).size 0 [] <;> rfl
    · have hq2 : bt s 0 = 96 := by omega
      rw [if_neg hq, if_pos hq2, hq2, refTxtF_more 96 _ s.size (s.extract 1 n).size 0 [] (by omega) (by omega), ← raw_same _ (s.extract 1 n).size 0 [] (by omega) hF]
      unfold rawP
      cases rawF (s.extract 1 n) (s.extract 1 n).size 0 [] <;> rfl
end Go.Proofs.YtijinpnbhnfiiaaDoor
