/- The document's texts and the program's: a stroke's digits: pure. -/
import Derived.Test.YtijinpnbhnfiiaaDoorLit42
namespace Go.Proofs.YtijinpnbhnfiiaaDoor
open Go.RowKit
set_option linter.unusedVariables false

theorem bt_cut (t : ByteArray) (q n i : Nat) (h : q + n ≤ t.size) (hi : i < n) : bt (t.extract q (q + n)) i = bt t (q + i) := by
  have hz : (t.extract q (q + n)).size = n := by rw [ByteArray.size_extract]; omega
  rw [bt_eq _ i (by omega), bt_eq t (q + i) (by omega)]
  congr 1
  exact ByteArray.getElem_extract ..
theorem digW_nat (c base : Nat) (hb : base ≤ 16) (h : dgB c < base) : digW (c : Int) base = (dgB c : Int) := by
  obtain ⟨h1, h2⟩ := dgB_digW c base hb
  have := h2 h
  have h0 := (digW_bounds (c : Int) base (by omega) (by omega)).1
  omega
/-- So many digits, sign by sign and byte by byte. -/
theorem dig_val (t : ByteArray) (q cnt base : Nat) (hb : base ≤ 16) (h : q + cnt ≤ t.size) : ∀ k i n : Nat, i + k = cnt → digF (t.extract q (q + cnt)) base k i (n : Int) = (valF t base k (q + i) n).map fun v => (v : Int)
  | 0, i, n, hi => by rw [digF, valF]; rfl
  | k + 1, i, n, hi => by
    have hz : (t.extract q (q + cnt)).size = cnt := by rw [ByteArray.size_extract]; omega
    have hc := bt_cut t q cnt i h (by omega)
    rw [digF, valF, if_pos (by omega)]
    obtain ⟨d1, d2⟩ := dgB_digW (bt t (q + i)) base hb
    rcases sign_kind (t.extract q (q + cnt)) i with ⟨e1, e2, e3⟩ | ⟨e1, e2, e3⟩
    · rw [e1, e2, hc]
      by_cases hd : dgB (bt t (q + i)) < base
      · rw [if_pos (d1.2 hd), if_pos hd, digW_nat _ base hb hd]
        have := dig_val t q cnt base hb h k (i + 1) (n * base + dgB (bt t (q + i))) (by omega)
        rw [show q + (i + 1) = q + i + 1 from by omega] at this
        rw [← this]
        congr 1
      · rw [if_neg (fun h => hd (d1.1 h)), if_neg hd]
        rfl
    · rw [hc] at e2
      have h1 : ¬ dgB (bt t (q + i)) < base := by
        unfold dgB
        repeat' split
        all_goals omega
      have h2 : ¬ digW (sig (t.extract q (q + cnt)) i : Int) base < base := by
        unfold digW
        rw [if_neg (by omega), if_neg (by omega), if_neg (by omega)]
        omega
      rw [if_neg h2, if_neg h1]
      rfl
theorem digits_val (t : ByteArray) (q cnt base ahead : Nat) (hb : base ≤ 16) : digitsP t q cnt base (ahead : Int) = if q + cnt ≤ t.size then (valF t base cnt q ahead).map (fun v => ((v : Int), q + cnt)) else none := by
  unfold digitsP
  by_cases h : q + cnt ≤ t.size
  · rw [if_pos h, if_pos h, dig_val t q cnt base hb h cnt 0 ahead (by omega), Nat.add_zero]
    cases valF t base cnt q ahead <;> rfl
  · rw [if_neg h, if_neg h]
end Go.Proofs.YtijinpnbhnfiiaaDoor
