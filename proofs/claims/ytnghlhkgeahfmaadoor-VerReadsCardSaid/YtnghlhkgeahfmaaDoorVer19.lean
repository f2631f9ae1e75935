/- The document's answers for layer ver: figures, paths. -/
import Derived.Test.YtnghlhkgeahfmaaDoorVer18
namespace Go.Proofs.YtnghlhkgeahfmaaDoor
open Go.RowKit
set_option linter.unusedVariables false

theorem all_bt (q : Nat → Bool) (s : ByteArray) (h : ∀ j, j < s.size → q (bt s j) = true) : (ls s).all (fun c => q c.toNat) = true := by
  rw [List.all_eq_true]
  intro c hc
  obtain ⟨j, hj⟩ := List.mem_iff_getElem?.1 hc
  have hjl : j < s.size := by rw [← ls_len]; exact (List.getElem?_eq_some_iff.1 hj).1
  obtain ⟨c', g1, g2⟩ := ls_at s j hjl
  rw [hj] at g1
  injection g1 with g1
  subst g1
  show q c.toNat = true
  rw [g2]; exact h j hjl
theorem not_all_bt (q : Nat → Bool) (s : ByteArray) (j : Nat) (hj : j < s.size) (h : q (bt s j) = false) : (ls s).all (fun c => q c.toNat) = false := by
  obtain ⟨c, g1, g2⟩ := ls_at s j hj
  rw [List.all_eq_false]
  exact ⟨c, List.mem_of_getElem? g1, by rw [g2, h]; simp⟩

theorem figs_all (s : ByteArray) (h : ∀ j, j < s.size → figN (bt s j) = true) : figs (ls s) = decide (0 < s.size) := by
  unfold figs
  rw [all_bt figN s h, Bool.and_true, ← ls_len s]
  cases ls s <;> simp

set_option maxRecDepth 100000 in
theorem refFigures_any (s : ByteArray) (hs : s.size ≤ 1000000) (w : World) : Calls Tryd.prog 25 #[.string s] w fun e w' => e = .returned (.bool (figs (ls s))) ∧ w = w' := by
  have f0 : (s.size : Int) ≤ 1000000 := by omega
  have HS := Lib.hid hs
  clear hs
  go_enter Tryd.func25, Tryd.ntmps25
  go_wp2
  go_loopw [3] (fun v3 wr => wr = w ∧ ∃ i : Nat, v3 = .int .i64 i ∧ i ≤ s.size ∧ Hid (∀ j, j < i → figN (bt s j) = true)) (fun v3 _ => s.size - (match v3 with | .int _ i => i.toNat | _ => 0))
  case atStart => exact ⟨rfl, 0, rfl, Nat.zero_le _, fun j h => by omega⟩
  case round =>
    obtain ⟨rfl, i, rfl, hi, HJ⟩ := hrel
    have HI := Lib.hid hi
    by_cases hlt : i < s.size
    · have f1 : (i : Int) < (s.size : Int) := by omega
      have f2 : (0 : Int) ≤ (i : Int) := by omega
      have hb := bt_eq s i hlt
      have hb256 : s[i].toNat < 256 := s[i].toNat_lt
      have HNO := Lib.hid (fun h => not_all_bt figN s i hlt h)
      by_cases h1 : s[i].toNat < 48
      · have k1 : decide (((s[i].toNat : Nat) : Int) < 48) = true := by simp; omega
        have HF : Hid (figs (ls s) = false) := by
          show _ = _
          unfold figs
          rw [HNO.out (by rw [hb]; simp [figN]; omega)]
          simp
        clear hi hb h1
        go_wp2_with fail
        refine bodyPost_ret (results_tmp rfl _ _ _) rfl ?_
        rw [HF.out]
        exact ⟨rfl, rfl⟩
      · have k1 : decide (((s[i].toNat : Nat) : Int) < 48) = false := by simp; omega
        by_cases h2 : 57 < s[i].toNat
        · have k2 : decide ((57 : Int) < ((s[i].toNat : Nat) : Int)) = true := by simp; omega
          have HF : Hid (figs (ls s) = false) := by
            show _ = _
            unfold figs
            rw [HNO.out (by rw [hb]; simp [figN]; omega)]
            simp
          clear hi hb h1 h2
          go_wp2_with fail
          refine bodyPost_ret (results_tmp rfl _ _ _) rfl ?_
          rw [HF.out]
          exact ⟨rfl, rfl⟩
        · have k2 : decide ((57 : Int) < ((s[i].toNat : Nat) : Int)) = false := by simp; omega
          have HF : Hid (figN (bt s i) = true) := by
            show _ = _
            rw [hb]; simp [figN]; omega
          clear hi hb h1 h2
          go_wp2_with fail
          go_roundw
          case rel =>
            refine ⟨by first | exact rfl | trivial, i + 1, rfl, by omega, ?_⟩
            intro j hj
            rcases Nat.lt_or_ge j i with h | h
            · exact HJ.out j h
            · obtain rfl : j = i := by omega
              exact HF.out
          case measure => simp; omega
    · have f1 : ¬ ((i : Int) < (s.size : Int)) := by omega
      have HF := Lib.hid (figs_all s (fun j hj => HJ.out j (by omega)))
      clear hi hlt
      go_wp2_with fail
      go_ret
      rw [HF.out]
      exact ⟨rfl, rfl⟩
end Go.Proofs.YtnghlhkgeahfmaaDoor
