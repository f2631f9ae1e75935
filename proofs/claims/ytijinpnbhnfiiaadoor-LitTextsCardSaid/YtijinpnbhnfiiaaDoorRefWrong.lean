/- The reference's Wrong tells what the plain walk finds; its Lines count the bytes 10. -/
import Derived.Test.YtijinpnbhnfiiaaDoorWrongs
import Derived.Test.YtijinpnbhnfiiaaDoorSgn
namespace Go.Proofs.YtijinpnbhnfiiaaDoor
open Go.RowKit

theorem bad_sgv (s : ByteArray) (p : Nat) : bad s p (sig s p) = (decide (sgv s p ≤ 0) || (sgv s p == 65279 && decide (0 < p))) := by
  unfold bad sgv
  have hs : (0 : Int) ≤ (sig s p : Int) := by omega
  by_cases h : sig s p = 65533 ∧ wid s p = 1
  · rw [if_pos h]; simp [h.1, h.2]
  · rw [if_neg h]
    by_cases h2 : sig s p = 65533
    · have h3 : wid s p ≠ 1 := fun h3 => h ⟨h2, h3⟩
      simp [h2, h3]
    · have e : ((sig s p : Int) == 65533) = false := beq_eq_false_iff_ne.2 (by omega)
      rw [e, Bool.false_and, Bool.or_false]
      congr 1
      rw [Bool.eq_iff_iff]; simp

set_option maxHeartbeats 400000 in
theorem refWrong_any (s : ByteArray) (a : Option Addr) (cap : Nat) (w : World) (hs : s.size ≤ 1000000) (ht : Text w a s) :
    Calls Tryd.prog 22 #[.slice a s.size cap] w fun e w' => e = .returned (.int .i64 (wrongR s)) ∧ w = w' := by
  have Ht := Lib.hid ht
  clear ht
  go_enter Tryd.func22, Tryd.ntmps22
  go_wp2
  go_loop [3] (fun tp => ∃ p f : Nat, tp = .int .i64 p ∧ p ≤ s.size ∧ s.size ≤ p + f ∧ Hid (wrongF s f p = wrongR s)) (fun tp => s.size - (intOf tp).toNat)
  case atStart => exact ⟨0, s.size, rfl, Nat.zero_le _, by omega, rfl⟩
  case round =>
    obtain ⟨p, f, rfl, hp, hf, HS⟩ := hrel
    by_cases hlt : p < s.size
    · have hw := wid_pos s p
      have hwl := wid_le s p hlt
      obtain ⟨f, rfl⟩ : ∃ g, f = g + 1 := ⟨f - 1, by omega⟩
      have HB := Lib.hid (bad_sgv s p)
      have HY : Hid (bad s p (sig s p) = true → wrongR s = (p : Int)) := fun h => by
        have e := HS.out
        rw [wrongF, if_pos hlt, if_pos h] at e
        exact e.symm
      have HN : Hid (bad s p (sig s p) = false → wrongF s f (p + wid s p) = wrongR s) := fun h => by
        have e := HS.out
        rw [wrongF, if_pos hlt, if_neg (by rw [h]; simp)] at e
        exact e
      by_cases h1 : sgv s p ≤ 0
      · have hb : Hid (bad s p (sig s p) = true) := by show _ = _; rw [HB.out]; simp [h1]
        go_wp2_with (go_at_call 38; refine (refsign_any s a cap p w hs hlt Ht.out).mono ?_; rintro e w' ⟨rfl, rfl⟩)
        go_ret
        rw [HY.out hb.out]
        exact ⟨rfl, rfl⟩
      · by_cases h2 : sgv s p = 65279
        · have e2 : (sgv s p == 65279) = true := by simp [h2]
          by_cases h0 : 0 < p
          · have hb : Hid (bad s p (sig s p) = true) := by show _ = _; rw [HB.out]; simp [h2, h0]
            have d : (0 : Int) < p := by omega
            clear h2
            go_wp2_with (go_at_call 38; refine (refsign_any s a cap p w hs hlt Ht.out).mono ?_; rintro e w' ⟨rfl, rfl⟩)
            go_ret
            rw [HY.out hb.out]
            exact ⟨rfl, rfl⟩
          · have hb : Hid (bad s p (sig s p) = false) := by show _ = _; rw [HB.out]; simp [h2, h0]
            have d : ¬ (0 : Int) < p := by omega
            clear h2
            go_wp2_with (go_at_call 38; refine (refsign_any s a cap p w hs hlt Ht.out).mono ?_; rintro e w' ⟨rfl, rfl⟩)
            go_round
            case rel => exact ⟨p + wid s p, f, by go_num, hwl, by omega, HN.out hb.out⟩
            case measure => simp [intOf]; omega
        · have hb : Hid (bad s p (sig s p) = false) := by show _ = _; rw [HB.out]; simp [h1, h2]
          have e2 : (sgv s p == 65279) = false := beq_eq_false_iff_ne.2 h2
          clear h2
          go_wp2_with (go_at_call 38; refine (refsign_any s a cap p w hs hlt Ht.out).mono ?_; rintro e w' ⟨rfl, rfl⟩)
          go_round
          case rel => exact ⟨p + wid s p, f, by go_num, hwl, by omega, HN.out hb.out⟩
          case measure => simp [intOf]; omega
    · have HE : Hid (wrongR s = -1) := by
        show _ = _
        rw [← HS.out]
        cases f with
        | zero => rfl
        | succ f => rw [wrongF, if_neg hlt]
      go_wp2
      go_ret
      rw [HE.out]
      exact ⟨rfl, rfl⟩
end Go.Proofs.YtijinpnbhnfiiaaDoor
