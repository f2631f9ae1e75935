/- The reference's Of tells the same line and column as the plain walk. -/
import Derived.Test.YthohljlfbakkhaaSgn
namespace Go.Proofs.Ythohljlfbakkhaa
open Go.RowKit

theorem sgv_10 (s : ByteArray) (p : Nat) : (sgv s p == 10) = decide (sig s p = 10) := by
  unfold sgv
  by_cases h : sig s p = 65533 ∧ wid s p = 1
  · rw [if_pos h]; simp [h.1]
  · rw [if_neg h]
    by_cases h2 : sig s p = 10
    · rw [h2]; rfl
    · simp [h2]; omega

theorem refOf_any (s : ByteArray) (a : Option Addr) (cap : Nat) (at' : Int) (w : World) (hs : s.size ≤ 1000000) (ht : Text w a s) :
    Calls Try.prog 8 #[.slice a s.size cap, .int .i64 at'] w
      fun e w' => e = .returned (.tuple #[.int .i64 (ofL s at'), .int .i64 (ofC s at')]) ∧ w = w' := by
  have Ht := Lib.hid ht
  clear ht
  by_cases h0 : at' < 0
  · have E1 : Hid (ofL s at' = 0) := by show _ = _; unfold ofL; rw [if_pos (.inl h0)]
    have E2 : Hid (ofC s at' = 0) := by show _ = _; unfold ofC; rw [if_pos (.inl h0)]
    go_enter Try.func8, Try.ntmps8
    go_wp2
    go_ret2
    rw [E1.out, E2.out]
    exact ⟨rfl, rfl⟩
  by_cases h1 : (s.size : Int) < at'
  · have E1 : Hid (ofL s at' = 0) := by show _ = _; unfold ofL; rw [if_pos (.inr h1)]
    have E2 : Hid (ofC s at' = 0) := by show _ = _; unfold ofC; rw [if_pos (.inr h1)]
    go_enter Try.func8, Try.ntmps8
    go_wp2
    go_ret2
    rw [E1.out, E2.out]
    exact ⟨rfl, rfl⟩
  obtain ⟨k, rfl⟩ : ∃ k : Nat, at' = k := ⟨at'.toNat, by omega⟩
  have E1 : Hid (ofL s k = (st s k).2.1) := by show _ = _; unfold ofL; rw [if_neg (by omega), Int.toNat_natCast]
  have E2 : Hid (ofC s k = (st s k).2.2) := by show _ = _; unfold ofC; rw [if_neg (by omega), Int.toNat_natCast]
  have h1' : k ≤ s.size := by omega
  have hd0 : decide ((k : Int) < 0) = false := by simp
  have hd1 : decide (s.size < k) = false := by simp; omega
  clear h0 h1
  go_enter Try.func8, Try.ntmps8
  go_wp2
  go_loop [6, 7, 8] (fun tl tc tp => ∃ p l c f : Nat, tp = .int .i64 p ∧ tl = .int .i64 l ∧ tc = .int .i64 c ∧ p ≤ s.size ∧ s.size ≤ p + f ∧ l ≤ p + 1 ∧ c ≤ p + 1 ∧ Hid (seek s k f p l c = st s k)) (fun _ _ tp => s.size - (intOf tp).toNat)
  case atStart => exact ⟨0, 1, 1, s.size, rfl, rfl, rfl, Nat.zero_le _, by omega, by omega, by omega, rfl⟩
  case round =>
    obtain ⟨p, l, c, f, rfl, rfl, rfl, hp, hf, hl, hc, HS⟩ := hrel
    by_cases hlt : p < k
    · have hw := wid_pos s p
      have hwl := wid_le s p (by omega)
      have H10 := Lib.hid (sgv_10 s p)
      have HS2 : Hid (seek s k (f - 1) (p + wid s p) (lineN s p l) (colN s p c) = st s k) := by
        show _ = _
        rw [← HS.out, ← seek_step s k p l c (by omega) hlt f (f - 1) hf (by omega)]
      by_cases h10 : sig s p = 10
      · have hv : (sgv s p == 10) = true := by rw [H10.out]; simp [h10]
        have H1 := Lib.hid h10
        clear h10
        go_wp2_with (go_at_call 12; refine (sign_any s a cap p w hs (by omega) Ht.out).mono ?_; rintro e w' ⟨rfl, rfl⟩)
        go_round
        case rel =>
          refine ⟨p + wid s p, l + 1, 1, f - 1, by go_num, by go_num, rfl, by omega, by omega, by omega, by omega, ?_⟩
          have e := HS2.out
          rw [lineN, colN, if_pos H1.out, if_pos H1.out] at e
          exact e
        case measure => simp [intOf]; omega
      · have hv : (sgv s p == 10) = false := by rw [H10.out]; simp [h10]
        have H1 := Lib.hid h10
        clear h10
        go_wp2_with (go_at_call 12; refine (sign_any s a cap p w hs (by omega) Ht.out).mono ?_; rintro e w' ⟨rfl, rfl⟩)
        go_round
        case rel =>
          refine ⟨p + wid s p, l, c + 1, f - 1, by go_num, rfl, by go_num, by omega, by omega, by omega, by omega, ?_⟩
          have e := HS2.out
          rw [lineN, colN, if_neg H1.out, if_neg H1.out] at e
          exact e
        case measure => simp [intOf]; omega
    · go_wp2
      go_ret2
      have e := HS.out
      rw [seek_stop s k p l c (by omega)] at e
      rw [E1.out, E2.out, ← e]
      exact ⟨rfl, rfl⟩
end Go.Proofs.Ythohljlfbakkhaa
