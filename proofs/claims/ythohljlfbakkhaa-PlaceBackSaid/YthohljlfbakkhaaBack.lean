/- The walk of demoticlaw01.PlaceBack: it returns true, and writes nothing that was there. -/
import Derived.Test.YthohljlfbakkhaaKept
namespace Go.Proofs.Ythohljlfbakkhaa
open Go.RowKit

theorem atR_bounds (s : ByteArray) (pl pc : Int) : -1 ≤ atR s pl pc ∧ atR s pl pc ≤ s.size := by
  rcases atR_of s pl pc with e | ⟨k, e, h, _⟩
  · rw [e]; omega
  · rw [e]; omega

set_option maxHeartbeats 400000 in
set_option maxRecDepth 100000 in
theorem back_walk (a0 : Option Addr) (cap0 : Nat) (s : ByteArray) (pl pc : Int) (w : World) (ht : Text w a0 s) :
    Calls Try.prog 4 #[.slice a0 s.size cap0, .int .i64 pl, .int .i64 pc] w fun e w' => e = .returned (.bool true) ∧ Below w.heap.size w w' := by
  by_cases hl : 300 < s.size
  · clear ht
    go_enter Try.func4, Try.ntmps4
    go_wp2
    go_ret
    exact ⟨rfl, Below.refl _ _⟩
  have hd : decide ((300 : Int) < (s.size : Int)) = false := by simp; omega
  have HT := Lib.hid ht
  clear ht
  go_enter Try.func4, Try.ntmps4
  go_wp2_with fail
  go_loopw [7] (fun t wr => ∃ k : Nat, t = .int .i64 k ∧ k ≤ s.size ∧ Hid ((st s k).1 = k) ∧ Hid (Text wr a0 s) ∧ Hid (Below w.heap.size w wr)) (fun t _ => s.size + 1 - (intOf t).toNat)
  case atStart => exact ⟨0, rfl, Nat.zero_le _, congrArg Prod.fst (seek_stop s 0 0 1 1 (by omega) _), HT.out, Below.refl _ _⟩
  case round =>
    obtain ⟨k, rfl, hk, HS, HT1, HB1⟩ := hrel
    clear HT
    have hle : (k : Int) ≤ (s.size : Int) := by omega
    go_wp2_with fail
    refine (of_any s a0 cap0 k _ (by omega) HT1.out).mono ?_
    rintro e w1 ⟨rfl, hb⟩
    have HT2 := Lib.hid (HT1.out.below hb)
    have HB2 := Lib.hid (HB1.out.trans (hb.mono HB1.out.size))
    have HA := Lib.hid (atR_back s k hk HS.out)
    clear hb HT1 HB1
    go_wp2_with fail
    refine (at_any s a0 cap0 (ofL s k) (ofC s k) _ (by omega) HT2.out).mono ?_
    rintro e w2 ⟨rfl, hb⟩
    rw [HA.out]
    have HT3 := Lib.hid (HT2.out.below hb)
    have HB3 := Lib.hid (HB2.out.trans (hb.mono HB2.out.size))
    clear hb HT2 HB2 HA
    by_cases hks : k = s.size
    · have he : ((k : Int) == (s.size : Int)) = true := by simp [hks]
      clear hks
      have hW := (Below.refl w2.heap.size w2).alloc (Nat.le_refl _) (.cells #[.int .i64 pl, .int .i64 pc] 26)
      have hC := two_cells (heap_alloc_new w2 (.cells #[.int .i64 pl, .int .i64 pc] 26))
      have HT4 := Lib.hid (HT3.out.below hW)
      have HB4 := Lib.hid (HB3.out.trans (hW.mono HB3.out.size))
      have HC := Lib.hid hC
      clear hW hC HT3 HB3
      go_wp2_with fail
      refine (at_any s a0 cap0 pl pc _ (by omega) HT4.out).mono ?_
      rintro e w3 ⟨rfl, hb⟩
      have HB5 := Lib.hid (HB4.out.trans (hb.mono HB4.out.size))
      have HT5 := Lib.hid (Kept.text (HT4.out.below hb))
      have c0 := Kept.cell ((hb.cell (p := ⟨w2.heap.size, 0, none⟩) (by simp)).trans HC.out.1)
      have c1 := Kept.cell ((hb.cell (p := ⟨w2.heap.size, 1, none⟩) (by simp)).trans HC.out.2.1)
      clear hb HT4 HB4 HC
      rcases atR_of s pl pc with ha | ⟨n, ha, hn, hpl, hpc⟩
      · rw [ha]
        clear ha
        go_wp2_with fail
        refine wp_region_kept (by kernel_rfl) (by kernel_rfl) ?_
        repeat (go_big_quiet_step ((go_at_call 10; exact kept_call (awake_any _))))
        refine wpQuiet_nil ?_
        rintro _ ⟨v, rfl⟩
        go_wp2
        go_ret
        exact ⟨rfl, HB5.out.trans (v.h.mono HB5.out.size)⟩
      · rw [ha]
        have HO : ∀ v : Kept w3, Hid (Calls Try.prog 9 #[.slice a0 s.size cap0, .int .i64 n] v.W fun e w' => e = .returned (.agg #[.int .i64 pl, .int .i64 pc]) ∧ Below v.W.heap.size v.W w') := fun v => by
          have := of_any s a0 cap0 n v.W (by omega) (HT5.out v)
          rw [hpl, hpc] at this
          exact this
        clear ha hpl hpc
        have g1 : ((n : Int) == -1) = false := beq_eq_false_iff_ne.2 (by omega)
        have g2 : (0 : Int) ≤ n := by omega
        have g3 : (n : Int) ≤ (s.size : Int) := by omega
        go_wp2_with fail
        refine wp_region_kept (by kernel_rfl) (by kernel_rfl) ?_
        repeat (go_big_quiet_step (first | (go_at_call 9; exact kept_call (HO _).out) | (go_at_call 10; exact kept_call (awake_any _))))
        refine wpQuiet_nil ?_
        rintro _ ⟨v, rfl⟩
        go_wp2
        go_ret
        exact ⟨rfl, HB5.out.trans (v.h.mono HB5.out.size)⟩
    · have he : ((k : Int) == (s.size : Int)) = false := by simp; omega
      have hlt : k < s.size := by omega
      have hw := wid_pos s k
      have hwl := wid_le s k hlt
      have HN := Lib.hid (st_next s k hlt HS.out)
      clear hks
      go_wp2_with (go_at_call 12; refine (sign_any s a0 cap0 k _ (by omega) hlt HT3.out).mono ?_; rintro e w' ⟨rfl, rfl⟩)
      go_roundw
      case rel => exact ⟨k + wid s k, by go_num, hwl, HN.out, HT3.out, HB3.out⟩
      case measure => simp [intOf]; omega
end Go.Proofs.Ythohljlfbakkhaa
