/- The walk of demoticlaw01.PlaceRises: it returns true, and writes nothing that was there. -/
import Derived.Test.YthohljlfbakkhaaKept
namespace Go.Proofs.Ythohljlfbakkhaa
open Go.RowKit

theorem rises_facts (s : ByteArray) (k m : Nat) (hkm : k ≤ m) (hm : m ≤ s.size) :
    (ofL s k < ofL s m ∨ ofL s k = ofL s m ∧ ofC s k ≤ ofC s m) ∧ ofL s m ≤ nl s + 1 ∧ 1 ≤ ofL s k ∧ 1 ≤ ofC s k := by
  have e1 : ofL s k = (st s k).2.1 := by unfold ofL; rw [if_neg (by omega), Int.toNat_natCast]
  have e2 : ofC s k = (st s k).2.2 := by unfold ofC; rw [if_neg (by omega), Int.toNat_natCast]
  have e3 : ofL s m = (st s m).2.1 := by unfold ofL; rw [if_neg (by omega), Int.toNat_natCast]
  have e4 : ofC s m = (st s m).2.2 := by unfold ofC; rw [if_neg (by omega), Int.toNat_natCast]
  rw [e1, e2, e3, e4]
  have h1 := st_rises s k m hkm
  have h2 := st_rises s m s.size hm
  have h3 := st_bounds s k
  rw [st_lines] at h2
  omega

set_option maxHeartbeats 400000 in
set_option maxRecDepth 100000 in
theorem rises_walk (a0 : Option Addr) (cap0 : Nat) (s : ByteArray) (i j : Int) (w : World) (ht : Text w a0 s) (hi0 : 0 ≤ i) (hi1 : i ≤ 65535) (hj0 : 0 ≤ j) (hj1 : j ≤ 65535) :
    Calls Try.prog 5 #[.slice a0 s.size cap0, .int .u16 i, .int .u16 j] w fun e w' => e = .returned (.bool true) ∧ Below w.heap.size w w' := by
  by_cases hl : 300 < s.size
  · clear ht
    go_enter Try.func5, Try.ntmps5
    go_wp2
    go_ret
    exact ⟨rfl, Below.refl _ _⟩
  have HT := Lib.hid ht
  clear ht
  go_enter Try.func5, Try.ntmps5
  go_wp2_with fail
  go_quiet (fail)
  go_wp2_with fail
  have hx0 := Int.emod_nonneg i (show (s.size : Int) + 1 ≠ 0 by omega)
  have hx1 := Int.emod_lt_of_pos i (show (0 : Int) < (s.size : Int) + 1 by omega)
  have hy0 := Int.emod_nonneg j (show (s.size : Int) + 1 ≠ 0 by omega)
  have hy1 := Int.emod_lt_of_pos j (show (0 : Int) < (s.size : Int) + 1 by omega)
  generalize i % ((s.size : Int) + 1) = x at *
  generalize j % ((s.size : Int) + 1) = y at *
  clear hi0 hi1 hj0 hj1
  obtain ⟨k, m, hk, hm, hkm, hms⟩ : ∃ k m : Nat, Hid (min x y = k) ∧ Hid (max x y = m) ∧ k ≤ m ∧ m ≤ s.size := ⟨(min x y).toNat, (max x y).toNat, by show _ = _; omega, by show _ = _; omega, by omega, by omega⟩
  clear hx0 hx1 hy0 hy1
  rw [hk.out]
  have HT1 := Lib.hid (HT.out.below (show Below w.heap.size w (w.drewN nq) from below_drewN (Below.refl _ w) nq))
  refine (of_any s a0 cap0 k _ (by omega) HT1.out).mono ?_
  rintro e w1 ⟨rfl, hb⟩
  have HB1 := Lib.hid ((below_drewN (Below.refl _ w) nq).trans hb)
  have HT2 := Lib.hid (HT1.out.below hb)
  clear hb HT1 HT
  go_wp2_with fail
  rw [hm.out]
  refine (of_any s a0 cap0 m _ (by omega) HT2.out).mono ?_
  rintro e w2 ⟨rfl, hb⟩
  have HB2 := Lib.hid (HB1.out.trans (hb.mono HB1.out.size))
  have HT3 := Lib.hid (HT2.out.below hb)
  obtain ⟨hr, hml, hk1, hk2⟩ := rises_facts s k m hkm hms
  generalize ofL s k = lk at *
  generalize ofC s k = ck at *
  generalize ofL s m = lm at *
  generalize ofC s m = cm at *
  clear hb HB1 HT2 hk hm hkm hms
  go_wp2_with fail
  have hW := ((Below.refl w2.heap.size w2).alloc (Nat.le_refl _) (.cells #[.int .i64 lk, .int .i64 ck] 26)).alloc (by simp) (.cells #[.int .i64 lm, .int .i64 cm] 26)
  have q1 : ((w2.alloc (.cells #[.int .i64 lk, .int .i64 ck] 26)).alloc (.cells #[.int .i64 lm, .int .i64 cm] 26)).heap[w2.heap.size]? = some (.cells #[.int .i64 lk, .int .i64 ck] 26 (0, 0)) := by
    rw [Below.heap_alloc _ _ _ (by simp)]; exact heap_alloc_new _ _
  have q2 : ((w2.alloc (.cells #[.int .i64 lk, .int .i64 ck] 26)).alloc (.cells #[.int .i64 lm, .int .i64 cm] 26)).heap[w2.heap.size + 1]? = some (.cells #[.int .i64 lm, .int .i64 cm] 26 (0, 0)) := by
    have h := heap_alloc_new (w2.alloc (.cells #[.int .i64 lk, .int .i64 ck] 26)) (.cells #[.int .i64 lm, .int .i64 cm] 26)
    rw [World.size_alloc] at h; exact h
  have c0 := Kept.cell (two_cells q1).1
  have c1 := Kept.cell (two_cells q1).2.1
  have c2 := Kept.cell (two_cells q2).1
  have c3 := Kept.cell (two_cells q2).2.1
  have HK := Lib.hid (Kept.text (HT3.out.below hW))
  have HB := Lib.hid (HB2.out.trans (hW.mono HB2.out.size))
  have d1 : (lm : Int) ≤ (nl s : Int) + 1 := by omega
  have d2 : (1 : Int) ≤ lk := by omega
  have d3 : (1 : Int) ≤ ck := by omega
  clear hW q1 q2 HT3 HB2
  rcases hr with hlt | ⟨rfl, hle⟩
  · refine wp_region_kept (by kernel_rfl) (by kernel_rfl) ?_
    repeat (go_big_quiet_step (first | (go_at_call 13; exact kept_call (lines_any s a0 cap0 _ (by omega) (HK.out _))) | (go_at_call 10; exact kept_call (awake_any _))))
    refine wpQuiet_nil ?_
    rintro _ ⟨v, rfl⟩
    go_wp2
    go_ret
    exact ⟨rfl, HB.out.trans (v.h.mono HB.out.size)⟩
  · refine wp_region_kept (by kernel_rfl) (by kernel_rfl) ?_
    repeat (go_big_quiet_step (first | (go_at_call 13; exact kept_call (lines_any s a0 cap0 _ (by omega) (HK.out _))) | (go_at_call 10; exact kept_call (awake_any _))))
    refine wpQuiet_nil ?_
    rintro _ ⟨v, rfl⟩
    go_wp2
    go_ret
    exact ⟨rfl, HB.out.trans (v.h.mono HB.out.size)⟩
end Go.Proofs.Ythohljlfbakkhaa
