/- The walk of demoticlaw01.PlaceEnds: it returns true, and writes nothing that was there. -/
import Derived.Test.YthohljlfbakkhaaKept
namespace Go.Proofs.Ythohljlfbakkhaa
open Go.RowKit

theorem of_no (s : ByteArray) (a : Option Addr) (cap : Nat) (n : Int) (w : World) (hs : s.size ≤ 1000000) (ht : Text w a s) (h : n < 0 ∨ (s.size : Int) < n) :
    Calls Try.prog 9 #[.slice a s.size cap, .int .i64 n] w fun e w' => e = .returned (.agg #[.int .i64 0, .int .i64 0]) ∧ Below w.heap.size w w' := by
  have := of_any s a cap n w hs ht
  rw [(of_none s n h).1, (of_none s n h).2] at this
  exact this
theorem of_end (s : ByteArray) (a : Option Addr) (cap : Nat) (w : World) (hs : s.size ≤ 1000000) (ht : Text w a s) :
    Calls Try.prog 9 #[.slice a s.size cap, .int .i64 s.size] w fun e w' => (∃ c : Nat, e = .returned (.agg #[.int .i64 (nl s + 1 : Nat), .int .i64 c])) ∧ Below w.heap.size w w' := by
  refine (of_any s a cap s.size w hs ht).mono ?_
  rintro e w' ⟨rfl, h⟩
  rw [ofL_end]
  exact ⟨⟨_, rfl⟩, h⟩
theorem of_zero (s : ByteArray) (a : Option Addr) (cap : Nat) (w : World) (hs : s.size ≤ 1000000) (ht : Text w a s) :
    Calls Try.prog 9 #[.slice a s.size cap, .int .i64 0] w fun e w' => e = .returned (.agg #[.int .i64 1, .int .i64 1]) ∧ Below w.heap.size w w' := by
  have := of_any s a cap 0 w hs ht
  rw [(of_0 s).1, (of_0 s).2] at this
  exact this
theorem at_no (s : ByteArray) (a : Option Addr) (cap : Nat) (w : World) (hs : s.size ≤ 1000000) (ht : Text w a s) :
    Calls Try.prog 11 #[.slice a s.size cap, .agg #[.int .i64 0, .int .i64 0]] w fun e w' => e = .returned (.int .i64 (-1)) ∧ Below w.heap.size w w' := by
  have := at_any s a cap 0 0 w hs ht
  rw [atR_none] at this
  exact this

set_option maxHeartbeats 400000 in
set_option maxRecDepth 100000 in
theorem ends_walk (a0 : Option Addr) (cap0 : Nat) (s : ByteArray) (a1 : Int) (w : World) (ht : Text w a0 s) :
    Calls Try.prog 7 #[.slice a0 s.size cap0, .int .i64 a1] w fun e w' => e = .returned (.bool true) ∧ Below w.heap.size w w' := by
  by_cases hl : 300 < s.size
  · clear ht
    go_enter Try.func7, Try.ntmps7
    go_wp2
    go_ret
    exact ⟨rfl, Below.refl _ _⟩
  have hB := (Below.refl w.heap.size w).alloc (Nat.le_refl _) (.cells #[.int .i64 0, .int .i64 0] 26)
  have hC := two_cells (heap_alloc_new w (.cells #[.int .i64 0, .int .i64 0] 26))
  have HT := Lib.hid (Kept.text (ht.below hB))
  have HB := Lib.hid hB
  have hf0 := field_0
  have c0 := Kept.cell hC.1
  have c1 := Kept.cell hC.2.1
  clear ht hB hC
  have h3 : (a1 < 0 ∧ decide (a1 < 0) = true) ∨ ((0 ≤ a1 ∧ (s.size : Int) < a1) ∧ decide (a1 < 0) = false ∧ decide ((s.size : Int) < a1) = true) ∨ ((0 ≤ a1 ∧ a1 ≤ (s.size : Int)) ∧ decide (a1 < 0) = false ∧ decide ((s.size : Int) < a1) = false) := by
    simp only [decide_eq_true_eq, decide_eq_false_iff_not]; omega
  rcases h3 with ⟨h0, hd⟩ | ⟨⟨h0, h1⟩, hd, hd2⟩ | ⟨⟨h0, h1⟩, hd, hd2⟩
  all_goals
    go_enter Try.func7, Try.ntmps7
    go_wp2_with fail
    refine wp_region_kept (by kernel_rfl) (by kernel_rfl) ?_
    repeat (go_big_quiet_step ((go_at_call 9; exact kept_call (of_no s a0 cap0 a1 _ (by omega) (HT.out _) (by omega)))))
    refine wpQuiet_nil ?_
    rintro _ ⟨x, rfl⟩
    have HT1 := Lib.hid (HT.out x)
    have HB1 := Lib.hid (HB.out.trans (x.h.mono HB.out.size))
    have d0 := c0 x
    have d1 := c1 x
    have hlt : w.heap.size < x.W.heap.size := Nat.lt_of_lt_of_le (by simp) x.h.size
    generalize x.W = w1 at *
    clear x c0 c1 HT HB
    go_wp2_with fail
    refine (of_end s a0 cap0 w1 (by omega) HT1.out).mono ?_
    rintro e w2 ⟨⟨c, rfl⟩, hb⟩
    have HT2 := Lib.hid (HT1.out.below hb)
    have HB2 := Lib.hid (HB1.out.trans (hb.mono HB1.out.size))
    have e0 := (hb.cell (p := ⟨w.heap.size, 0, none⟩) hlt).trans d0
    have e1 := (hb.cell (p := ⟨w.heap.size, 1, none⟩) hlt).trans d1
    have hlt2 := Nat.lt_of_lt_of_le hlt hb.size
    clear HT1 HB1 d0 d1 hb
    go_wp2_with fail
    refine (lines_any s a0 cap0 w2 (by omega) HT2.out).mono ?_
    rintro e w3 ⟨rfl, hb⟩
    have HT3 := Lib.hid (HT2.out.below hb)
    have HB3 := Lib.hid (HB2.out.trans (hb.mono HB2.out.size))
    have f0 := (hb.cell (p := ⟨w.heap.size, 0, none⟩) hlt2).trans e0
    have f1 := (hb.cell (p := ⟨w.heap.size, 1, none⟩) hlt2).trans e1
    have hlt3 := Nat.lt_of_lt_of_le hlt2 hb.size
    clear HT2 HB2 e0 e1 hb
    go_wp2_with fail
    refine (of_zero s a0 cap0 w3 (by omega) HT3.out).mono ?_
    rintro e w4 ⟨rfl, hb⟩
    have HT4 := Lib.hid (HT3.out.below hb)
    have HB4 := Lib.hid (HB3.out.trans (hb.mono HB3.out.size))
    have g0 := (hb.cell (p := ⟨w.heap.size, 0, none⟩) hlt3).trans f0
    have g1 := (hb.cell (p := ⟨w.heap.size, 1, none⟩) hlt3).trans f1
    clear HT3 HB3 f0 f1 hb
    go_wp2_with fail
    refine (at_no s a0 cap0 w4 (by omega) HT4.out).mono ?_
    rintro e w5 ⟨rfl, hb⟩
    have HB5 := Lib.hid (HB4.out.trans (hb.mono HB4.out.size))
    clear HT4 HB4 g0 g1 hb
    go_wp2_with fail
    refine (awake_any w5).mono ?_
    rintro e w6 ⟨rfl, hb⟩
    have HB6 := Lib.hid (HB5.out.trans (hb.mono HB5.out.size))
    clear HB5 hb
    go_wp2
    go_ret
    exact ⟨rfl, HB6.out⟩
end Go.Proofs.Ythohljlfbakkhaa
