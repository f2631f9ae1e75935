/- TagBrackets: brackets round a constraint, and blanks round it, change nothing. -/
import Derived.Test.YtojdhlmmnhjolaaDoorTag20
import Derived.Test.YtojdhlmmnhjolaaDoorTagB
import Derived.Laws.Concat
namespace Go.Proofs.YtojdhlmmnhjolaaDoor
open Go.RowKit
set_option linter.unusedVariables false

theorem ls_app3 (a b : ByteArray) : ls (a ++ b) = ls a ++ ls b := by
  unfold ls
  rw [ByteArray.data_append, Array.toList_append]
theorem read_brackets {s : ByteArray} {x : Ex} (hs : s.size ≤ 490) (h : readM s = some x) : readM (⟨#[32, 40, 9]⟩ ++ s ++ ⟨#[32, 41, 32]⟩) = some x := by
  unfold readM at h ⊢
  rw [if_neg (by omega)] at h
  rw [if_neg (by rw [ByteArray.size_append, ByteArray.size_append]; show ¬ 500 < 3 + s.size + 3; omega)]
  have e : ls (⟨#[32, 40, 9]⟩ ++ s ++ ⟨#[32, 41, 32]⟩) = [32, 40, 9] ++ ls s ++ endL := by rw [ls_app3, ls_app3]; rfl
  rw [e]
  exact whole_brackets h
theorem write_bnd {s : ByteArray} {x : Ex} (h : readM s = some x) : (writeM x).length ≤ 1000000 := by
  have := read_bnd h
  unfold writeM
  split
  · omega
  · exact Nat.zero_le _

set_option maxHeartbeats 1000000 in
set_option maxRecDepth 100000 in
theorem brackets_walk (s : ByteArray) (w : World) : Calls Tryd.prog 6 #[.string s] w fun e w' => e = .returned (.bool true) ∧ Below w.heap.size w w' := by
  by_cases hl : 490 < s.size
  · have g : decide ((490 : Int) < (s.size : Int)) = true := by simp; omega
    clear hl
    go_enter Tryd.func6, Tryd.ntmps6
    go_wp2
    go_ret
    exact ⟨rfl, Below.refl _ _⟩
  have g : decide ((490 : Int) < (s.size : Int)) = false := by simp; omega
  have HC : Hid (readC s = 8) := if_neg (by omega)
  have c1 := Read_any s w
  cases hr : readM s with
  | none =>
    rw [hr] at c1
    clear hr hl
    go_enter Tryd.func6, Tryd.ntmps6
    go_wp2_with fail
    refine c1.mono ?_
    rintro e w1 ⟨hb1, he⟩
    rw [HC.out] at he
    obtain rfl : e = _ := he
    have HB1 := Lib.hid (hb1.trans ((((Below.refl w1.heap.size w1).alloc (Nat.le_refl _) (.cells #[.string ⟨#[]⟩, .string ⟨#[]⟩, .slice none 0 0] 29))).mono hb1.size))
    clear hb1 c1
    go_wp2_with fail
    refine (awake_any _).mono ?_
    rintro e w2 ⟨rfl, hb2⟩
    go_wp2
    go_ret
    exact ⟨rfl, HB1.out.trans (hb2.mono HB1.out.size)⟩
  | some x =>
    rw [hr] at c1
    obtain ⟨o, t, k⟩ := x
    have r2 := read_brackets (by omega) hr
    have HBN := Lib.hid (write_bnd hr)
    have HSM := Lib.hid (readM_small hr)
    have K1 := fun w => run_string_add_sum (P := Tryd.prog) w ⟨#[32, 40, 9]⟩ s (by show 3 + s.size ≤ _; omega)
    have K2 := fun w => run_string_add_sum (P := Tryd.prog) w (⟨#[32, 40, 9]⟩ ++ s) ⟨#[32, 41, 32]⟩ (by rw [ByteArray.size_append]; show 3 + s.size + 3 ≤ _; omega)
    have c2 := fun w => Read_any (⟨#[32, 40, 9]⟩ ++ s ++ ⟨#[32, 41, 32]⟩) w
    rw [r2] at c2
    clear hr hl r2
    generalize ⟨#[32, 40, 9]⟩ ++ s ++ ⟨#[32, 41, 32]⟩ = s2 at *
    go_enter Tryd.func6, Tryd.ntmps6
    go_wp2_with fail
    refine c1.mono ?_
    rintro e w1 ⟨hb1, v1, rfl, hx1⟩
    rw [ExtAt_eq] at hx1
    obtain ⟨a1, cap1, rfl, hl1⟩ := hx1
    have HB1 := Lib.hid hb1
    have HL1 := Lib.hid hl1
    clear hb1 hl1 c1
    go_wp2_with fail
    refine (c2 _).mono ?_
    rintro e w2 ⟨hb2, v2, rfl, hx2⟩
    rw [ExtAt_eq] at hx2
    obtain ⟨a2, cap2, rfl, hl2⟩ := hx2
    have hs2 := hb2.size
    rw [World.size_alloc] at hs2
    have hb1a := (Below.refl w1.heap.size w1).alloc (Nat.le_refl _) (.cells #[.string o, .string t, .slice a1 k.length cap1] 29)
    have hb2a := (Below.refl w2.heap.size w2).alloc (Nat.le_refl _) (.cells #[.string o, .string t, .slice a2 k.length cap2] 29)
    have q1 := (heap_alloc_old w2 (.cells #[.string o, .string t, .slice a2 k.length cap2] 29) (by omega : w1.heap.size < w2.heap.size)).trans ((hb2.block _ (by simp)).trans (heap_alloc_new w1 (.cells #[.string o, .string t, .slice a1 k.length cap1] 29)))
    have q2 := heap_alloc_new w2 (.cells #[.string o, .string t, .slice a2 k.length cap2] 29)
    have hb12 := hb1a.trans (hb2.mono hb1a.size)
    have hbw := HB1.out.trans (hb12.mono HB1.out.size)
    have HBW := Lib.hid (hbw.trans (hb2a.mono hbw.size))
    have hx := (HL1.out.below hb12).below hb2a
    have hy := hl2.below hb2a
    obtain ⟨⟨x0, x1, x2⟩, -⟩ := three_cells q1
    obtain ⟨⟨y0, y1, y2⟩, -⟩ := three_cells q2
    obtain ⟨W, hWe⟩ : ∃ W, W = w2.alloc (.cells #[.string o, .string t, .slice a2 k.length cap2] 29) := ⟨_, rfl⟩
    rw [← hWe] at hx hy HBW x0 x1 x2 y0 y1 y2
    have HWE := Lib.hid hWe
    clear hWe
    have X0 := fun X : Kept W => Kept.cell x0 X
    have X1 := fun X : Kept W => Kept.cell x1 X
    have X2 := fun X : Kept W => Kept.cell x2 X
    have Y0 := fun X : Kept W => Kept.cell y0 X
    have Y1 := fun X : Kept W => Kept.cell y1 X
    have Y2 := fun X : Kept W => Kept.cell y2 X
    have cW1 := Lib.hid (fun X : Kept W => Write_any (.mk o t k) (.agg #[.string o, .string t, .slice a1 k.length cap1]) X.W _ HSM.out HBN.out (by rw [ExtAt_eq]; exact ⟨a1, cap1, rfl, hx.below X.h⟩))
    have cW2 := Lib.hid (fun X : Kept W => Write_any (.mk o t k) (.agg #[.string o, .string t, .slice a2 k.length cap2]) X.W _ HSM.out HBN.out (by rw [ExtAt_eq]; exact ⟨a2, cap2, rfl, hy.below X.h⟩))
    have cL1 := Lib.hid (fun X : Kept W => Least_any (.mk o t k) (.agg #[.string o, .string t, .slice a1 k.length cap1]) X.W _ HSM.out (by rw [ExtAt_eq]; exact ⟨a1, cap1, rfl, hx.below X.h⟩))
    have cL2 := Lib.hid (fun X : Kept W => Least_any (.mk o t k) (.agg #[.string o, .string t, .slice a2 k.length cap2]) X.W _ HSM.out (by rw [ExtAt_eq]; exact ⟨a2, cap2, rfl, hy.below X.h⟩))
    generalize (⟨(writeM (.mk o t k)).toArray⟩ : ByteArray) = wr at *
    generalize leastM (.mk o t k) = lst at *
    have hmx : Tryd.prog.follows .mixedOrders = true := by kernel_rfl
    clear q1 q2 hx hy hbw hb1a hb2a hb2 hl2 c2 hs2 hb12 x0 x1 x2 y0 y1 y2
    go_wp2_with fail
    rw [← HWE.out]
    refine wp_region_kept hmx (by kernel_rfl) ?_
    repeat (go_big_quiet_step (first | (go_at_call 16; exact kept_call (cW1.out _)) | (go_at_call 16; exact kept_call (cW2.out _)) | (go_at_call 15; exact kept_call (cL1.out _)) | (go_at_call 15; exact kept_call (cL2.out _)) | (go_at_call 17; exact kept_call (awake_any _))))
    refine wpQuiet_nil ?_
    rintro _ ⟨v0, rfl⟩
    have HV0 := Lib.hid (HBW.out.trans (v0.h.mono HBW.out.size))
    generalize v0.W = Z at *
    go_wp2
    go_ret
    exact ⟨rfl, HV0.out⟩
end Go.Proofs.YtojdhlmmnhjolaaDoor
