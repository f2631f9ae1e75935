/- package tag: awake: what the two texts of the chapter are. -/
import Derived.Test.YtojdhlmmnhjolaaDoorTag19
import Derived.Test.YtojdhlmmnhjolaaDoorTag14
namespace Go.Proofs.YtojdhlmmnhjolaaDoor
open Go.RowKit
set_option linter.unusedVariables false

def exA : Ex := .mk ⟨#[38, 38]⟩ ⟨#[]⟩ [.mk ⟨#[]⟩ ⟨#[103, 111, 49, 46, 50, 49]⟩ [], .mk ⟨#[33]⟩ ⟨#[]⟩ [.mk ⟨#[]⟩ ⟨#[120]⟩ []]]
def exB : Ex := .mk ⟨#[124, 124]⟩ ⟨#[]⟩ [.mk ⟨#[]⟩ ⟨#[97]⟩ [], .mk ⟨#[]⟩ ⟨#[103, 111, 49, 46, 49, 56]⟩ []]
theorem read_a : readM ⟨#[103, 111, 49, 46, 50, 49, 32, 38, 38, 32, 33, 120]⟩ = some exA := by kernel_rfl
theorem read_b : readM ⟨#[97, 32, 124, 124, 32, 103, 111, 49, 46, 49, 56]⟩ = some exB := by kernel_rfl
theorem least_a : leastM exA = 21 := by kernel_rfl
theorem least_b : leastM exB = -1 := by kernel_rfl
theorem holds_a : holdsM (fun _ => false) exA = true := by kernel_rfl
theorem write_a : writeM exA = [103, 111, 49, 46, 50, 49, 32, 38, 38, 32, 33, 120] := by kernel_rfl
theorem tags_nil (w : World) : TagsOk (.slice none 0 0) (fun _ => false) w := fun W _ t _ => (Tryd.slices_Contains_string_empty none 0 t W).mono fun e w' h => ⟨h.1, by rw [h.2]; exact Below.refl _ _⟩
theorem small_a : Small exA := readM_small read_a
theorem small_b : Small exB := readM_small read_b

set_option maxHeartbeats 3000000 in
set_option maxRecDepth 100000 in
theorem awake_any (w : World) : Calls Tryd.prog 17 #[] w fun e w' => e = .returned (.bool true) ∧ Below w.heap.size w w' := by
  have c1 := Read_any ⟨#[103, 111, 49, 46, 50, 49, 32, 38, 38, 32, 33, 120]⟩ w
  rw [read_a] at c1
  go_enter Tryd.func17, Tryd.ntmps17
  go_wp2_with fail
  refine c1.mono ?_
  rintro e w1 ⟨hb1, v1, rfl, hx1⟩
  unfold exA at hx1
  rw [ExtAt_eq] at hx1
  obtain ⟨a1, cap1, rfl, hl1⟩ := hx1
  have HB1 := Lib.hid hb1
  have HL1 := Lib.hid hl1
  clear hb1 hl1 c1
  go_wp2_with fail
  have c2 := Read_any ⟨#[97, 32, 124, 124, 32, 103, 111, 49, 46, 49, 56]⟩ (w1.alloc (.cells #[.string ⟨#[38, 38]⟩, .string ⟨#[]⟩, .slice a1 2 cap1] 29))
  rw [read_b] at c2
  refine c2.mono ?_
  rintro e w2 ⟨hb2, v2, rfl, hx2⟩
  unfold exB at hx2
  rw [ExtAt_eq] at hx2
  obtain ⟨a2, cap2, rfl, hl2⟩ := hx2
  have hs2 := hb2.size
  rw [World.size_alloc] at hs2
  have hb1a := (Below.refl w1.heap.size w1).alloc (Nat.le_refl _) (.cells #[.string ⟨#[38, 38]⟩, .string ⟨#[]⟩, .slice a1 2 cap1] 29)
  have hb2a := (Below.refl w2.heap.size w2).alloc (Nat.le_refl _) (.cells #[.string ⟨#[124, 124]⟩, .string ⟨#[]⟩, .slice a2 2 cap2] 29)
  have q1 := (heap_alloc_old w2 (.cells #[.string ⟨#[124, 124]⟩, .string ⟨#[]⟩, .slice a2 2 cap2] 29) (by omega : w1.heap.size < w2.heap.size)).trans ((hb2.block _ (by simp)).trans (heap_alloc_new w1 (.cells #[.string ⟨#[38, 38]⟩, .string ⟨#[]⟩, .slice a1 2 cap1] 29)))
  have q2 := heap_alloc_new w2 (.cells #[.string ⟨#[124, 124]⟩, .string ⟨#[]⟩, .slice a2 2 cap2] 29)
  have hb12 := hb1a.trans (hb2.mono hb1a.size)
  have hbw := HB1.out.trans (hb12.mono HB1.out.size)
  have HBW := Lib.hid (hbw.trans (hb2a.mono hbw.size))
  have hx := (HL1.out.below hb12).below hb2a
  have hy := hl2.below hb2a
  obtain ⟨⟨x0, x1, x2⟩, -⟩ := three_cells q1
  obtain ⟨⟨y0, y1, y2⟩, -⟩ := three_cells q2
  obtain ⟨W, hWe⟩ : ∃ W, W = w2.alloc (.cells #[.string ⟨#[124, 124]⟩, .string ⟨#[]⟩, .slice a2 2 cap2] 29) := ⟨_, rfl⟩
  rw [← hWe] at hx hy q1 q2 HBW
  have HWE := Lib.hid hWe
  clear hWe
  have cA := Lib.hid (fun X (h : Below W.heap.size W X) => (by
    have k := Least_any exA (.agg #[.string ⟨#[38, 38]⟩, .string ⟨#[]⟩, .slice a1 2 cap1]) X _ small_a (by unfold exA; rw [ExtAt_eq]; exact ⟨a1, cap1, rfl, hx.below h⟩)
    rw [least_a] at k
    exact k : Calls Tryd.prog 15 #[.agg #[.string ⟨#[38, 38]⟩, .string ⟨#[]⟩, .slice a1 2 cap1]] X fun e w' => e = .returned (.int .i64 21) ∧ Below X.heap.size X w'))
  have cB := Lib.hid (fun X (h : Below W.heap.size W X) => (by
    have k := Least_any exB (.agg #[.string ⟨#[124, 124]⟩, .string ⟨#[]⟩, .slice a2 2 cap2]) X _ small_b (by unfold exB; rw [ExtAt_eq]; exact ⟨a2, cap2, rfl, hy.below h⟩)
    rw [least_b] at k
    exact k : Calls Tryd.prog 15 #[.agg #[.string ⟨#[124, 124]⟩, .string ⟨#[]⟩, .slice a2 2 cap2]] X fun e w' => e = .returned (.int .i64 (-1)) ∧ Below X.heap.size X w'))
  have cH := Lib.hid (fun X (h : Below W.heap.size W X) => (by
    have k := Holds_any exA (.agg #[.string ⟨#[38, 38]⟩, .string ⟨#[]⟩, .slice a1 2 cap1]) (.slice none 0 0) (fun _ => false) X _ small_a (by unfold exA; rw [ExtAt_eq]; exact ⟨a1, cap1, rfl, hx.below h⟩) (tags_nil X)
    rw [holds_a] at k
    exact k : Calls Tryd.prog 14 #[.agg #[.string ⟨#[38, 38]⟩, .string ⟨#[]⟩, .slice a1 2 cap1], .slice none 0 0] X fun e w' => e = .returned (.bool true) ∧ Below X.heap.size X w'))
  have cW := Lib.hid (fun X (h : Below W.heap.size W X) => (by
    have k := Write_any exA (.agg #[.string ⟨#[38, 38]⟩, .string ⟨#[]⟩, .slice a1 2 cap1]) X _ small_a (by rw [write_a]; decide) (by unfold exA; rw [ExtAt_eq]; exact ⟨a1, cap1, rfl, hx.below h⟩)
    rw [write_a] at k
    exact k : Calls Tryd.prog 16 #[.agg #[.string ⟨#[38, 38]⟩, .string ⟨#[]⟩, .slice a1 2 cap1]] X fun e w' => e = .returned (.string ⟨#[103, 111, 49, 46, 50, 49, 32, 38, 38, 32, 33, 120]⟩) ∧ Below X.heap.size X w'))
  have Q1 := Lib.hid q1
  have Q2 := Lib.hid q2
  clear q1 q2 hx hy hb12 hbw hb1a hb2a hb2 hl2 c2 hs2
  go_wp2_with fail
  rw [← HWE.out]
  clear x0 x1 x2 y0 y1 y2
  refine (cA.out _ (Below.refl _ _)).mono ?_
  rintro e w3 ⟨rfl, hb⟩
  have HK0 := Lib.hid (hb)
  obtain ⟨⟨x0, x1, x2⟩, -⟩ := three_cells ((HK0.out.block _ (lt_of_block Q1.out)).trans Q1.out)
  obtain ⟨⟨y0, y1, y2⟩, -⟩ := three_cells ((HK0.out.block _ (lt_of_block Q2.out)).trans Q2.out)
  clear hb
  go_wp2_with fail
  refine (cH.out _ HK0.out).mono ?_
  rintro e w4 ⟨rfl, hb⟩
  have HK1 := Lib.hid (HK0.out.trans (hb.mono HK0.out.size))
  obtain ⟨⟨x0, x1, x2⟩, -⟩ := three_cells ((HK1.out.block _ (lt_of_block Q1.out)).trans Q1.out)
  obtain ⟨⟨y0, y1, y2⟩, -⟩ := three_cells ((HK1.out.block _ (lt_of_block Q2.out)).trans Q2.out)
  clear hb
  go_wp2_with fail
  refine (cB.out _ HK1.out).mono ?_
  rintro e w5 ⟨rfl, hb⟩
  have HK2 := Lib.hid (HK1.out.trans (hb.mono HK1.out.size))
  obtain ⟨⟨x0, x1, x2⟩, -⟩ := three_cells ((HK2.out.block _ (lt_of_block Q1.out)).trans Q1.out)
  obtain ⟨⟨y0, y1, y2⟩, -⟩ := three_cells ((HK2.out.block _ (lt_of_block Q2.out)).trans Q2.out)
  clear hb
  go_wp2_with fail
  refine (cW.out _ HK2.out).mono ?_
  rintro e w6 ⟨rfl, hb⟩
  have HK3 := Lib.hid (HK2.out.trans (hb.mono HK2.out.size))
  obtain ⟨⟨x0, x1, x2⟩, -⟩ := three_cells ((HK3.out.block _ (lt_of_block Q1.out)).trans Q1.out)
  obtain ⟨⟨y0, y1, y2⟩, -⟩ := three_cells ((HK3.out.block _ (lt_of_block Q2.out)).trans Q2.out)
  clear hb
  go_wp2
  go_ret
  exact ⟨rfl, HBW.out.trans (HK3.out.mono HBW.out.size)⟩
end Go.Proofs.YtojdhlmmnhjolaaDoor
