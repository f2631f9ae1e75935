/- package tag: how a constraint is written within another one. -/
import Derived.Test.YtojdhlmmnhjolaaDoorTag16
import Derived.Test.YtojdhlmmnhjolaaDoorTagW
namespace Go.Proofs.YtojdhlmmnhjolaaDoor
open Go.RowKit
set_option linter.unusedVariables false

def WrittenOk (left : Nat) : Prop := ∀ (x : Ex) (v : Value) (w : World) (ok : Nat → Prop), rightE left x = true → Small x → (writtenE x).length ≤ 3000000 → ExtAt w ok x v → Calls Tryd.prog 28 #[v] w fun e w' => e = .returned (.string ⟨(writtenE x).toArray⟩) ∧ Below w.heap.size w w'
theorem paren_bytes (l : List UInt8) : (⟨#[40]⟩ ++ (⟨l.toArray⟩ : ByteArray)) ++ ⟨#[41]⟩ = ⟨(40 :: (l ++ [41])).toArray⟩ := by
  refine bl_inj ?_
  rw [Lib.toList_data]
  simp


set_option maxRecDepth 100000 in
theorem within_en (tag : ByteArray) (k : List Ex) (a : Option Addr) (cap : Nat) (left : Nat) (ih : WrittenOk left) (w : World) (ok : Nat → Prop) (hr : rightE left (.mk ⟨#[]⟩ tag k) = true) (hs : Small (.mk ⟨#[]⟩ tag k)) (hw : (withinL (.mk ⟨#[]⟩ tag k) (ls ⟨#[33]⟩)).length ≤ 3000000) (hl : ExtK w ok k a cap) :
    Calls Tryd.prog 34 #[.agg #[.string ⟨#[]⟩, .string tag, .slice a k.length cap], .string ⟨#[33]⟩] w fun e w' => e = .returned (.string ⟨(withinL (.mk ⟨#[]⟩ tag k) (ls ⟨#[33]⟩)).toArray⟩) ∧ Below w.heap.size w w' := by
  have hp : withinL (.mk ⟨#[]⟩ tag k) (ls ⟨#[33]⟩) = writtenE (.mk ⟨#[]⟩ tag k) := rfl
  rw [hp] at hw ⊢
  have hW1 := (Below.refl w.heap.size w).alloc (Nat.le_refl _) (.cells #[.string ⟨#[]⟩, .string tag, .slice a k.length cap] 29)
  have hq := heap_alloc_new w (.cells #[.string ⟨#[]⟩, .string tag, .slice a k.length cap] 29)
  obtain ⟨⟨d0, d1, d2⟩, -⟩ := three_cells hq
  have c1 := ih (.mk ⟨#[]⟩ tag k) (.agg #[.string ⟨#[]⟩, .string tag, .slice a k.length cap]) _ ok hr hs hw (by rw [ExtAt_eq]; exact ⟨a, cap, rfl, hl.below hW1⟩)
  have HW1 := Lib.hid hW1
  generalize writtenE (.mk ⟨#[]⟩ tag k) = t at *
  clear hW1 hq ih hr hs hw hl hp
  go_enter Tryd.func34, Tryd.ntmps34
  go_wp2_with fail
  refine c1.mono ?_
  rintro e w2 ⟨rfl, hb2⟩
  go_wp2
  go_ret
  exact ⟨rfl, HW1.out.trans (hb2.mono HW1.out.size)⟩


set_option maxRecDepth 100000 in
theorem within_ea (tag : ByteArray) (k : List Ex) (a : Option Addr) (cap : Nat) (left : Nat) (ih : WrittenOk left) (w : World) (ok : Nat → Prop) (hr : rightE left (.mk ⟨#[]⟩ tag k) = true) (hs : Small (.mk ⟨#[]⟩ tag k)) (hw : (withinL (.mk ⟨#[]⟩ tag k) (ls ⟨#[38, 38]⟩)).length ≤ 3000000) (hl : ExtK w ok k a cap) :
    Calls Tryd.prog 34 #[.agg #[.string ⟨#[]⟩, .string tag, .slice a k.length cap], .string ⟨#[38, 38]⟩] w fun e w' => e = .returned (.string ⟨(withinL (.mk ⟨#[]⟩ tag k) (ls ⟨#[38, 38]⟩)).toArray⟩) ∧ Below w.heap.size w w' := by
  have hp : withinL (.mk ⟨#[]⟩ tag k) (ls ⟨#[38, 38]⟩) = writtenE (.mk ⟨#[]⟩ tag k) := rfl
  rw [hp] at hw ⊢
  have hW1 := (Below.refl w.heap.size w).alloc (Nat.le_refl _) (.cells #[.string ⟨#[]⟩, .string tag, .slice a k.length cap] 29)
  have hq := heap_alloc_new w (.cells #[.string ⟨#[]⟩, .string tag, .slice a k.length cap] 29)
  obtain ⟨⟨d0, d1, d2⟩, -⟩ := three_cells hq
  have c1 := ih (.mk ⟨#[]⟩ tag k) (.agg #[.string ⟨#[]⟩, .string tag, .slice a k.length cap]) _ ok hr hs hw (by rw [ExtAt_eq]; exact ⟨a, cap, rfl, hl.below hW1⟩)
  have HW1 := Lib.hid hW1
  generalize writtenE (.mk ⟨#[]⟩ tag k) = t at *
  clear hW1 hq ih hr hs hw hl hp
  go_enter Tryd.func34, Tryd.ntmps34
  go_wp2_with fail
  refine c1.mono ?_
  rintro e w2 ⟨rfl, hb2⟩
  go_wp2
  go_ret
  exact ⟨rfl, HW1.out.trans (hb2.mono HW1.out.size)⟩


set_option maxRecDepth 100000 in
theorem within_eo (tag : ByteArray) (k : List Ex) (a : Option Addr) (cap : Nat) (left : Nat) (ih : WrittenOk left) (w : World) (ok : Nat → Prop) (hr : rightE left (.mk ⟨#[]⟩ tag k) = true) (hs : Small (.mk ⟨#[]⟩ tag k)) (hw : (withinL (.mk ⟨#[]⟩ tag k) (ls ⟨#[124, 124]⟩)).length ≤ 3000000) (hl : ExtK w ok k a cap) :
    Calls Tryd.prog 34 #[.agg #[.string ⟨#[]⟩, .string tag, .slice a k.length cap], .string ⟨#[124, 124]⟩] w fun e w' => e = .returned (.string ⟨(withinL (.mk ⟨#[]⟩ tag k) (ls ⟨#[124, 124]⟩)).toArray⟩) ∧ Below w.heap.size w w' := by
  have hp : withinL (.mk ⟨#[]⟩ tag k) (ls ⟨#[124, 124]⟩) = writtenE (.mk ⟨#[]⟩ tag k) := rfl
  rw [hp] at hw ⊢
  have hW1 := (Below.refl w.heap.size w).alloc (Nat.le_refl _) (.cells #[.string ⟨#[]⟩, .string tag, .slice a k.length cap] 29)
  have hq := heap_alloc_new w (.cells #[.string ⟨#[]⟩, .string tag, .slice a k.length cap] 29)
  obtain ⟨⟨d0, d1, d2⟩, -⟩ := three_cells hq
  have c1 := ih (.mk ⟨#[]⟩ tag k) (.agg #[.string ⟨#[]⟩, .string tag, .slice a k.length cap]) _ ok hr hs hw (by rw [ExtAt_eq]; exact ⟨a, cap, rfl, hl.below hW1⟩)
  have HW1 := Lib.hid hW1
  generalize writtenE (.mk ⟨#[]⟩ tag k) = t at *
  clear hW1 hq ih hr hs hw hl hp
  go_enter Tryd.func34, Tryd.ntmps34
  go_wp2_with fail
  refine c1.mono ?_
  rintro e w2 ⟨rfl, hb2⟩
  go_wp2
  go_ret
  exact ⟨rfl, HW1.out.trans (hb2.mono HW1.out.size)⟩


set_option maxRecDepth 100000 in
theorem within_nn (tag : ByteArray) (k : List Ex) (a : Option Addr) (cap : Nat) (left : Nat) (ih : WrittenOk left) (w : World) (ok : Nat → Prop) (hr : rightE left (.mk ⟨#[33]⟩ tag k) = true) (hs : Small (.mk ⟨#[33]⟩ tag k)) (hw : (withinL (.mk ⟨#[33]⟩ tag k) (ls ⟨#[33]⟩)).length ≤ 3000000) (hl : ExtK w ok k a cap) :
    Calls Tryd.prog 34 #[.agg #[.string ⟨#[33]⟩, .string tag, .slice a k.length cap], .string ⟨#[33]⟩] w fun e w' => e = .returned (.string ⟨(withinL (.mk ⟨#[33]⟩ tag k) (ls ⟨#[33]⟩)).toArray⟩) ∧ Below w.heap.size w w' := by
  have hp : withinL (.mk ⟨#[33]⟩ tag k) (ls ⟨#[33]⟩) = writtenE (.mk ⟨#[33]⟩ tag k) := rfl
  rw [hp] at hw ⊢
  have hW1 := (Below.refl w.heap.size w).alloc (Nat.le_refl _) (.cells #[.string ⟨#[33]⟩, .string tag, .slice a k.length cap] 29)
  have hq := heap_alloc_new w (.cells #[.string ⟨#[33]⟩, .string tag, .slice a k.length cap] 29)
  obtain ⟨⟨d0, d1, d2⟩, -⟩ := three_cells hq
  have c1 := ih (.mk ⟨#[33]⟩ tag k) (.agg #[.string ⟨#[33]⟩, .string tag, .slice a k.length cap]) _ ok hr hs hw (by rw [ExtAt_eq]; exact ⟨a, cap, rfl, hl.below hW1⟩)
  have HW1 := Lib.hid hW1
  generalize writtenE (.mk ⟨#[33]⟩ tag k) = t at *
  clear hW1 hq ih hr hs hw hl hp
  go_enter Tryd.func34, Tryd.ntmps34
  go_wp2_with fail
  refine c1.mono ?_
  rintro e w2 ⟨rfl, hb2⟩
  go_wp2
  go_ret
  exact ⟨rfl, HW1.out.trans (hb2.mono HW1.out.size)⟩


set_option maxRecDepth 100000 in
theorem within_na (tag : ByteArray) (k : List Ex) (a : Option Addr) (cap : Nat) (left : Nat) (ih : WrittenOk left) (w : World) (ok : Nat → Prop) (hr : rightE left (.mk ⟨#[33]⟩ tag k) = true) (hs : Small (.mk ⟨#[33]⟩ tag k)) (hw : (withinL (.mk ⟨#[33]⟩ tag k) (ls ⟨#[38, 38]⟩)).length ≤ 3000000) (hl : ExtK w ok k a cap) :
    Calls Tryd.prog 34 #[.agg #[.string ⟨#[33]⟩, .string tag, .slice a k.length cap], .string ⟨#[38, 38]⟩] w fun e w' => e = .returned (.string ⟨(withinL (.mk ⟨#[33]⟩ tag k) (ls ⟨#[38, 38]⟩)).toArray⟩) ∧ Below w.heap.size w w' := by
  have hp : withinL (.mk ⟨#[33]⟩ tag k) (ls ⟨#[38, 38]⟩) = writtenE (.mk ⟨#[33]⟩ tag k) := rfl
  rw [hp] at hw ⊢
  have hW1 := (Below.refl w.heap.size w).alloc (Nat.le_refl _) (.cells #[.string ⟨#[33]⟩, .string tag, .slice a k.length cap] 29)
  have hq := heap_alloc_new w (.cells #[.string ⟨#[33]⟩, .string tag, .slice a k.length cap] 29)
  obtain ⟨⟨d0, d1, d2⟩, -⟩ := three_cells hq
  have c1 := ih (.mk ⟨#[33]⟩ tag k) (.agg #[.string ⟨#[33]⟩, .string tag, .slice a k.length cap]) _ ok hr hs hw (by rw [ExtAt_eq]; exact ⟨a, cap, rfl, hl.below hW1⟩)
  have HW1 := Lib.hid hW1
  generalize writtenE (.mk ⟨#[33]⟩ tag k) = t at *
  clear hW1 hq ih hr hs hw hl hp
  go_enter Tryd.func34, Tryd.ntmps34
  go_wp2_with fail
  refine c1.mono ?_
  rintro e w2 ⟨rfl, hb2⟩
  go_wp2
  go_ret
  exact ⟨rfl, HW1.out.trans (hb2.mono HW1.out.size)⟩


set_option maxRecDepth 100000 in
theorem within_no (tag : ByteArray) (k : List Ex) (a : Option Addr) (cap : Nat) (left : Nat) (ih : WrittenOk left) (w : World) (ok : Nat → Prop) (hr : rightE left (.mk ⟨#[33]⟩ tag k) = true) (hs : Small (.mk ⟨#[33]⟩ tag k)) (hw : (withinL (.mk ⟨#[33]⟩ tag k) (ls ⟨#[124, 124]⟩)).length ≤ 3000000) (hl : ExtK w ok k a cap) :
    Calls Tryd.prog 34 #[.agg #[.string ⟨#[33]⟩, .string tag, .slice a k.length cap], .string ⟨#[124, 124]⟩] w fun e w' => e = .returned (.string ⟨(withinL (.mk ⟨#[33]⟩ tag k) (ls ⟨#[124, 124]⟩)).toArray⟩) ∧ Below w.heap.size w w' := by
  have hp : withinL (.mk ⟨#[33]⟩ tag k) (ls ⟨#[124, 124]⟩) = writtenE (.mk ⟨#[33]⟩ tag k) := rfl
  rw [hp] at hw ⊢
  have hW1 := (Below.refl w.heap.size w).alloc (Nat.le_refl _) (.cells #[.string ⟨#[33]⟩, .string tag, .slice a k.length cap] 29)
  have hq := heap_alloc_new w (.cells #[.string ⟨#[33]⟩, .string tag, .slice a k.length cap] 29)
  obtain ⟨⟨d0, d1, d2⟩, -⟩ := three_cells hq
  have c1 := ih (.mk ⟨#[33]⟩ tag k) (.agg #[.string ⟨#[33]⟩, .string tag, .slice a k.length cap]) _ ok hr hs hw (by rw [ExtAt_eq]; exact ⟨a, cap, rfl, hl.below hW1⟩)
  have HW1 := Lib.hid hW1
  generalize writtenE (.mk ⟨#[33]⟩ tag k) = t at *
  clear hW1 hq ih hr hs hw hl hp
  go_enter Tryd.func34, Tryd.ntmps34
  go_wp2_with fail
  refine c1.mono ?_
  rintro e w2 ⟨rfl, hb2⟩
  go_wp2
  go_ret
  exact ⟨rfl, HW1.out.trans (hb2.mono HW1.out.size)⟩


set_option maxRecDepth 100000 in
theorem within_an (tag : ByteArray) (k : List Ex) (a : Option Addr) (cap : Nat) (left : Nat) (ih : WrittenOk left) (w : World) (ok : Nat → Prop) (hr : rightE left (.mk ⟨#[38, 38]⟩ tag k) = true) (hs : Small (.mk ⟨#[38, 38]⟩ tag k)) (hw : (withinL (.mk ⟨#[38, 38]⟩ tag k) (ls ⟨#[33]⟩)).length ≤ 3000000) (hl : ExtK w ok k a cap) :
    Calls Tryd.prog 34 #[.agg #[.string ⟨#[38, 38]⟩, .string tag, .slice a k.length cap], .string ⟨#[33]⟩] w fun e w' => e = .returned (.string ⟨(withinL (.mk ⟨#[38, 38]⟩ tag k) (ls ⟨#[33]⟩)).toArray⟩) ∧ Below w.heap.size w w' := by
  have hp : withinL (.mk ⟨#[38, 38]⟩ tag k) (ls ⟨#[33]⟩) = 40 :: (writtenE (.mk ⟨#[38, 38]⟩ tag k) ++ [41]) := rfl
  rw [hp] at hw ⊢
  rw [← paren_bytes]
  simp only [List.length_cons, List.length_append, List.length_nil] at hw
  have hW1 := (Below.refl w.heap.size w).alloc (Nat.le_refl _) (.cells #[.string ⟨#[38, 38]⟩, .string tag, .slice a k.length cap] 29)
  have hq := heap_alloc_new w (.cells #[.string ⟨#[38, 38]⟩, .string tag, .slice a k.length cap] 29)
  obtain ⟨⟨d0, d1, d2⟩, -⟩ := three_cells hq
  have c1 := ih (.mk ⟨#[38, 38]⟩ tag k) (.agg #[.string ⟨#[38, 38]⟩, .string tag, .slice a k.length cap]) _ ok hr hs (by omega) (by rw [ExtAt_eq]; exact ⟨a, cap, rfl, hl.below hW1⟩)
  have HW1 := Lib.hid hW1
  generalize writtenE (.mk ⟨#[38, 38]⟩ tag k) = t at *
  have hts : (⟨t.toArray⟩ : ByteArray).size = t.length := rfl
  have K1 := fun w => run_string_add_sum (P := Tryd.prog) w ⟨#[40]⟩ ⟨t.toArray⟩ (by show 1 + t.length ≤ _; omega)
  have K2 := fun w => run_string_add_sum (P := Tryd.prog) w (⟨#[40]⟩ ++ ⟨t.toArray⟩) ⟨#[41]⟩ (by rw [ByteArray.size_append]; show 1 + t.length + 1 ≤ _; omega)
  clear hW1 hq ih hr hs hw hl hp hts
  go_enter Tryd.func34, Tryd.ntmps34
  go_wp2_with fail
  refine c1.mono ?_
  rintro e w2 ⟨rfl, hb2⟩
  go_wp2
  go_ret
  exact ⟨rfl, HW1.out.trans (hb2.mono HW1.out.size)⟩


set_option maxRecDepth 100000 in
theorem within_aa (tag : ByteArray) (k : List Ex) (a : Option Addr) (cap : Nat) (left : Nat) (ih : WrittenOk left) (w : World) (ok : Nat → Prop) (hr : rightE left (.mk ⟨#[38, 38]⟩ tag k) = true) (hs : Small (.mk ⟨#[38, 38]⟩ tag k)) (hw : (withinL (.mk ⟨#[38, 38]⟩ tag k) (ls ⟨#[38, 38]⟩)).length ≤ 3000000) (hl : ExtK w ok k a cap) :
    Calls Tryd.prog 34 #[.agg #[.string ⟨#[38, 38]⟩, .string tag, .slice a k.length cap], .string ⟨#[38, 38]⟩] w fun e w' => e = .returned (.string ⟨(withinL (.mk ⟨#[38, 38]⟩ tag k) (ls ⟨#[38, 38]⟩)).toArray⟩) ∧ Below w.heap.size w w' := by
  have hp : withinL (.mk ⟨#[38, 38]⟩ tag k) (ls ⟨#[38, 38]⟩) = 40 :: (writtenE (.mk ⟨#[38, 38]⟩ tag k) ++ [41]) := rfl
  rw [hp] at hw ⊢
  rw [← paren_bytes]
  simp only [List.length_cons, List.length_append, List.length_nil] at hw
  have hW1 := (Below.refl w.heap.size w).alloc (Nat.le_refl _) (.cells #[.string ⟨#[38, 38]⟩, .string tag, .slice a k.length cap] 29)
  have hq := heap_alloc_new w (.cells #[.string ⟨#[38, 38]⟩, .string tag, .slice a k.length cap] 29)
  obtain ⟨⟨d0, d1, d2⟩, -⟩ := three_cells hq
  have c1 := ih (.mk ⟨#[38, 38]⟩ tag k) (.agg #[.string ⟨#[38, 38]⟩, .string tag, .slice a k.length cap]) _ ok hr hs (by omega) (by rw [ExtAt_eq]; exact ⟨a, cap, rfl, hl.below hW1⟩)
  have HW1 := Lib.hid hW1
  generalize writtenE (.mk ⟨#[38, 38]⟩ tag k) = t at *
  have hts : (⟨t.toArray⟩ : ByteArray).size = t.length := rfl
  have K1 := fun w => run_string_add_sum (P := Tryd.prog) w ⟨#[40]⟩ ⟨t.toArray⟩ (by show 1 + t.length ≤ _; omega)
  have K2 := fun w => run_string_add_sum (P := Tryd.prog) w (⟨#[40]⟩ ++ ⟨t.toArray⟩) ⟨#[41]⟩ (by rw [ByteArray.size_append]; show 1 + t.length + 1 ≤ _; omega)
  clear hW1 hq ih hr hs hw hl hp hts
  go_enter Tryd.func34, Tryd.ntmps34
  go_wp2_with fail
  refine c1.mono ?_
  rintro e w2 ⟨rfl, hb2⟩
  go_wp2
  go_ret
  exact ⟨rfl, HW1.out.trans (hb2.mono HW1.out.size)⟩


set_option maxRecDepth 100000 in
theorem within_ao (tag : ByteArray) (k : List Ex) (a : Option Addr) (cap : Nat) (left : Nat) (ih : WrittenOk left) (w : World) (ok : Nat → Prop) (hr : rightE left (.mk ⟨#[38, 38]⟩ tag k) = true) (hs : Small (.mk ⟨#[38, 38]⟩ tag k)) (hw : (withinL (.mk ⟨#[38, 38]⟩ tag k) (ls ⟨#[124, 124]⟩)).length ≤ 3000000) (hl : ExtK w ok k a cap) :
    Calls Tryd.prog 34 #[.agg #[.string ⟨#[38, 38]⟩, .string tag, .slice a k.length cap], .string ⟨#[124, 124]⟩] w fun e w' => e = .returned (.string ⟨(withinL (.mk ⟨#[38, 38]⟩ tag k) (ls ⟨#[124, 124]⟩)).toArray⟩) ∧ Below w.heap.size w w' := by
  have hp : withinL (.mk ⟨#[38, 38]⟩ tag k) (ls ⟨#[124, 124]⟩) = writtenE (.mk ⟨#[38, 38]⟩ tag k) := rfl
  rw [hp] at hw ⊢
  have hW1 := (Below.refl w.heap.size w).alloc (Nat.le_refl _) (.cells #[.string ⟨#[38, 38]⟩, .string tag, .slice a k.length cap] 29)
  have hq := heap_alloc_new w (.cells #[.string ⟨#[38, 38]⟩, .string tag, .slice a k.length cap] 29)
  obtain ⟨⟨d0, d1, d2⟩, -⟩ := three_cells hq
  have c1 := ih (.mk ⟨#[38, 38]⟩ tag k) (.agg #[.string ⟨#[38, 38]⟩, .string tag, .slice a k.length cap]) _ ok hr hs hw (by rw [ExtAt_eq]; exact ⟨a, cap, rfl, hl.below hW1⟩)
  have HW1 := Lib.hid hW1
  generalize writtenE (.mk ⟨#[38, 38]⟩ tag k) = t at *
  clear hW1 hq ih hr hs hw hl hp
  go_enter Tryd.func34, Tryd.ntmps34
  go_wp2_with fail
  refine c1.mono ?_
  rintro e w2 ⟨rfl, hb2⟩
  go_wp2
  go_ret
  exact ⟨rfl, HW1.out.trans (hb2.mono HW1.out.size)⟩


set_option maxRecDepth 100000 in
theorem within_on (tag : ByteArray) (k : List Ex) (a : Option Addr) (cap : Nat) (left : Nat) (ih : WrittenOk left) (w : World) (ok : Nat → Prop) (hr : rightE left (.mk ⟨#[124, 124]⟩ tag k) = true) (hs : Small (.mk ⟨#[124, 124]⟩ tag k)) (hw : (withinL (.mk ⟨#[124, 124]⟩ tag k) (ls ⟨#[33]⟩)).length ≤ 3000000) (hl : ExtK w ok k a cap) :
    Calls Tryd.prog 34 #[.agg #[.string ⟨#[124, 124]⟩, .string tag, .slice a k.length cap], .string ⟨#[33]⟩] w fun e w' => e = .returned (.string ⟨(withinL (.mk ⟨#[124, 124]⟩ tag k) (ls ⟨#[33]⟩)).toArray⟩) ∧ Below w.heap.size w w' := by
  have hp : withinL (.mk ⟨#[124, 124]⟩ tag k) (ls ⟨#[33]⟩) = 40 :: (writtenE (.mk ⟨#[124, 124]⟩ tag k) ++ [41]) := rfl
  rw [hp] at hw ⊢
  rw [← paren_bytes]
  simp only [List.length_cons, List.length_append, List.length_nil] at hw
  have hW1 := (Below.refl w.heap.size w).alloc (Nat.le_refl _) (.cells #[.string ⟨#[124, 124]⟩, .string tag, .slice a k.length cap] 29)
  have hq := heap_alloc_new w (.cells #[.string ⟨#[124, 124]⟩, .string tag, .slice a k.length cap] 29)
  obtain ⟨⟨d0, d1, d2⟩, -⟩ := three_cells hq
  have c1 := ih (.mk ⟨#[124, 124]⟩ tag k) (.agg #[.string ⟨#[124, 124]⟩, .string tag, .slice a k.length cap]) _ ok hr hs (by omega) (by rw [ExtAt_eq]; exact ⟨a, cap, rfl, hl.below hW1⟩)
  have HW1 := Lib.hid hW1
  generalize writtenE (.mk ⟨#[124, 124]⟩ tag k) = t at *
  have hts : (⟨t.toArray⟩ : ByteArray).size = t.length := rfl
  have K1 := fun w => run_string_add_sum (P := Tryd.prog) w ⟨#[40]⟩ ⟨t.toArray⟩ (by show 1 + t.length ≤ _; omega)
  have K2 := fun w => run_string_add_sum (P := Tryd.prog) w (⟨#[40]⟩ ++ ⟨t.toArray⟩) ⟨#[41]⟩ (by rw [ByteArray.size_append]; show 1 + t.length + 1 ≤ _; omega)
  clear hW1 hq ih hr hs hw hl hp hts
  go_enter Tryd.func34, Tryd.ntmps34
  go_wp2_with fail
  refine c1.mono ?_
  rintro e w2 ⟨rfl, hb2⟩
  go_wp2
  go_ret
  exact ⟨rfl, HW1.out.trans (hb2.mono HW1.out.size)⟩


set_option maxRecDepth 100000 in
theorem within_oa (tag : ByteArray) (k : List Ex) (a : Option Addr) (cap : Nat) (left : Nat) (ih : WrittenOk left) (w : World) (ok : Nat → Prop) (hr : rightE left (.mk ⟨#[124, 124]⟩ tag k) = true) (hs : Small (.mk ⟨#[124, 124]⟩ tag k)) (hw : (withinL (.mk ⟨#[124, 124]⟩ tag k) (ls ⟨#[38, 38]⟩)).length ≤ 3000000) (hl : ExtK w ok k a cap) :
    Calls Tryd.prog 34 #[.agg #[.string ⟨#[124, 124]⟩, .string tag, .slice a k.length cap], .string ⟨#[38, 38]⟩] w fun e w' => e = .returned (.string ⟨(withinL (.mk ⟨#[124, 124]⟩ tag k) (ls ⟨#[38, 38]⟩)).toArray⟩) ∧ Below w.heap.size w w' := by
  have hp : withinL (.mk ⟨#[124, 124]⟩ tag k) (ls ⟨#[38, 38]⟩) = 40 :: (writtenE (.mk ⟨#[124, 124]⟩ tag k) ++ [41]) := rfl
  rw [hp] at hw ⊢
  rw [← paren_bytes]
  simp only [List.length_cons, List.length_append, List.length_nil] at hw
  have hW1 := (Below.refl w.heap.size w).alloc (Nat.le_refl _) (.cells #[.string ⟨#[124, 124]⟩, .string tag, .slice a k.length cap] 29)
  have hq := heap_alloc_new w (.cells #[.string ⟨#[124, 124]⟩, .string tag, .slice a k.length cap] 29)
  obtain ⟨⟨d0, d1, d2⟩, -⟩ := three_cells hq
  have c1 := ih (.mk ⟨#[124, 124]⟩ tag k) (.agg #[.string ⟨#[124, 124]⟩, .string tag, .slice a k.length cap]) _ ok hr hs (by omega) (by rw [ExtAt_eq]; exact ⟨a, cap, rfl, hl.below hW1⟩)
  have HW1 := Lib.hid hW1
  generalize writtenE (.mk ⟨#[124, 124]⟩ tag k) = t at *
  have hts : (⟨t.toArray⟩ : ByteArray).size = t.length := rfl
  have K1 := fun w => run_string_add_sum (P := Tryd.prog) w ⟨#[40]⟩ ⟨t.toArray⟩ (by show 1 + t.length ≤ _; omega)
  have K2 := fun w => run_string_add_sum (P := Tryd.prog) w (⟨#[40]⟩ ++ ⟨t.toArray⟩) ⟨#[41]⟩ (by rw [ByteArray.size_append]; show 1 + t.length + 1 ≤ _; omega)
  clear hW1 hq ih hr hs hw hl hp hts
  go_enter Tryd.func34, Tryd.ntmps34
  go_wp2_with fail
  refine c1.mono ?_
  rintro e w2 ⟨rfl, hb2⟩
  go_wp2
  go_ret
  exact ⟨rfl, HW1.out.trans (hb2.mono HW1.out.size)⟩


set_option maxRecDepth 100000 in
theorem within_oo (tag : ByteArray) (k : List Ex) (a : Option Addr) (cap : Nat) (left : Nat) (ih : WrittenOk left) (w : World) (ok : Nat → Prop) (hr : rightE left (.mk ⟨#[124, 124]⟩ tag k) = true) (hs : Small (.mk ⟨#[124, 124]⟩ tag k)) (hw : (withinL (.mk ⟨#[124, 124]⟩ tag k) (ls ⟨#[124, 124]⟩)).length ≤ 3000000) (hl : ExtK w ok k a cap) :
    Calls Tryd.prog 34 #[.agg #[.string ⟨#[124, 124]⟩, .string tag, .slice a k.length cap], .string ⟨#[124, 124]⟩] w fun e w' => e = .returned (.string ⟨(withinL (.mk ⟨#[124, 124]⟩ tag k) (ls ⟨#[124, 124]⟩)).toArray⟩) ∧ Below w.heap.size w w' := by
  have hp : withinL (.mk ⟨#[124, 124]⟩ tag k) (ls ⟨#[124, 124]⟩) = 40 :: (writtenE (.mk ⟨#[124, 124]⟩ tag k) ++ [41]) := rfl
  rw [hp] at hw ⊢
  rw [← paren_bytes]
  simp only [List.length_cons, List.length_append, List.length_nil] at hw
  have hW1 := (Below.refl w.heap.size w).alloc (Nat.le_refl _) (.cells #[.string ⟨#[124, 124]⟩, .string tag, .slice a k.length cap] 29)
  have hq := heap_alloc_new w (.cells #[.string ⟨#[124, 124]⟩, .string tag, .slice a k.length cap] 29)
  obtain ⟨⟨d0, d1, d2⟩, -⟩ := three_cells hq
  have c1 := ih (.mk ⟨#[124, 124]⟩ tag k) (.agg #[.string ⟨#[124, 124]⟩, .string tag, .slice a k.length cap]) _ ok hr hs (by omega) (by rw [ExtAt_eq]; exact ⟨a, cap, rfl, hl.below hW1⟩)
  have HW1 := Lib.hid hW1
  generalize writtenE (.mk ⟨#[124, 124]⟩ tag k) = t at *
  have hts : (⟨t.toArray⟩ : ByteArray).size = t.length := rfl
  have K1 := fun w => run_string_add_sum (P := Tryd.prog) w ⟨#[40]⟩ ⟨t.toArray⟩ (by show 1 + t.length ≤ _; omega)
  have K2 := fun w => run_string_add_sum (P := Tryd.prog) w (⟨#[40]⟩ ++ ⟨t.toArray⟩) ⟨#[41]⟩ (by rw [ByteArray.size_append]; show 1 + t.length + 1 ≤ _; omega)
  clear hW1 hq ih hr hs hw hl hp hts
  go_enter Tryd.func34, Tryd.ntmps34
  go_wp2_with fail
  refine c1.mono ?_
  rintro e w2 ⟨rfl, hb2⟩
  go_wp2
  go_ret
  exact ⟨rfl, HW1.out.trans (hb2.mono HW1.out.size)⟩

end Go.Proofs.YtojdhlmmnhjolaaDoor
