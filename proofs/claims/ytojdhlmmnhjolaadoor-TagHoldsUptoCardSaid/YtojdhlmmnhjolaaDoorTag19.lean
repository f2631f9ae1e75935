/- package tag: Write. -/
import Derived.Test.YtojdhlmmnhjolaaDoorTag18
namespace Go.Proofs.YtojdhlmmnhjolaaDoor
open Go.RowKit
set_option linter.unusedVariables false

set_option maxRecDepth 100000 in
theorem written_tag (tag : ByteArray) (k : List Ex) (a : Option Addr) (cap : Nat) (w : World) :
    Calls Tryd.prog 28 #[.agg #[.string ⟨#[]⟩, .string tag, .slice a k.length cap]] w fun e w' => e = .returned (.string ⟨(writtenE (.mk ⟨#[]⟩ tag k)).toArray⟩) ∧ Below w.heap.size w w' := by
  rw [wr_tag]
  have hW1 := (Below.refl w.heap.size w).alloc (Nat.le_refl _) (.cells #[.string ⟨#[]⟩, .string tag, .slice a k.length cap] 29)
  have hq := heap_alloc_new w (.cells #[.string ⟨#[]⟩, .string tag, .slice a k.length cap] 29)
  obtain ⟨⟨d0, d1, d2⟩, -⟩ := three_cells hq
  have HW1 := Lib.hid hW1
  clear hW1 hq
  go_enter Tryd.func28, Tryd.ntmps28
  go_wp2
  go_ret
  exact ⟨rfl, HW1.out⟩
theorem not_bytes (l : List UInt8) : (⟨#[33]⟩ : ByteArray) ++ ⟨l.toArray⟩ = ⟨(33 :: l).toArray⟩ := by
  refine bl_inj ?_
  rw [Lib.toList_data]
  simp
set_option maxRecDepth 100000 in
theorem written_not (left : Nat) (ih : WrittenOk left) (tag : ByteArray) (y : Ex) (a : Option Addr) (cap : Nat) (w : World) (ok : Nat → Prop) (hry : rightE left y = true) (hsy : Small y) (hw : (writtenE (.mk ⟨#[33]⟩ tag [y])).length ≤ 3000000) (hl : ExtK w ok [y] a cap) :
    Calls Tryd.prog 28 #[.agg #[.string ⟨#[33]⟩, .string tag, .slice a 1 cap]] w fun e w' => e = .returned (.string ⟨(writtenE (.mk ⟨#[33]⟩ tag [y])).toArray⟩) ∧ Below w.heap.size w w' := by
  rw [wr_not] at hw ⊢
  rw [← not_bytes (withinL y notL)]
  rw [List.length_cons] at hw
  have hW1 := (Below.refl w.heap.size w).alloc (Nat.le_refl _) (.cells #[.string ⟨#[33]⟩, .string tag, .slice a 1 cap] 29)
  have hq := heap_alloc_new w (.cells #[.string ⟨#[33]⟩, .string tag, .slice a 1 cap] 29)
  obtain ⟨⟨d0, d1, d2⟩, -⟩ := three_cells hq
  obtain ⟨o2, t2, k2⟩ := y
  obtain ⟨b, off, a2, cap2, rfl, hbw, m0, m1, m2, hl2⟩ := hl.cells (i := 0) rfl
  rw [Nat.zero_mul, Nat.add_zero] at m0 m1 m2
  have k0 := (hW1.cell (p := ⟨b, _, none⟩) hbw).trans m0
  have k1 := (hW1.cell (p := ⟨b, _, none⟩) hbw).trans m1
  have k3 := (hW1.cell (p := ⟨b, _, none⟩) hbw).trans m2
  have c1 := within_any left ih (.mk o2 t2 k2) (.agg #[.string o2, .string t2, .slice a2 k2.length cap2]) ⟨#[33]⟩ (.inl rfl) _ ok hry hsy (by show (withinL (.mk o2 t2 k2) notL).length ≤ _; omega) (by rw [ExtAt_eq]; exact ⟨a2, cap2, rfl, hl2.below hW1⟩)
  rw [show (ls ⟨#[33]⟩) = notL from rfl] at c1
  have HW1 := Lib.hid hW1
  generalize withinL (.mk o2 t2 k2) notL = t at *
  have K1 := fun w => run_string_add_sum (P := Tryd.prog) w ⟨#[33]⟩ ⟨t.toArray⟩ (by show 1 + t.length ≤ _; omega)
  clear hW1 hq hl hl2 m0 m1 m2 hbw ih hry hsy hw
  go_enter Tryd.func28, Tryd.ntmps28
  go_wp2_with fail
  refine c1.mono ?_
  rintro e w2 ⟨rfl, hb2⟩
  go_wp2
  go_ret
  exact ⟨rfl, HW1.out.trans (hb2.mono HW1.out.size)⟩
theorem written_any : ∀ left, WrittenOk left
  | 0 => by
    intro x v w ok hr hs hw hx
    obtain ⟨op, tag, k⟩ := x
    exact absurd (right_parts hr).1 (by decide)
  | left + 1 => by
    have ih := written_any left
    intro x v w ok hr hs hw hx
    obtain ⟨op, tag, k⟩ := x
    obtain ⟨-, hsh, hrl⟩ := right_parts hr
    rw [ExtAt_eq] at hx
    obtain ⟨a, cap, rfl, hl⟩ := hx
    rw [Small] at hs
    obtain ⟨hts, hks, hsl⟩ := hs
    rw [show left + 1 - 1 = left from rfl] at hrl
    rcases str_cases op with rfl | rfl | rfl | rfl | ⟨n0, n1, n2, n3⟩
    · exact written_tag tag k a cap w
    · rw [sh_not, Bool.and_eq_true, beq_iff_eq] at hsh
      match k, hsh.2, hl, hsl, hrl, hw with
      | [y], _, hl, hsl, hrl, hw =>
        rw [rightL, Bool.and_eq_true] at hrl
        rw [SmallL] at hsl
        exact written_not left ih tag y a cap w ok hrl.1 hsl.1 hw hl
    · exact written_and left ih tag k a cap w ok hrl hks hsl hw hl
    · exact written_or left ih tag k a cap w ok hrl hks hsl hw hl
    · rw [sh_other op tag k (str_empty n0).2 (str_ne (l := [33]) n1).2 (str_ne (l := [38, 38]) n2).2 (str_ne (l := [124, 124]) n3).2] at hsh
      cases hsh
def writeM (x : Ex) : List UInt8 := if rightE 100 x then writtenE x else []
set_option maxRecDepth 100000 in
theorem Write_any (x : Ex) (v : Value) (w : World) (ok : Nat → Prop) (hs : Small x) (hw : (writeM x).length ≤ 3000000) (hx : ExtAt w ok x v) : Calls Tryd.prog 16 #[v] w fun e w' => e = .returned (.string ⟨(writeM x).toArray⟩) ∧ Below w.heap.size w w' := by
  obtain ⟨op, tag, k⟩ := x
  rw [ExtAt_eq] at hx
  obtain ⟨a, cap, rfl, hl⟩ := hx
  have hW1 := (Below.refl w.heap.size w).alloc (Nat.le_refl _) (.cells #[.string op, .string tag, .slice a k.length cap] 29)
  have hq := heap_alloc_new w (.cells #[.string op, .string tag, .slice a k.length cap] 29)
  obtain ⟨⟨d0, d1, d2⟩, -⟩ := three_cells hq
  have c1 := Right_any (.mk op tag k) (.agg #[.string op, .string tag, .slice a k.length cap]) (w.alloc (.cells #[.string op, .string tag, .slice a k.length cap] 29)) ok hs (by rw [ExtAt_eq]; exact ⟨a, cap, rfl, hl.below hW1⟩)
  have HW1 := Lib.hid hW1
  have HQ := Lib.hid hq
  have HL := Lib.hid hl
  have HSM := Lib.hid hs
  clear hW1 hq hs hl
  unfold writeM at hw ⊢
  cases hr : rightE 100 (.mk op tag k) with
  | false =>
    rw [hr] at c1 hw
    rw [if_neg (by decide)]
    clear hr hw
    go_enter Tryd.func16, Tryd.ntmps16
    go_wp2_with fail
    refine c1.mono ?_
    rintro e w2 ⟨rfl, hb2⟩
    go_wp2
    go_ret
    exact ⟨rfl, HW1.out.trans (hb2.mono HW1.out.size)⟩
  | true =>
    rw [hr] at c1 hw
    rw [if_pos rfl] at hw ⊢
    have HR := Lib.hid hr
    have HW := Lib.hid hw
    clear hr hw
    go_enter Tryd.func16, Tryd.ntmps16
    go_wp2_with fail
    refine c1.mono ?_
    rintro e w2 ⟨rfl, hb2⟩
    have hq2 := (hb2.block _ (lt_of_block HQ.out)).trans HQ.out
    obtain ⟨⟨e0, e1, e2⟩, -⟩ := three_cells hq2
    have HB2 := Lib.hid (HW1.out.trans (hb2.mono HW1.out.size))
    have c2 := written_any 100 (.mk op tag k) (.agg #[.string op, .string tag, .slice a k.length cap]) w2 ok HR.out HSM.out HW.out (by rw [ExtAt_eq]; exact ⟨a, cap, rfl, HL.out.below HB2.out⟩)
    clear hq2 hb2 d0 d1 d2 c1
    go_wp2_with fail
    refine c2.mono ?_
    rintro e w3 ⟨rfl, hb3⟩
    go_wp2
    go_ret
    exact ⟨rfl, HB2.out.trans (hb3.mono HB2.out.size)⟩
end Go.Proofs.YtojdhlmmnhjolaaDoor
