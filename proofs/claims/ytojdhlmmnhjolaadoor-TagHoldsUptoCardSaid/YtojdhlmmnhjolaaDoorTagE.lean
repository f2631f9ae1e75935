/- Whether a constraint is the document's: it is, where both are the same one. -/
import Derived.Test.YtojdhlmmnhjolaaDoorTagO
import Derived.Test.YtojdhlmmnhjolaaDoorTag14
import Derived.Test.YtojdhlmmnhjolaaDoorVerText
namespace Go.Proofs.YtojdhlmmnhjolaaDoor
open Go.RowKit
set_option linter.unusedVariables false

theorem bulkL_mem2 : ∀ (l : List Ex) (i : Nat) (x : Ex), l[i]? = some x → bulkE x ≤ bulkL l
  | [], i, x, h => by cases h
  | y :: r, 0, x, h => by injection h with h; subst h; rw [bulkL]; omega
  | y :: r, i + 1, x, h => by
    have := bulkL_mem2 r i x (by simpa using h)
    rw [bulkL]
    omega
def SameOk (n : Nat) : Prop := ∀ (x : Ex) (v u : Value) (w : World) (ok ok' : Nat → Prop), bulkE x ≤ n → n ≤ 1048576 → ExtAt w ok x v → ExtAt w ok' x u → Calls Tryd.prog 22 #[v, u] w fun e w' => e = .returned (.bool true) ∧ Below w.heap.size w w'

set_option maxHeartbeats 1000000 in
set_option maxRecDepth 100000 in
theorem same_step (n : Nat) (ih : SameOk n) : SameOk (n + 1) := by
  intro x v u w ok ok' hb hn hx hx'
  obtain ⟨op, tag, k⟩ := x
  rw [ExtAt_eq] at hx hx'
  obtain ⟨a, cap, rfl, hl⟩ := hx
  obtain ⟨a', cap', rfl, hl'⟩ := hx'
  have hbl := bulkL_len k
  rw [bulkE] at hb
  have hW1 := (Below.refl w.heap.size w).alloc (Nat.le_refl _) (.cells #[.string op, .string tag, .slice a k.length cap] 29)
  have hW2 := hW1.alloc hW1.size (.cells #[.string op, .string tag, .slice a' k.length cap'] 24)
  have hs1 : (w.alloc (.cells #[.string op, .string tag, .slice a k.length cap] 29)).heap.size = w.heap.size + 1 := by simp
  have hq := (heap_alloc_old _ (.cells #[.string op, .string tag, .slice a' k.length cap'] 24) (by omega)).trans (heap_alloc_new w (.cells #[.string op, .string tag, .slice a k.length cap] 29))
  have hq' := heap_alloc_new (w.alloc (.cells #[.string op, .string tag, .slice a k.length cap] 29)) (.cells #[.string op, .string tag, .slice a' k.length cap'] 24)
  rw [hs1] at hq'
  obtain ⟨⟨d0, d1, d2⟩, -⟩ := three_cells hq
  obtain ⟨⟨d0', d1', d2'⟩, -⟩ := three_cells hq'
  have HQ := Lib.hid hq
  have HQ' := Lib.hid hq'
  have HW1 := Lib.hid hW2
  have HL := Lib.hid hl
  have HL' := Lib.hid hl'
  have HIH := Lib.hid ih
  have HBK : Hid (bulkL k ≤ n) := by show _ ≤ _; omega
  have HKL : Hid (k.length ≤ 1048576 ∧ n ≤ 1048576) := ⟨by omega, by omega⟩
  have hmx : Tryd.prog.follows .mixedOrders = true := by kernel_rfl
  clear hq hq' hs1 hW1 hW2 hl hl' ih hb hbl hn
  go_enter Tryd.func22, Tryd.ntmps22
  go_wp2_with fail
  go_loopw [5] (fun s5 wr => ∃ (j : Nat), s5 = .int .i64 j ∧ j ≤ k.length ∧ Hid (Below w.heap.size w wr) ∧ Hid (wr.heap[w.heap.size]? = some (.cells #[.string op, .string tag, .slice a k.length cap] 29 (0, 0))) ∧ Hid (wr.heap[w.heap.size + 1]? = some (.cells #[.string op, .string tag, .slice a' k.length cap'] 24 (0, 0))))
    (fun s5 wr => k.length - (intOf s5).toNat)
  case atStart =>
    exact ⟨0, rfl, Nat.zero_le _, HW1, HQ, HQ'⟩
  case round =>
    obtain ⟨j, rfl, hj, HB, HQR, HQR'⟩ := hrel
    obtain ⟨hk1, hk3⟩ := HKL.out
    clear d0 d1 d2 d0' d1' d2'
    obtain ⟨⟨e0, e1, e2⟩, -⟩ := three_cells HQR.out
    obtain ⟨⟨f0, f1, f2⟩, -⟩ := three_cells HQR'.out
    by_cases hlt : j < k.length
    · have g2 : decide ((j : Int) < (k.length : Int)) = true := by simp; omega
      obtain ⟨⟨o3, t3, k3⟩, hy3⟩ : ∃ y, k[j]? = some y := ⟨k[j], by simp [hlt]⟩
      obtain ⟨b, off, a3, cap3, rfl, hbw3, m0, m1, m2, hl3⟩ := HL.out.cells hy3
      obtain ⟨b', off', a3', cap3', rfl, hbw3', m0', m1', m2', hl3'⟩ := HL'.out.cells hy3
      have E2 := fun X : Kept wr => Kept.cell e2 X
      have F2 := fun X : Kept wr => Kept.cell f2 X
      have k0 := fun X : Kept wr => Kept.cell ((HB.out.cell (p := ⟨b, _, none⟩) hbw3).trans m0) X
      have k1 := fun X : Kept wr => Kept.cell ((HB.out.cell (p := ⟨b, _, none⟩) hbw3).trans m1) X
      have k2' := fun X : Kept wr => Kept.cell ((HB.out.cell (p := ⟨b, _, none⟩) hbw3).trans m2) X
      have n0 := fun X : Kept wr => Kept.cell ((HB.out.cell (p := ⟨b', _, none⟩) hbw3').trans m0') X
      have n1 := fun X : Kept wr => Kept.cell ((HB.out.cell (p := ⟨b', _, none⟩) hbw3').trans m1') X
      have n2 := fun X : Kept wr => Kept.cell ((HB.out.cell (p := ⟨b', _, none⟩) hbw3').trans m2') X
      have C3 := Lib.hid (fun X : Kept wr => HIH.out (.mk o3 t3 k3) (.agg #[.string o3, .string t3, .slice a3 k3.length cap3]) (.agg #[.string o3, .string t3, .slice a3' k3.length cap3']) X.W ok ok' (Nat.le_trans (bulkL_mem2 _ _ _ hy3) HBK.out) hk3 (by rw [ExtAt_eq]; exact ⟨a3, cap3, rfl, (hl3.below HB.out).below X.h⟩) (by rw [ExtAt_eq]; exact ⟨a3', cap3', rfl, (hl3'.below HB.out).below X.h⟩))
      clear m0 m1 m2 hl3 m0' m1' m2' hl3' hy3
      go_wp2_with fail
      refine wp_region_kept hmx (by kernel_rfl) ?_
      repeat (go_big_quiet_step (first | (go_at_call 22; exact kept_call (C3.out _))))
      refine wpQuiet_nil ?_
      rintro _ ⟨v0, rfl⟩
      have HB5 := Lib.hid (HB.out.trans (v0.h.mono HB.out.size))
      have HQ5 := Lib.hid ((v0.h.block _ (lt_of_block HQR.out)).trans HQR.out)
      have HQ5' := Lib.hid ((v0.h.block _ (lt_of_block HQR'.out)).trans HQR'.out)
      clear E2 F2 k0 k1 k2' n0 n1 n2 C3 e0 e1 e2 f0 f1 f2
      generalize v0.W = X0 at *
      go_wp2
      go_roundw
      case rel => exact ⟨j + 1, by go_num, by omega, HB5.out, HQ5.out, HQ5'.out⟩
      case measure => simp [intOf]; omega
    · have g2 : decide ((j : Int) < (k.length : Int)) = false := by simp; omega
      go_wp2
      go_ret
      exact ⟨rfl, HB.out⟩
theorem same_all : ∀ n, SameOk n
  | 0 => by
    intro x v u w ok ok' hb
    obtain ⟨op, tag, k⟩ := x
    rw [bulkE] at hb
    omega
  | n + 1 => same_step n (same_all n)
theorem same_any (x : Ex) (v u : Value) (w : World) (ok ok' : Nat → Prop) (hb : bulkE x ≤ 1048576) (hx : ExtAt w ok x v) (hx' : ExtAt w ok' x u) : Calls Tryd.prog 22 #[v, u] w fun e w' => e = .returned (.bool true) ∧ Below w.heap.size w w' := same_all _ x v u w ok ok' hb (Nat.le_refl _) hx hx'
end Go.Proofs.YtojdhlmmnhjolaaDoor
