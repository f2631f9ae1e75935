/- How many constraints are within one that came in. -/
import Derived.Test.YtojdhlmmnhjolaaDoorTagO
import Derived.Test.YtojdhlmmnhjolaaDoorTag14
namespace Go.Proofs.YtojdhlmmnhjolaaDoor
open Go.RowKit
set_option linter.unusedVariables false

mutual
def nodesE : Ex → Nat
  | .mk _ _ kids => 1 + nodesL kids
def nodesL : List Ex → Nat
  | [] => 0
  | x :: r => nodesE x + nodesL r
end
mutual
theorem nodes_bulk : ∀ x : Ex, nodesE x ≤ bulkE x
  | .mk op tag kids => by
    have := nodesL_bulk kids
    rw [nodesE, bulkE]
    omega
theorem nodesL_bulk : ∀ l : List Ex, nodesL l ≤ bulkL l
  | [] => by rw [nodesL]; exact Nat.zero_le _
  | x :: r => by
    have h1 := nodes_bulk x
    have h2 := nodesL_bulk r
    rw [nodesL, bulkL]
    omega
end
theorem nodesL_at : ∀ (l : List Ex) (i : Nat) (x : Ex), l[i]? = some x → nodesL (l.drop i) = nodesE x + nodesL (l.drop (i + 1))
  | [], i, x, h => by cases h
  | y :: r, 0, x, h => by injection h with h; subst h; rw [List.drop_zero, nodesL]; rfl
  | y :: r, i + 1, x, h => nodesL_at r i x (by simpa using h)
theorem bulkL_mem : ∀ (l : List Ex) (i : Nat) (x : Ex), l[i]? = some x → bulkE x ≤ bulkL l
  | [], i, x, h => by cases h
  | y :: r, 0, x, h => by injection h with h; subst h; rw [bulkL]; omega
  | y :: r, i + 1, x, h => by
    have := bulkL_mem r i x (by simpa using h)
    rw [bulkL]
    omega

def SizeOk (n : Nat) : Prop := ∀ (x : Ex) (v : Value) (w : World) (ok : Nat → Prop), bulkE x ≤ n → n ≤ 1048576 → ExtAt w ok x v → Calls Tryd.prog 10 #[v] w fun e w' => e = .returned (.int .i64 (nodesE x : Nat)) ∧ Below w.heap.size w w'

set_option maxRecDepth 100000 in
theorem size_step (n : Nat) (ih : SizeOk n) : SizeOk (n + 1) := by
  intro x v w ok hb hn hx
  obtain ⟨op, tag, k⟩ := x
  rw [ExtAt_eq] at hx
  obtain ⟨a, cap, rfl, hl⟩ := hx
  have hnb := nodes_bulk (.mk op tag k)
  have hbl := bulkL_len k
  have HN : Hid (nodesE (.mk op tag k) = 1 + nodesL k) := by show _ = _; rw [nodesE]
  rw [bulkE] at hb hnb
  have hW1 := (Below.refl w.heap.size w).alloc (Nat.le_refl _) (.cells #[.string op, .string tag, .slice a k.length cap] 24)
  have hq := heap_alloc_new w (.cells #[.string op, .string tag, .slice a k.length cap] 24)
  obtain ⟨⟨d0, d1, d2⟩, -⟩ := three_cells hq
  have HQ := Lib.hid hq
  have HW1 := Lib.hid hW1
  have HL := Lib.hid hl
  have HIH := Lib.hid ih
  have HBK : Hid (bulkL k ≤ n) := by show _ ≤ _; omega
  have HKL : Hid (k.length ≤ 1048576 ∧ nodesE (.mk op tag k) ≤ 1048577 ∧ n ≤ 1048576) := ⟨by omega, by omega, by omega⟩
  clear hq hW1 hl ih hb hbl hnb hn
  generalize nodesE (.mk op tag k) = tot at *
  go_enter Tryd.func10, Tryd.ntmps10
  go_wp2_with fail
  go_loopw [4, 3] (fun s4 s3 wr => ∃ (j m : Nat), s4 = .int .i64 j ∧ s3 = .int .i64 m ∧ j ≤ k.length ∧ Hid (Below w.heap.size w wr) ∧ Hid (wr.heap[w.heap.size]? = some (.cells #[.string op, .string tag, .slice a k.length cap] 24 (0, 0))) ∧ Hid (m + nodesL (k.drop j) = tot))
    (fun s4 s3 wr => k.length - (intOf s4).toNat)
  case atStart =>
    refine ⟨0, 1, rfl, rfl, Nat.zero_le _, HW1, HQ, ?_⟩
    show _ = _
    rw [HN.out, List.drop_zero]
  case round =>
    obtain ⟨j, m, rfl, rfl, hj, HB, HQR, HM⟩ := hrel
    obtain ⟨hk1, hk2, hk3⟩ := HKL.out
    have hmt := HM.out
    obtain ⟨⟨e0, e1, e2⟩, -⟩ := three_cells HQR.out
    clear d0 d1 d2
    by_cases hlt : j < k.length
    · have g2 : decide ((j : Int) < (k.length : Int)) = true := by simp; omega
      obtain ⟨⟨o3, t3, k3⟩, hy3⟩ : ∃ y, k[j]? = some y := ⟨k[j], by simp [hlt]⟩
      obtain ⟨b, off, a3, cap3, rfl, hbw3, m0, m1, m2, hl3⟩ := HL.out.cells hy3
      have k0 := (HB.out.cell (p := ⟨b, _, none⟩) hbw3).trans m0
      have k1 := (HB.out.cell (p := ⟨b, _, none⟩) hbw3).trans m1
      have k2' := (HB.out.cell (p := ⟨b, _, none⟩) hbw3).trans m2
      have c3 := HIH.out (.mk o3 t3 k3) (.agg #[.string o3, .string t3, .slice a3 k3.length cap3]) wr ok (Nat.le_trans (bulkL_mem _ _ _ hy3) HBK.out) hk3 (by rw [ExtAt_eq]; exact ⟨a3, cap3, rfl, hl3.below HB.out⟩)
      have hst := nodesL_at k j _ hy3
      rw [hst] at hmt
      have HST := Lib.hid hmt
      clear m0 m1 m2 hl3 hy3 hst
      generalize nodesE (.mk o3 t3 k3) = q at *
      have hmq : m + q ≤ 1048577 := by omega
      clear hmt
      go_wp2_with fail
      refine c3.mono ?_
      rintro e w5 ⟨rfl, hb5⟩
      have HQ5 := Lib.hid ((hb5.block _ (lt_of_block HQR.out)).trans HQR.out)
      have HB5 := Lib.hid (HB.out.trans (hb5.mono HB.out.size))
      clear hb5
      go_wp2
      go_roundw
      case rel => exact ⟨j + 1, m + q, by go_num, by go_num, by omega, HB5.out, HQ5.out, by show _ = _; rw [← HST.out]; omega⟩
      case measure => simp [intOf]; omega
    · have g2 : decide ((j : Int) < (k.length : Int)) = false := by simp; omega
      have hjk : j = k.length := by omega
      clear hmt
      go_wp2
      go_ret
      refine ⟨?_, HB.out⟩
      rw [← HM.out, hjk, List.drop_length, nodesL]
      rfl
theorem size_all : ∀ n, SizeOk n
  | 0 => by
    intro x v w ok hb
    obtain ⟨op, tag, k⟩ := x
    rw [bulkE] at hb
    omega
  | n + 1 => size_step n (size_all n)
theorem size_any (x : Ex) (v : Value) (w : World) (ok : Nat → Prop) (hb : bulkE x ≤ 1048576) (hx : ExtAt w ok x v) : Calls Tryd.prog 10 #[v] w fun e w' => e = .returned (.int .i64 (nodesE x : Nat)) ∧ Below w.heap.size w w' := size_all _ x v w ok hb (Nat.le_refl _) hx
end Go.Proofs.YtojdhlmmnhjolaaDoor
