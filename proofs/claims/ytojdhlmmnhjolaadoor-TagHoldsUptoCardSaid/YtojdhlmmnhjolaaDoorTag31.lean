/- The document's Least (made by tools/gentag31.py). -/
import Derived.Test.YtojdhlmmnhjolaaDoorTag30
namespace Go.Proofs.YtojdhlmmnhjolaaDoor
open Go.RowKit
set_option linter.unusedVariables false

def RLeastOk (N : Nat) : Prop := ∀ (x : Ex) (v : Value) (w : World) (ok : Nat → Prop), bulkE x ≤ N → N ≤ 1048576 → (∃ m, rightE m x = true) → ExtAt w ok x v → Calls Tryd.prog 19 #[v] w fun e w' => e = .returned (.int .i64 (leastE versM x)) ∧ Below w.heap.size w w'

set_option maxRecDepth 100000 in
theorem rleast_tag (tag : ByteArray) (k : List Ex) (c : Option Addr) (d : Nat) (w : World) (ht : tag.size ≤ 1048576) :
    Calls Tryd.prog 19 #[.agg #[.string ⟨#[]⟩, .string tag, .slice c k.length d]] w fun e w' => e = .returned (.int .i64 (leastE versM (.mk ⟨#[]⟩ tag k))) ∧ Below w.heap.size w w' := by
  rw [le_tag]
  have hW1 := (Below.refl w.heap.size w).alloc (Nat.le_refl _) (.cells #[.string ⟨#[]⟩, .string tag, .slice c k.length d] 24)
  obtain ⟨⟨d0, d1, d2⟩, -⟩ := three_cells (heap_alloc_new w (.cells #[.string ⟨#[]⟩, .string tag, .slice c k.length d] 24))
  have HW1 := Lib.hid hW1
  have cv := fun w => Version_any tag ht w
  clear hW1 ht
  go_enter Tryd.func19, Tryd.ntmps19
  go_wp2_with fail
  refine (cv _).mono ?_
  rintro e w2 ⟨rfl, hb2⟩
  go_wp2
  go_ret
  exact ⟨rfl, HW1.out.trans (hb2.mono HW1.out.size)⟩
set_option maxRecDepth 100000 in
theorem rleast_not (tag : ByteArray) (k : List Ex) (c : Option Addr) (d : Nat) (w : World) :
    Calls Tryd.prog 19 #[.agg #[.string ⟨#[33]⟩, .string tag, .slice c k.length d]] w fun e w' => e = .returned (.int .i64 (leastE versM (.mk ⟨#[33]⟩ tag k))) ∧ Below w.heap.size w w' := by
  rw [le_not]
  have hW1 := (Below.refl w.heap.size w).alloc (Nat.le_refl _) (.cells #[.string ⟨#[33]⟩, .string tag, .slice c k.length d] 24)
  obtain ⟨⟨d0, d1, d2⟩, -⟩ := three_cells (heap_alloc_new w (.cells #[.string ⟨#[33]⟩, .string tag, .slice c k.length d] 24))
  have HW1 := Lib.hid hW1
  clear hW1
  go_enter Tryd.func19, Tryd.ntmps19
  go_wp2
  go_ret
  exact ⟨rfl, HW1.out⟩

set_option maxHeartbeats 1000000 in
set_option maxRecDepth 100000 in
theorem rleast_and (N : Nat) (hN : N ≤ 1048576) (ih : RLeastOk N) (tag : ByteArray) (k : List Ex) (hk2 : 2 ≤ k.length) (c : Option Addr) (d : Nat) (w : World) (ok : Nat → Prop) (hbk : bulkL k ≤ N) (hrk : ∃ m, rightL m k = true) (hl : ExtK w ok k c d) :
    Calls Tryd.prog 19 #[.agg #[.string ⟨#[38, 38]⟩, .string tag, .slice c k.length d]] w fun e w' => e = .returned (.int .i64 (leastE versM (.mk ⟨#[38, 38]⟩ tag k))) ∧ Below w.heap.size w w' := by
  have hW1 := (Below.refl w.heap.size w).alloc (Nat.le_refl _) (.cells #[.string ⟨#[38, 38]⟩, .string tag, .slice c k.length d] 24)
  have hq := heap_alloc_new w (.cells #[.string ⟨#[38, 38]⟩, .string tag, .slice c k.length d] 24)
  obtain ⟨⟨d0, d1, d2⟩, -⟩ := three_cells hq
  have hbl := bulkL_len k
  obtain ⟨⟨o2, t2, k2⟩, hy⟩ : ∃ y, k[0]? = some y := ⟨k[0], by simp⟩
  obtain ⟨b, off, a2, cap2, rfl, hbw, m0, m1, m2, hl2⟩ := hl.cells hy
  rw [Nat.zero_mul, Nat.add_zero] at m0 m1 m2
  have k0 := (hW1.cell (p := ⟨b, _, none⟩) hbw).trans m0
  have k1 := (hW1.cell (p := ⟨b, _, none⟩) hbw).trans m1
  have k3 := (hW1.cell (p := ⟨b, _, none⟩) hbw).trans m2
  have c1 := ih (.mk o2 t2 k2) (.agg #[.string o2, .string t2, .slice a2 k2.length cap2]) _ ok (Nat.le_trans (bulkL_mem3 _ _ _ hy) hbk) hN (by obtain ⟨m, hm⟩ := hrk; exact ⟨m, rightL_mem hm hy⟩) (by rw [ExtAt_eq]; exact ⟨a2, cap2, rfl, hl2.below hW1⟩)
  have HS := Lib.hid (least_start (vers := versM) (tag := tag) true (by decide) (by decide) hy (show decide ((⟨#[38, 38]⟩ : ByteArray).data.toList = andL) = true from rfl))
  have HQ := Lib.hid hq
  have HW1 := Lib.hid hW1
  have HL := Lib.hid hl
  have HIH := Lib.hid ih
  have HBK := Lib.hid hbk
  have HRK := Lib.hid hrk
  have HNN : Hid (N ≤ 1048576) := hN
  have HKL : Hid (k.length ≤ 1048576 ∧ 2 ≤ k.length) := ⟨by omega, hk2⟩
  have g5 : (0 : Int) < (k.length : Int) := by omega
  clear hq hW1 hl ih hbk hbl hrk hN m0 m1 m2 hl2 hk2
  generalize leastE versM (.mk ⟨#[38, 38]⟩ tag k) = tot at *
  generalize leastE versM (.mk o2 t2 k2) = z0 at *
  go_enter Tryd.func19, Tryd.ntmps19
  go_wp2_with fail
  refine c1.mono ?_
  rintro e w2 ⟨rfl, hb2⟩
  have HB2 := Lib.hid (HW1.out.trans (hb2.mono HW1.out.size))
  have HQ2 := Lib.hid ((hb2.block _ (lt_of_block HQ.out)).trans HQ.out)
  clear hb2 d0 d1 d2 k0 k1 k3 c1
  go_wp2_with fail
  go_loopw [4, 3] (fun s4 s3 wr => ∃ (j : Nat) (m : Int), s4 = .int .i64 j ∧ s3 = .int .i64 m ∧ j ≤ k.length ∧ Hid (Below w.heap.size w wr) ∧ Hid (wr.heap[w.heap.size]? = some (.cells #[.string ⟨#[38, 38]⟩, .string tag, .slice (some ⟨b, off, none⟩) k.length d] 24 (0, 0))) ∧ Hid (moreV versM true m (k.drop j) = tot))
    (fun s4 s3 wr => k.length - (intOf s4).toNat)
  case atStart =>
    exact ⟨1, z0, rfl, rfl, by have := HKL.out; omega, HB2, HQ2, HS.out.symm⟩
  case round =>
    obtain ⟨j, m, rfl, rfl, hj, HB, HQR, HM⟩ := hrel
    obtain ⟨hk1, -⟩ := HKL.out
    obtain ⟨⟨e0, e1, e2⟩, -⟩ := three_cells HQR.out
    by_cases hlt : j < k.length
    · have gl : decide ((j : Int) < (k.length : Int)) = true := by simp; omega
      obtain ⟨⟨o3, t3, k4⟩, hy3⟩ : ∃ y, k[j]? = some y := ⟨k[j], by simp [hlt]⟩
      obtain ⟨b', off', a3, cap3, hbe, hbw3, m0, m1, m2, hl3⟩ := HL.out.cells hy3
      injection hbe with hbe
      injection hbe with hb1 hb2
      subst hb1 hb2
      have k0 := (HB.out.cell (p := ⟨b, _, none⟩) hbw3).trans m0
      have k1 := (HB.out.cell (p := ⟨b, _, none⟩) hbw3).trans m1
      have k2' := (HB.out.cell (p := ⟨b, _, none⟩) hbw3).trans m2
      have c3 := HIH.out (.mk o3 t3 k4) (.agg #[.string o3, .string t3, .slice a3 k4.length cap3]) wr ok (Nat.le_trans (bulkL_mem3 _ _ _ hy3) HBK.out) HNN.out (by obtain ⟨m, hm⟩ := HRK.out; exact ⟨m, rightL_mem hm hy3⟩) (by rw [ExtAt_eq]; exact ⟨a3, cap3, rfl, hl3.below HB.out⟩)
      have HST : Hid (moreV versM true m (k.drop j) = moreV versM true (max m (leastE versM (.mk o3 t3 k4))) (k.drop (j + 1))) := moreV_at versM true k j _ m hy3
      clear m0 m1 m2 hl3 hy3
      generalize leastE versM (.mk o3 t3 k4) = q at *
      go_wp2_with fail
      refine c3.mono ?_
      rintro e w5 ⟨rfl, hb5⟩
      have HQ5 := Lib.hid ((hb5.block _ (lt_of_block HQR.out)).trans HQR.out)
      have HB5 := Lib.hid (HB.out.trans (hb5.mono HB.out.size))
      clear hb5 e0 e1 e2 k0 k1 k2'
      obtain ⟨⟨e0, e1, e2⟩, -⟩ := three_cells HQ5.out
      by_cases hc : m < q
      · have gc : decide (m < q) = true := decide_eq_true hc
        have HE : Hid (moreV versM true q (k.drop (j + 1)) = tot) := by
          show _ = _
          have e1 := HST.out
          have e2 := HM.out
          rw [e1] at e2
          rw [show max m q = q by omega] at e2
          exact e2
        clear hc
        go_wp2
        go_roundw
        case rel => exact ⟨j + 1, q, by go_num, rfl, by omega, HB5.out, HQ5.out, HE⟩
        case measure => simp [intOf]; omega
      · have gc : decide (m < q) = false := decide_eq_false hc
        have HE : Hid (moreV versM true m (k.drop (j + 1)) = tot) := by
          show _ = _
          have e1 := HST.out
          have e2 := HM.out
          rw [e1] at e2
          rw [show max m q = m by omega] at e2
          exact e2
        clear hc
        go_wp2
        go_roundw
        case rel => exact ⟨j + 1, m, by go_num, rfl, by omega, HB5.out, HQ5.out, HE⟩
        case measure => simp [intOf]; omega
    · have gl : decide ((j : Int) < (k.length : Int)) = false := by simp; omega
      have hjk : j = k.length := by omega
      go_wp2
      go_ret
      refine ⟨?_, HB.out⟩
      have e2 := HM.out
      rw [hjk, List.drop_length, moreV] at e2
      rw [← e2]
      rfl

set_option maxHeartbeats 1000000 in
set_option maxRecDepth 100000 in
theorem rleast_or (N : Nat) (hN : N ≤ 1048576) (ih : RLeastOk N) (tag : ByteArray) (k : List Ex) (hk2 : 2 ≤ k.length) (c : Option Addr) (d : Nat) (w : World) (ok : Nat → Prop) (hbk : bulkL k ≤ N) (hrk : ∃ m, rightL m k = true) (hl : ExtK w ok k c d) :
    Calls Tryd.prog 19 #[.agg #[.string ⟨#[124, 124]⟩, .string tag, .slice c k.length d]] w fun e w' => e = .returned (.int .i64 (leastE versM (.mk ⟨#[124, 124]⟩ tag k))) ∧ Below w.heap.size w w' := by
  have hW1 := (Below.refl w.heap.size w).alloc (Nat.le_refl _) (.cells #[.string ⟨#[124, 124]⟩, .string tag, .slice c k.length d] 24)
  have hq := heap_alloc_new w (.cells #[.string ⟨#[124, 124]⟩, .string tag, .slice c k.length d] 24)
  obtain ⟨⟨d0, d1, d2⟩, -⟩ := three_cells hq
  have hbl := bulkL_len k
  obtain ⟨⟨o2, t2, k2⟩, hy⟩ : ∃ y, k[0]? = some y := ⟨k[0], by simp⟩
  obtain ⟨b, off, a2, cap2, rfl, hbw, m0, m1, m2, hl2⟩ := hl.cells hy
  rw [Nat.zero_mul, Nat.add_zero] at m0 m1 m2
  have k0 := (hW1.cell (p := ⟨b, _, none⟩) hbw).trans m0
  have k1 := (hW1.cell (p := ⟨b, _, none⟩) hbw).trans m1
  have k3 := (hW1.cell (p := ⟨b, _, none⟩) hbw).trans m2
  have c1 := ih (.mk o2 t2 k2) (.agg #[.string o2, .string t2, .slice a2 k2.length cap2]) _ ok (Nat.le_trans (bulkL_mem3 _ _ _ hy) hbk) hN (by obtain ⟨m, hm⟩ := hrk; exact ⟨m, rightL_mem hm hy⟩) (by rw [ExtAt_eq]; exact ⟨a2, cap2, rfl, hl2.below hW1⟩)
  have HS := Lib.hid (least_start (vers := versM) (tag := tag) false (by decide) (by decide) hy (show decide ((⟨#[124, 124]⟩ : ByteArray).data.toList = andL) = false from rfl))
  have HQ := Lib.hid hq
  have HW1 := Lib.hid hW1
  have HL := Lib.hid hl
  have HIH := Lib.hid ih
  have HBK := Lib.hid hbk
  have HRK := Lib.hid hrk
  have HNN : Hid (N ≤ 1048576) := hN
  have HKL : Hid (k.length ≤ 1048576 ∧ 2 ≤ k.length) := ⟨by omega, hk2⟩
  have g5 : (0 : Int) < (k.length : Int) := by omega
  clear hq hW1 hl ih hbk hbl hrk hN m0 m1 m2 hl2 hk2
  generalize leastE versM (.mk ⟨#[124, 124]⟩ tag k) = tot at *
  generalize leastE versM (.mk o2 t2 k2) = z0 at *
  go_enter Tryd.func19, Tryd.ntmps19
  go_wp2_with fail
  refine c1.mono ?_
  rintro e w2 ⟨rfl, hb2⟩
  have HB2 := Lib.hid (HW1.out.trans (hb2.mono HW1.out.size))
  have HQ2 := Lib.hid ((hb2.block _ (lt_of_block HQ.out)).trans HQ.out)
  clear hb2 d0 d1 d2 k0 k1 k3 c1
  go_wp2_with fail
  go_loopw [4, 3] (fun s4 s3 wr => ∃ (j : Nat) (m : Int), s4 = .int .i64 j ∧ s3 = .int .i64 m ∧ j ≤ k.length ∧ Hid (Below w.heap.size w wr) ∧ Hid (wr.heap[w.heap.size]? = some (.cells #[.string ⟨#[124, 124]⟩, .string tag, .slice (some ⟨b, off, none⟩) k.length d] 24 (0, 0))) ∧ Hid (moreV versM false m (k.drop j) = tot))
    (fun s4 s3 wr => k.length - (intOf s4).toNat)
  case atStart =>
    exact ⟨1, z0, rfl, rfl, by have := HKL.out; omega, HB2, HQ2, HS.out.symm⟩
  case round =>
    obtain ⟨j, m, rfl, rfl, hj, HB, HQR, HM⟩ := hrel
    obtain ⟨hk1, -⟩ := HKL.out
    obtain ⟨⟨e0, e1, e2⟩, -⟩ := three_cells HQR.out
    by_cases hlt : j < k.length
    · have gl : decide ((j : Int) < (k.length : Int)) = true := by simp; omega
      obtain ⟨⟨o3, t3, k4⟩, hy3⟩ : ∃ y, k[j]? = some y := ⟨k[j], by simp [hlt]⟩
      obtain ⟨b', off', a3, cap3, hbe, hbw3, m0, m1, m2, hl3⟩ := HL.out.cells hy3
      injection hbe with hbe
      injection hbe with hb1 hb2
      subst hb1 hb2
      have k0 := (HB.out.cell (p := ⟨b, _, none⟩) hbw3).trans m0
      have k1 := (HB.out.cell (p := ⟨b, _, none⟩) hbw3).trans m1
      have k2' := (HB.out.cell (p := ⟨b, _, none⟩) hbw3).trans m2
      have c3 := HIH.out (.mk o3 t3 k4) (.agg #[.string o3, .string t3, .slice a3 k4.length cap3]) wr ok (Nat.le_trans (bulkL_mem3 _ _ _ hy3) HBK.out) HNN.out (by obtain ⟨m, hm⟩ := HRK.out; exact ⟨m, rightL_mem hm hy3⟩) (by rw [ExtAt_eq]; exact ⟨a3, cap3, rfl, hl3.below HB.out⟩)
      have HST : Hid (moreV versM false m (k.drop j) = moreV versM false (min m (leastE versM (.mk o3 t3 k4))) (k.drop (j + 1))) := moreV_at versM false k j _ m hy3
      clear m0 m1 m2 hl3 hy3
      generalize leastE versM (.mk o3 t3 k4) = q at *
      go_wp2_with fail
      refine c3.mono ?_
      rintro e w5 ⟨rfl, hb5⟩
      have HQ5 := Lib.hid ((hb5.block _ (lt_of_block HQR.out)).trans HQR.out)
      have HB5 := Lib.hid (HB.out.trans (hb5.mono HB.out.size))
      clear hb5 e0 e1 e2 k0 k1 k2'
      obtain ⟨⟨e0, e1, e2⟩, -⟩ := three_cells HQ5.out
      by_cases hc : q < m
      · have gc : decide (q < m) = true := decide_eq_true hc
        have HE : Hid (moreV versM false q (k.drop (j + 1)) = tot) := by
          show _ = _
          have e1 := HST.out
          have e2 := HM.out
          rw [e1] at e2
          rw [show min m q = q by omega] at e2
          exact e2
        clear hc
        go_wp2
        go_roundw
        case rel => exact ⟨j + 1, q, by go_num, rfl, by omega, HB5.out, HQ5.out, HE⟩
        case measure => simp [intOf]; omega
      · have gc : decide (q < m) = false := decide_eq_false hc
        have HE : Hid (moreV versM false m (k.drop (j + 1)) = tot) := by
          show _ = _
          have e1 := HST.out
          have e2 := HM.out
          rw [e1] at e2
          rw [show min m q = m by omega] at e2
          exact e2
        clear hc
        go_wp2
        go_roundw
        case rel => exact ⟨j + 1, m, by go_num, rfl, by omega, HB5.out, HQ5.out, HE⟩
        case measure => simp [intOf]; omega
    · have gl : decide ((j : Int) < (k.length : Int)) = false := by simp; omega
      have hjk : j = k.length := by omega
      go_wp2
      go_ret
      refine ⟨?_, HB.out⟩
      have e2 := HM.out
      rw [hjk, List.drop_length, moreV] at e2
      rw [← e2]
      rfl

theorem rleast_all : ∀ N, N ≤ 1048576 → RLeastOk N
  | 0, _ => by
    intro x v w ok hb
    obtain ⟨op, tag, k⟩ := x
    rw [bulkE] at hb
    omega
  | N + 1, hN => by
    have ih := rleast_all N (by omega)
    intro x v w ok hb _ hr hx
    obtain ⟨op, tag, k⟩ := x
    obtain ⟨m, hm⟩ := hr
    obtain ⟨-, hsh, hrl⟩ := right_parts hm
    rw [ExtAt_eq] at hx
    obtain ⟨c, d, rfl, hl⟩ := hx
    rw [bulkE] at hb
    rcases str_cases op with rfl | rfl | rfl | rfl | ⟨n0, n1, n2, n3⟩
    · exact rleast_tag tag k c d w (by omega)
    · exact rleast_not tag k c d w
    · rw [sh_and, Bool.and_eq_true, decide_eq_true_eq] at hsh
      exact rleast_and N (by omega) ih tag k hsh.2 c d w ok (by omega) ⟨_, hrl⟩ hl
    · rw [sh_or, Bool.and_eq_true, decide_eq_true_eq] at hsh
      exact rleast_or N (by omega) ih tag k hsh.2 c d w ok (by omega) ⟨_, hrl⟩ hl
    · rw [sh_other op tag k (str_empty n0).2 (str_ne (l := [33]) n1).2 (str_ne (l := [38, 38]) n2).2 (str_ne (l := [124, 124]) n3).2] at hsh
      cases hsh
end Go.Proofs.YtojdhlmmnhjolaaDoor
