/- package tag: a constraint's least version. -/
import Derived.Test.YtojdhlmmnhjolaaDoorTag13
import Derived.Test.YtojdhlmmnhjolaaDoorTagH
namespace Go.Proofs.YtojdhlmmnhjolaaDoor
open Go.RowKit
set_option linter.unusedVariables false

theorem moreV_at (vers : ByteArray → Int) (ia : Bool) : ∀ (l : List Ex) (i : Nat) (x : Ex) (m : Int), l[i]? = some x → moreV vers ia m (l.drop i) = moreV vers ia (if ia then max m (leastE vers x) else min m (leastE vers x)) (l.drop (i + 1))
  | [], i, x, m, h => by cases h
  | y :: r, 0, x, m, h => by injection h with h; subst h; rw [List.drop_zero, moreV]; rfl
  | y :: r, i + 1, x, m, h => moreV_at vers ia r i x m (by simpa using h)
theorem least_start {vers : ByteArray → Int} {op tag : ByteArray} {k : List Ex} {y : Ex} (x : Bool) (h0 : ¬ op.data.toList = notL) (h1 : ¬ op.data.toList = []) (hy : k[0]? = some y) (hx : decide (op.data.toList = andL) = x) : leastE vers (.mk op tag k) = moreV vers x (leastE vers y) (k.drop 1) := by
  cases k with
  | nil => cases hy
  | cons z r =>
    injection hy with hy
    subst hy
    rw [leastE, if_neg h0, if_neg h1, hx, foldV]
    rfl

def LeastOk (left : Nat) : Prop := ∀ (x : Ex) (v : Value) (w : World) (ok : Nat → Prop), rightE left x = true → Small x → ExtAt w ok x v → Calls Tryd.prog 27 #[v] w fun e w' => e = .returned (.int .i64 (leastE versM x)) ∧ Below w.heap.size w w'


set_option maxHeartbeats 3000000 in
set_option maxRecDepth 100000 in
theorem least_and (left : Nat) (ih : LeastOk left) (tag : ByteArray) (k : List Ex) (hk2 : 2 ≤ k.length) (a : Option Addr) (cap : Nat) (w : World) (ok : Nat → Prop) (hrk : rightL left k = true) (hks : k.length ≤ 3000000) (hsk : SmallL k) (hl : ExtK w ok k a cap) :
    Calls Tryd.prog 27 #[.agg #[.string ⟨#[38, 38]⟩, .string tag, .slice a k.length cap]] w fun e w' => e = .returned (.int .i64 (leastE versM (.mk ⟨#[38, 38]⟩ tag k))) ∧ Below w.heap.size w w' := by
  have hW1 := (Below.refl w.heap.size w).alloc (Nat.le_refl _) (.cells #[.string ⟨#[38, 38]⟩, .string tag, .slice a k.length cap] 29)
  have hq := heap_alloc_new w (.cells #[.string ⟨#[38, 38]⟩, .string tag, .slice a k.length cap] 29)
  obtain ⟨⟨d0, d1, d2⟩, -⟩ := three_cells hq
  obtain ⟨⟨o2, t2, k2⟩, hy⟩ : ∃ y, k[0]? = some y := ⟨k[0], by simp⟩
  obtain ⟨b, off, a2, cap2, rfl, hbw, m0, m1, m2, hl2⟩ := hl.cells hy
  rw [Nat.zero_mul, Nat.add_zero] at m0 m1 m2
  have k0 := (hW1.cell (p := ⟨b, _, none⟩) hbw).trans m0
  have k1 := (hW1.cell (p := ⟨b, _, none⟩) hbw).trans m1
  have k3 := (hW1.cell (p := ⟨b, _, none⟩) hbw).trans m2
  have c1 := ih (.mk o2 t2 k2) (.agg #[.string o2, .string t2, .slice a2 k2.length cap2]) _ ok (rightL_mem hrk hy) (hsk.mem hy) (by rw [ExtAt_eq]; exact ⟨a2, cap2, rfl, hl2.below hW1⟩)
  have HQ := Lib.hid hq
  have HW1 := Lib.hid hW1
  have HL := Lib.hid hl
  have HRK := Lib.hid hrk
  have HSL := Lib.hid hsk
  have HKS := Lib.hid hks
  have HIH := Lib.hid ih
  have HK2 := Lib.hid hk2
  have g5 : (0 : Int) < (k.length : Int) := by omega
  have g6 : (1 : Int) ≤ (k.length : Int) := by omega
  have g7 : ¬ cap = 1 := by have := hl.2; omega
  clear hq hW1 hl hrk hsk hks ih hk2
  go_enter Tryd.func27, Tryd.ntmps27
  go_wp2_with fail
  refine c1.mono ?_
  rintro e w2 ⟨rfl, hb2⟩
  have HB2 := Lib.hid (HW1.out.trans (hb2.mono HW1.out.size))
  have hq2 := (hb2.block _ (lt_of_block HQ.out)).trans HQ.out
  obtain ⟨⟨e0, e1, e2⟩, -⟩ := three_cells hq2
  have HQ2 := Lib.hid hq2
  clear hb2 hq2 d0 d1 d2 k0 k1 k3 c1 m0 m1 m2 hl2
  go_wp2_with fail
  go_loopw [24, 3] (fun s24 s3 wr => ∃ (j : Nat) (m : Int), s24 = .int .i64 j ∧ s3 = .int .i64 m ∧ j + 1 ≤ k.length ∧ Hid (Below w.heap.size w wr) ∧ Hid (wr.heap[w.heap.size]? = some (.cells #[.string ⟨#[38, 38]⟩, .string tag, .slice (some ⟨b, off, none⟩) k.length cap] 29 (0, 0))) ∧ Hid (moreV versM true m (k.drop (j + 1)) = leastE versM (.mk ⟨#[38, 38]⟩ tag k)))
    (fun s24 s3 wr => k.length - (intOf s24).toNat)
  case atStart =>
    refine ⟨0, _, rfl, rfl, by have := HK2.out; omega, HB2, HQ2, ?_⟩
    show _ = _
    exact (least_start true (by decide) (by decide) hy rfl).symm
  case round =>
    obtain ⟨j, m, rfl, rfl, hj, HB, HQR, HM⟩ := hrel
    have hks := HKS.out
    by_cases hlt : j + 1 < k.length
    · have hlt' : j < k.length - 1 := by omega
      have g2 : decide ((j : Int) < ((k.length - 1 : Nat) : Int)) = true := by simp; omega
      obtain ⟨⟨o3, t3, k3⟩, hy3⟩ : ∃ y, k[j + 1]? = some y := ⟨k[j + 1], by simp [hlt]⟩
      obtain ⟨b', off', a3, cap3, hbe, hbw3, m0, m1, m2, hl3⟩ := HL.out.cells hy3
      injection hbe with hbe
      injection hbe with hb1 hb2
      subst hb1 hb2
      rw [show off + (j + 1) * 3 = off + 3 + j * 3 by omega] at m0 m1 m2
      have k0 := (HB.out.cell (p := ⟨b, _, none⟩) hbw3).trans m0
      have k1 := (HB.out.cell (p := ⟨b, _, none⟩) hbw3).trans m1
      have k2' := (HB.out.cell (p := ⟨b, _, none⟩) hbw3).trans m2
      have hq4 := heap_alloc_new wr (.cells #[.string o3, .string t3, .slice a3 k3.length cap3] 29)
      obtain ⟨⟨f0, f1, f2⟩, -⟩ := three_cells hq4
      have hb4 := HB.out.alloc HB.out.size (.cells #[.string o3, .string t3, .slice a3 k3.length cap3] 29)
      have c3 := HIH.out (.mk o3 t3 k3) (.agg #[.string o3, .string t3, .slice a3 k3.length cap3]) (wr.alloc (.cells #[.string o3, .string t3, .slice a3 k3.length cap3] 29)) ok (rightL_mem HRK.out hy3) (HSL.out.mem hy3) (by rw [ExtAt_eq]; exact ⟨a3, cap3, rfl, hl3.below hb4⟩)
      have HB4 := Lib.hid hb4
      have hq5 := (heap_alloc_old wr (.cells #[.string o3, .string t3, .slice a3 k3.length cap3] 29) (lt_of_block HQR.out)).trans HQR.out
      obtain ⟨⟨e0, e1, e2⟩, -⟩ := three_cells hq5
      have HQ4 := Lib.hid hq5
      have HST := Lib.hid (moreV_at versM true k (j + 1) _ m hy3)
      clear m0 m1 m2 hl3 hq4 hb4 hy3 hq5
      generalize leastE versM (.mk o3 t3 k3) = n at *
      go_wp2_with fail
      refine c3.mono ?_
      rintro e w5 ⟨rfl, hb5⟩
      have HQ5 := Lib.hid ((hb5.block _ (lt_of_block HQ4.out)).trans HQ4.out)
      have HB5 := Lib.hid (HB4.out.trans (hb5.mono HB4.out.size))
      clear hb5
      go_wp2
      go_roundw
      case rel => exact ⟨j + 1, _, by go_num, rfl, by omega, HB5.out, HQ5.out, by show _ = _; rw [← HM.out, HST.out]; rfl⟩
      case measure => simp [intOf]; omega
    · have hlt' : ¬ j < k.length - 1 := by omega
      have g2 : decide ((j : Int) < ((k.length - 1 : Nat) : Int)) = false := by simp; omega
      have hjk : j + 1 = k.length := by omega
      go_wp2
      go_ret
      refine ⟨?_, HB.out⟩
      rw [← HM.out, hjk, List.drop_length]
      rfl

set_option maxHeartbeats 3000000 in
set_option maxRecDepth 100000 in
theorem least_or (left : Nat) (ih : LeastOk left) (tag : ByteArray) (k : List Ex) (hk2 : 2 ≤ k.length) (a : Option Addr) (cap : Nat) (w : World) (ok : Nat → Prop) (hrk : rightL left k = true) (hks : k.length ≤ 3000000) (hsk : SmallL k) (hl : ExtK w ok k a cap) :
    Calls Tryd.prog 27 #[.agg #[.string ⟨#[124, 124]⟩, .string tag, .slice a k.length cap]] w fun e w' => e = .returned (.int .i64 (leastE versM (.mk ⟨#[124, 124]⟩ tag k))) ∧ Below w.heap.size w w' := by
  have hW1 := (Below.refl w.heap.size w).alloc (Nat.le_refl _) (.cells #[.string ⟨#[124, 124]⟩, .string tag, .slice a k.length cap] 29)
  have hq := heap_alloc_new w (.cells #[.string ⟨#[124, 124]⟩, .string tag, .slice a k.length cap] 29)
  obtain ⟨⟨d0, d1, d2⟩, -⟩ := three_cells hq
  obtain ⟨⟨o2, t2, k2⟩, hy⟩ : ∃ y, k[0]? = some y := ⟨k[0], by simp⟩
  obtain ⟨b, off, a2, cap2, rfl, hbw, m0, m1, m2, hl2⟩ := hl.cells hy
  rw [Nat.zero_mul, Nat.add_zero] at m0 m1 m2
  have k0 := (hW1.cell (p := ⟨b, _, none⟩) hbw).trans m0
  have k1 := (hW1.cell (p := ⟨b, _, none⟩) hbw).trans m1
  have k3 := (hW1.cell (p := ⟨b, _, none⟩) hbw).trans m2
  have c1 := ih (.mk o2 t2 k2) (.agg #[.string o2, .string t2, .slice a2 k2.length cap2]) _ ok (rightL_mem hrk hy) (hsk.mem hy) (by rw [ExtAt_eq]; exact ⟨a2, cap2, rfl, hl2.below hW1⟩)
  have HQ := Lib.hid hq
  have HW1 := Lib.hid hW1
  have HL := Lib.hid hl
  have HRK := Lib.hid hrk
  have HSL := Lib.hid hsk
  have HKS := Lib.hid hks
  have HIH := Lib.hid ih
  have HK2 := Lib.hid hk2
  have g5 : (0 : Int) < (k.length : Int) := by omega
  have g6 : (1 : Int) ≤ (k.length : Int) := by omega
  have g7 : ¬ cap = 1 := by have := hl.2; omega
  clear hq hW1 hl hrk hsk hks ih hk2
  go_enter Tryd.func27, Tryd.ntmps27
  go_wp2_with fail
  refine c1.mono ?_
  rintro e w2 ⟨rfl, hb2⟩
  have HB2 := Lib.hid (HW1.out.trans (hb2.mono HW1.out.size))
  have hq2 := (hb2.block _ (lt_of_block HQ.out)).trans HQ.out
  obtain ⟨⟨e0, e1, e2⟩, -⟩ := three_cells hq2
  have HQ2 := Lib.hid hq2
  clear hb2 hq2 d0 d1 d2 k0 k1 k3 c1 m0 m1 m2 hl2
  go_wp2_with fail
  go_loopw [24, 3] (fun s24 s3 wr => ∃ (j : Nat) (m : Int), s24 = .int .i64 j ∧ s3 = .int .i64 m ∧ j + 1 ≤ k.length ∧ Hid (Below w.heap.size w wr) ∧ Hid (wr.heap[w.heap.size]? = some (.cells #[.string ⟨#[124, 124]⟩, .string tag, .slice (some ⟨b, off, none⟩) k.length cap] 29 (0, 0))) ∧ Hid (moreV versM false m (k.drop (j + 1)) = leastE versM (.mk ⟨#[124, 124]⟩ tag k)))
    (fun s24 s3 wr => k.length - (intOf s24).toNat)
  case atStart =>
    refine ⟨0, _, rfl, rfl, by have := HK2.out; omega, HB2, HQ2, ?_⟩
    show _ = _
    exact (least_start false (by decide) (by decide) hy rfl).symm
  case round =>
    obtain ⟨j, m, rfl, rfl, hj, HB, HQR, HM⟩ := hrel
    have hks := HKS.out
    by_cases hlt : j + 1 < k.length
    · have hlt' : j < k.length - 1 := by omega
      have g2 : decide ((j : Int) < ((k.length - 1 : Nat) : Int)) = true := by simp; omega
      obtain ⟨⟨o3, t3, k3⟩, hy3⟩ : ∃ y, k[j + 1]? = some y := ⟨k[j + 1], by simp [hlt]⟩
      obtain ⟨b', off', a3, cap3, hbe, hbw3, m0, m1, m2, hl3⟩ := HL.out.cells hy3
      injection hbe with hbe
      injection hbe with hb1 hb2
      subst hb1 hb2
      rw [show off + (j + 1) * 3 = off + 3 + j * 3 by omega] at m0 m1 m2
      have k0 := (HB.out.cell (p := ⟨b, _, none⟩) hbw3).trans m0
      have k1 := (HB.out.cell (p := ⟨b, _, none⟩) hbw3).trans m1
      have k2' := (HB.out.cell (p := ⟨b, _, none⟩) hbw3).trans m2
      have hq4 := heap_alloc_new wr (.cells #[.string o3, .string t3, .slice a3 k3.length cap3] 29)
      obtain ⟨⟨f0, f1, f2⟩, -⟩ := three_cells hq4
      have hb4 := HB.out.alloc HB.out.size (.cells #[.string o3, .string t3, .slice a3 k3.length cap3] 29)
      have c3 := HIH.out (.mk o3 t3 k3) (.agg #[.string o3, .string t3, .slice a3 k3.length cap3]) (wr.alloc (.cells #[.string o3, .string t3, .slice a3 k3.length cap3] 29)) ok (rightL_mem HRK.out hy3) (HSL.out.mem hy3) (by rw [ExtAt_eq]; exact ⟨a3, cap3, rfl, hl3.below hb4⟩)
      have HB4 := Lib.hid hb4
      have hq5 := (heap_alloc_old wr (.cells #[.string o3, .string t3, .slice a3 k3.length cap3] 29) (lt_of_block HQR.out)).trans HQR.out
      obtain ⟨⟨e0, e1, e2⟩, -⟩ := three_cells hq5
      have HQ4 := Lib.hid hq5
      have HST := Lib.hid (moreV_at versM false k (j + 1) _ m hy3)
      clear m0 m1 m2 hl3 hq4 hb4 hy3 hq5
      generalize leastE versM (.mk o3 t3 k3) = n at *
      go_wp2_with fail
      refine c3.mono ?_
      rintro e w5 ⟨rfl, hb5⟩
      have HQ5 := Lib.hid ((hb5.block _ (lt_of_block HQ4.out)).trans HQ4.out)
      have HB5 := Lib.hid (HB4.out.trans (hb5.mono HB4.out.size))
      clear hb5
      go_wp2
      go_roundw
      case rel => exact ⟨j + 1, _, by go_num, rfl, by omega, HB5.out, HQ5.out, by show _ = _; rw [← HM.out, HST.out]; rfl⟩
      case measure => simp [intOf]; omega
    · have hlt' : ¬ j < k.length - 1 := by omega
      have g2 : decide ((j : Int) < ((k.length - 1 : Nat) : Int)) = false := by simp; omega
      have hjk : j + 1 = k.length := by omega
      go_wp2
      go_ret
      refine ⟨?_, HB.out⟩
      rw [← HM.out, hjk, List.drop_length]
      rfl

theorem le_not (tag : ByteArray) (k : List Ex) : leastE versM (.mk ⟨#[33]⟩ tag k) = -1 := by rw [leastE, if_pos (show (⟨#[33]⟩ : ByteArray).data.toList = notL from rfl)]
theorem le_tag (tag : ByteArray) (k : List Ex) : leastE versM (.mk ⟨#[]⟩ tag k) = versM tag := by rw [leastE, if_neg (by decide), if_pos rfl]
set_option maxRecDepth 100000 in
theorem least_tag (tag : ByteArray) (k : List Ex) (a : Option Addr) (cap : Nat) (w : World) (ht : tag.size ≤ 3000000) :
    Calls Tryd.prog 27 #[.agg #[.string ⟨#[]⟩, .string tag, .slice a k.length cap]] w fun e w' => e = .returned (.int .i64 (leastE versM (.mk ⟨#[]⟩ tag k))) ∧ Below w.heap.size w w' := by
  rw [le_tag]
  have hW1 := (Below.refl w.heap.size w).alloc (Nat.le_refl _) (.cells #[.string ⟨#[]⟩, .string tag, .slice a k.length cap] 29)
  have hq := heap_alloc_new w (.cells #[.string ⟨#[]⟩, .string tag, .slice a k.length cap] 29)
  obtain ⟨⟨d0, d1, d2⟩, -⟩ := three_cells hq
  have HW1 := Lib.hid hW1
  have c1 := version_any tag ht
  generalize versM tag = n at *
  clear hW1 hq ht
  go_enter Tryd.func27, Tryd.ntmps27
  go_wp2_with fail
  refine (c1 _).mono ?_
  rintro e w2 ⟨rfl, hb2⟩
  go_wp2
  go_ret
  exact ⟨rfl, HW1.out.trans (hb2.mono HW1.out.size)⟩
set_option maxRecDepth 100000 in
theorem least_not (tag : ByteArray) (k : List Ex) (a : Option Addr) (cap : Nat) (w : World) :
    Calls Tryd.prog 27 #[.agg #[.string ⟨#[33]⟩, .string tag, .slice a k.length cap]] w fun e w' => e = .returned (.int .i64 (leastE versM (.mk ⟨#[33]⟩ tag k))) ∧ Below w.heap.size w w' := by
  rw [le_not]
  have hW1 := (Below.refl w.heap.size w).alloc (Nat.le_refl _) (.cells #[.string ⟨#[33]⟩, .string tag, .slice a k.length cap] 29)
  have hq := heap_alloc_new w (.cells #[.string ⟨#[33]⟩, .string tag, .slice a k.length cap] 29)
  obtain ⟨⟨d0, d1, d2⟩, -⟩ := three_cells hq
  have HW1 := Lib.hid hW1
  clear hW1 hq
  go_enter Tryd.func27, Tryd.ntmps27
  go_wp2
  go_ret
  exact ⟨rfl, HW1.out⟩
theorem least_any : ∀ left, LeastOk left
  | 0 => by
    intro x v w ok hr hs hx
    obtain ⟨op, tag, k⟩ := x
    exact absurd (right_parts hr).1 (by decide)
  | left + 1 => by
    have ih := least_any left
    intro x v w ok hr hs hx
    obtain ⟨op, tag, k⟩ := x
    obtain ⟨-, hsh, hrl⟩ := right_parts hr
    rw [ExtAt_eq] at hx
    obtain ⟨a, cap, rfl, hl⟩ := hx
    rw [Small] at hs
    obtain ⟨hts, hks, hsl⟩ := hs
    rw [show left + 1 - 1 = left from rfl] at hrl
    rcases str_cases op with rfl | rfl | rfl | rfl | ⟨n0, n1, n2, n3⟩
    · exact least_tag tag k a cap w hts
    · exact least_not tag k a cap w
    · rw [sh_and, Bool.and_eq_true, decide_eq_true_eq] at hsh
      exact least_and left ih tag k hsh.2 a cap w ok hrl hks hsl hl
    · rw [sh_or, Bool.and_eq_true, decide_eq_true_eq] at hsh
      exact least_or left ih tag k hsh.2 a cap w ok hrl hks hsl hl
    · rw [sh_other op tag k (str_empty n0).2 (str_ne (l := [33]) n1).2 (str_ne (l := [38, 38]) n2).2 (str_ne (l := [124, 124]) n3).2] at hsh
      cases hsh
def leastM (x : Ex) : Int := if rightE 100 x then leastE versM x else -1
set_option maxRecDepth 100000 in
theorem Least_any (x : Ex) (v : Value) (w : World) (ok : Nat → Prop) (hs : Small x) (hx : ExtAt w ok x v) : Calls Tryd.prog 15 #[v] w fun e w' => e = .returned (.int .i64 (leastM x)) ∧ Below w.heap.size w w' := by
  obtain ⟨op, tag, k⟩ := x
  rw [ExtAt_eq] at hx
  obtain ⟨a, cap, rfl, hl⟩ := hx
  have hW1 := (Below.refl w.heap.size w).alloc (Nat.le_refl _) (.cells #[.string op, .string tag, .slice a k.length cap] 29)
  have hq := heap_alloc_new w (.cells #[.string op, .string tag, .slice a k.length cap] 29)
  obtain ⟨⟨d0, d1, d2⟩, -⟩ := three_cells hq
  have c1 := Right_any (.mk op tag k) (.agg #[.string op, .string tag, .slice a k.length cap]) (w.alloc (.cells #[.string op, .string tag, .slice a k.length cap] 29)) ok hs (by rw [ExtAt_eq]; exact ⟨a, cap, rfl, hl.below hW1⟩)
  have HW1 := Lib.hid hW1
  have HQ := Lib.hid hq
  have HL := Lib.hid hl
  have HSM := Lib.hid hs
  clear hW1 hq hs hl
  unfold leastM
  cases hr : rightE 100 (.mk op tag k) with
  | false =>
    rw [hr] at c1
    rw [if_neg (by decide)]
    clear hr
    go_enter Tryd.func15, Tryd.ntmps15
    go_wp2_with fail
    refine c1.mono ?_
    rintro e w2 ⟨rfl, hb2⟩
    go_wp2
    go_ret
    exact ⟨rfl, HW1.out.trans (hb2.mono HW1.out.size)⟩
  | true =>
    rw [hr] at c1
    rw [if_pos rfl]
    have HR := Lib.hid hr
    clear hr
    go_enter Tryd.func15, Tryd.ntmps15
    go_wp2_with fail
    refine c1.mono ?_
    rintro e w2 ⟨rfl, hb2⟩
    have hq2 := (hb2.block _ (lt_of_block HQ.out)).trans HQ.out
    obtain ⟨⟨e0, e1, e2⟩, -⟩ := three_cells hq2
    have HB2 := Lib.hid (HW1.out.trans (hb2.mono HW1.out.size))
    have c2 := least_any 100 (.mk op tag k) (.agg #[.string op, .string tag, .slice a k.length cap]) w2 ok HR.out HSM.out (by rw [ExtAt_eq]; exact ⟨a, cap, rfl, HL.out.below HB2.out⟩)
    clear hq2 hb2 d0 d1 d2 c1
    go_wp2_with fail
    refine c2.mono ?_
    rintro e w3 ⟨rfl, hb3⟩
    go_wp2
    go_ret
    exact ⟨rfl, HB2.out.trans (hb3.mono HB2.out.size)⟩
end Go.Proofs.YtojdhlmmnhjolaaDoor
