/- The document's Right: it says what a right constraint is. -/
import Derived.Test.YtojdhlmmnhjolaaDoorTagO
import Derived.Test.YtojdhlmmnhjolaaDoorTag10
import Derived.Test.YtojdhlmmnhjolaaDoorTag11
import Derived.Test.YtojdhlmmnhjolaaDoorTag14
namespace Go.Proofs.YtojdhlmmnhjolaaDoor
open Go.RowKit
set_option linter.unusedVariables false

set_option maxRecDepth 100000 in
theorem may_any (c : UInt8) (w : World) : Calls Tryd.prog 24 #[.int .u8 ((c.toNat : Nat) : Int)] w fun e w' => e = .returned (.bool (tagB c)) ∧ Below w.heap.size w w' := by
  show Calls _ _ _ _ fun e w' => e = .returned (.bool (tagN c.toNat)) ∧ _
  generalize c.toNat = n
  rcases tag_cases n with ⟨e, h1, h2⟩ | ⟨e, h1, h2, h3, h4, h5, h6, h7, h8⟩ | ⟨e, h1, h3, h4⟩ | ⟨e, h1, h3, h4, h5, h6, h7, h8⟩ | ⟨e, h1, h3, h4, h5, h6, h7⟩ | ⟨e, h1, h3, h5, h6⟩ | ⟨e, h1, h3, h5, h6, h7, h8⟩ | ⟨e, h1, h3, h5, h7, h8⟩ | ⟨e, h1, h3, h5, h7, h8⟩
  all_goals
    rw [e]
    go_enter Tryd.func24, Tryd.ntmps24
    go_wp2
    go_ret
    exact ⟨rfl, Below.refl _ _⟩

theorem bulkL_mem3 : ∀ (l : List Ex) (i : Nat) (x : Ex), l[i]? = some x → bulkE x ≤ bulkL l
  | [], i, x, h => by cases h
  | y :: r, 0, x, h => by injection h with h; subst h; rw [bulkL]; omega
  | y :: r, i + 1, x, h => by
    have := bulkL_mem3 r i x (by simpa using h)
    rw [bulkL]
    omega
def RRightOk (left : Nat) : Prop := ∀ (x : Ex) (v : Value) (w : World) (ok : Nat → Prop), bulkE x ≤ 1048576 → ExtAt w ok x v → Calls Tryd.prog 12 #[v, .int .i64 left] w fun e w' => e = .returned (.bool (rightE left x)) ∧ Below w.heap.size w w'

theorem rleft_zero : RRightOk 0 := by
  intro x v w ok hb hx
  obtain ⟨op, tag, k⟩ := x
  rw [ExtAt_eq] at hx
  obtain ⟨a, cap, rfl, hl⟩ := hx
  have hW1 := (Below.refl w.heap.size w).alloc (Nat.le_refl _) (.cells #[.string op, .string tag, .slice a k.length cap] 24)
  rw [show rightE 0 (.mk op tag k) = false by rw [rightE]; rfl]
  clear hl hb
  go_enter Tryd.func12, Tryd.ntmps12
  go_wp2
  go_ret
  exact ⟨rfl, hW1⟩

theorem all_at (l : List UInt8) (j : Nat) (c : UInt8) (h : l[j]? = some c) : (l.drop j).all tagB = (tagB c && (l.drop (j + 1)).all tagB) := by
  have e : l.drop j = c :: l.drop (j + 1) := by
    obtain ⟨hlt, hc⟩ := List.getElem?_eq_some_iff.1 h
    rw [List.drop_eq_getElem_cons hlt, hc]
  rw [e, List.all_cons]

set_option maxHeartbeats 1000000 in
set_option maxRecDepth 100000 in
theorem rright_tag (n : Nat) (hn : n ≤ 1000) (tag : ByteArray) (k : List Ex) (a : Option Addr) (cap : Nat) (w : World) (ht : tag.size ≤ 1048576) :
    Calls Tryd.prog 12 #[.agg #[.string ⟨#[]⟩, .string tag, .slice a k.length cap], .int .i64 ((n + 1 : Nat) : Int)] w fun e w' => e = .returned (.bool (rightE (n + 1) (.mk ⟨#[]⟩ tag k))) ∧ Below w.heap.size w w' := by
  have HR : Hid (rightE (n + 1) (.mk ⟨#[]⟩ tag k) = (tag.data.toList.all tagB && (decide (0 < tag.size) && k.isEmpty))) := by
    show _ = _
    have e0 : (!tag.data.toList.isEmpty) = decide (0 < tag.size) := by
      show (!tag.data.toList.isEmpty) = decide (0 < tag.data.size)
      rw [← Array.length_toList]
      cases tag.data.toList <;> simp
    rw [rightE, shapedE, if_pos rfl, e0]
    cases k with
    | nil => rw [rightL]; simp [Bool.and_comm]
    | cons y r => simp
  rw [HR.out]
  have hW1 := (Below.refl w.heap.size w).alloc (Nat.le_refl _) (.cells #[.string ⟨#[]⟩, .string tag, .slice a k.length cap] 24)
  have hq := heap_alloc_new w (.cells #[.string ⟨#[]⟩, .string tag, .slice a k.length cap] 24)
  obtain ⟨⟨d0, d1, d2⟩, -⟩ := three_cells hq
  have HQ := Lib.hid hq
  have HW1 := Lib.hid hW1
  have g0 : decide (((n + 1 : Nat) : Int) < 1) = false := by simp; omega
  obtain ⟨m, hm⟩ : ∃ m : Int, m = ((n + 1 : Nat) : Int) := ⟨_, rfl⟩
  rw [← hm] at g0 ⊢
  clear hq hW1 HR hm
  go_enter Tryd.func12, Tryd.ntmps12
  go_wp2_with fail
  go_loopw [5] (fun s5 wr => ∃ (j : Nat), s5 = .int .i64 j ∧ j ≤ tag.size ∧ Hid (Below w.heap.size w wr) ∧ Hid (wr.heap[w.heap.size]? = some (.cells #[.string ⟨#[]⟩, .string tag, .slice a k.length cap] 24 (0, 0))) ∧ Hid (tag.data.toList.all tagB = (tag.data.toList.drop j).all tagB))
    (fun s5 wr => tag.size - (intOf s5).toNat)
  case atStart =>
    exact ⟨0, rfl, Nat.zero_le _, HW1, HQ, rfl⟩
  case round =>
    obtain ⟨j, rfl, hj, HB, HQR, HM⟩ := hrel
    clear d0 d1 d2
    obtain ⟨⟨e0, e1, e2⟩, -⟩ := three_cells HQR.out
    by_cases hlt : j < tag.size
    · have gl : decide ((j : Int) < (tag.size : Int)) = true := by simp; omega
      have HST : Hid ((tag.data.toList.drop j).all tagB = (tagB tag[j] && (tag.data.toList.drop (j + 1)).all tagB)) := all_at _ _ _ (by
        rw [Array.getElem?_toList]
        exact Array.getElem?_eq_getElem hlt)
      have cm := fun w => may_any tag[j] w
      go_wp2_with fail
      refine (cm _).mono ?_
      rintro e w5 ⟨rfl, hb5⟩
      have HB5 := Lib.hid (HB.out.trans (hb5.mono HB.out.size))
      have HQ5 := Lib.hid ((hb5.block _ (lt_of_block HQR.out)).trans HQR.out)
      clear hb5 cm e0 e1 e2
      cases hc : tagB tag[j] with
      | true =>
        rw [hc] at HST
        have HC := Lib.hid hc
        clear hc
        go_wp2
        go_roundw
        case rel => exact ⟨j + 1, by go_num, by omega, HB5.out, HQ5.out, by show _ = _; rw [HM.out, HST.out, Bool.true_and]⟩
        case measure => simp [intOf]; omega
      | false =>
        rw [hc] at HST
        have HC := Lib.hid hc
        clear hc
        go_wp2
        go_ret
        refine ⟨?_, HB5.out⟩
        rw [HM.out, HST.out, Bool.false_and, Bool.false_and]
        rfl
    · have gl : decide ((j : Int) < (tag.size : Int)) = false := by simp; omega
      have hjk : j = tag.size := by omega
      have HA : Hid (tag.data.toList.all tagB = true) := by
        show _ = _
        rw [HM.out, hjk, show tag.size = tag.data.toList.length by rw [Array.length_toList]; rfl, List.drop_length]
        rfl
      by_cases h0 : 0 < tag.size
      · have g1 : decide ((0 : Int) < (tag.size : Int)) = true := decide_eq_true (by omega)
        cases k with
        | nil =>
          go_wp2
          go_ret
          refine ⟨?_, HB.out⟩
          rw [HA.out, decide_eq_true h0]
          rfl
        | cons y r =>
          go_wp2
          go_ret
          refine ⟨?_, HB.out⟩
          rw [HA.out, decide_eq_true h0]
          rfl
      · have g1 : decide ((0 : Int) < (tag.size : Int)) = false := decide_eq_false (by omega)
        go_wp2
        go_ret
        refine ⟨?_, HB.out⟩
        rw [HA.out, decide_eq_false h0]
        rfl

set_option maxRecDepth 100000 in
theorem rright_off (n : Nat) (op tag : ByteArray) (k : List Ex) (a : Option Addr) (cap : Nat) (w : World) (h0 : op ≠ ⟨#[]⟩) (h : tag ≠ ⟨#[]⟩ ∨ (tag = ⟨#[]⟩ ∧ op ≠ ⟨#[33]⟩ ∧ op ≠ ⟨#[38, 38]⟩ ∧ op ≠ ⟨#[124, 124]⟩)) :
    Calls Tryd.prog 12 #[.agg #[.string op, .string tag, .slice a k.length cap], .int .i64 ((n + 1 : Nat) : Int)] w fun e w' => e = .returned (.bool false) ∧ Below w.heap.size w w' := by
  have hW1 := (Below.refl w.heap.size w).alloc (Nat.le_refl _) (.cells #[.string op, .string tag, .slice a k.length cap] 24)
  obtain ⟨⟨d0, d1, d2⟩, -⟩ := three_cells (heap_alloc_new w (.cells #[.string op, .string tag, .slice a k.length cap] 24))
  have HW1 := Lib.hid hW1
  have g0 : decide (((n + 1 : Nat) : Int) < 1) = false := by simp; omega
  obtain ⟨m, hm⟩ : ∃ m : Int, m = ((n + 1 : Nat) : Int) := ⟨_, rfl⟩
  rw [← hm] at g0 ⊢
  obtain ⟨z1, z2⟩ := str_empty h0
  clear hW1 hm h0
  rcases h with h | ⟨rfl, h1, h2, h3⟩
  · obtain ⟨y1, y2⟩ := str_empty h
    clear h
    go_enter Tryd.func12, Tryd.ntmps12
    go_wp2
    go_ret
    exact ⟨rfl, HW1.out⟩
  · obtain ⟨y1, y2⟩ := str_ne (l := [33]) h1
    obtain ⟨y3, y4⟩ := str_ne (l := [38, 38]) h2
    obtain ⟨y5, y6⟩ := str_ne (l := [124, 124]) h3
    clear h1 h2 h3
    go_enter Tryd.func12, Tryd.ntmps12
    go_wp2
    go_ret
    exact ⟨rfl, HW1.out⟩
/-- How many parts an op asks for. -/
def lenOk (op : ByteArray) (n : Nat) : Bool := if op.data.toList = notL then n == 1 else decide (2 ≤ n)
set_option maxHeartbeats 2000000 in
set_option maxRecDepth 100000 in
theorem rright_row (n : Nat) (hn : n ≤ 1000) (ih : RRightOk n) (op : ByteArray) (hop : op = ⟨#[33]⟩ ∨ op = ⟨#[38, 38]⟩ ∨ op = ⟨#[124, 124]⟩) (k : List Ex) (a : Option Addr) (cap : Nat) (w : World) (ok : Nat → Prop) (hl : ExtK w ok k a cap) (hb : bulkL k ≤ 1048576) :
    Calls Tryd.prog 12 #[.agg #[.string op, .string ⟨#[]⟩, .slice a k.length cap], .int .i64 ((n + 1 : Nat) : Int)] w fun e w' => e = .returned (.bool (lenOk op k.length && rightL n k)) ∧ Below w.heap.size w w' := by
  have hW1 := (Below.refl w.heap.size w).alloc (Nat.le_refl _) (.cells #[.string op, .string ⟨#[]⟩, .slice a k.length cap] 24)
  have hq := heap_alloc_new w (.cells #[.string op, .string ⟨#[]⟩, .slice a k.length cap] 24)
  obtain ⟨⟨d0, d1, d2⟩, -⟩ := three_cells hq
  have hbl := bulkL_len k
  have HQ := Lib.hid hq
  have HW1 := Lib.hid hW1
  have HL := Lib.hid hl
  have HIH := Lib.hid ih
  have HBK := Lib.hid hb
  have HKL : Hid (k.length ≤ 1048576) := by show _ ≤ _; omega
  have g0 : decide (((n + 1 : Nat) : Int) < 1) = false := by simp; omega
  obtain ⟨m, hm⟩ : ∃ m : Int, m = ((n + 1 : Nat) : Int) := ⟨_, rfl⟩
  have HM1 : Hid (m - 1 = (n : Int) ∧ 1 ≤ m ∧ m ≤ 2000) := ⟨by omega, by omega, by omega⟩
  rw [← hm] at g0 ⊢
  clear hq hW1 hl ih hb hbl hm
  by_cases hlen : lenOk op k.length = true
  case neg =>
    rw [show lenOk op k.length = false by simpa using hlen, Bool.false_and]
    rcases hop with rfl | rfl | rfl
    · have g1 : ((k.length : Int) != 1) = true := by
        have e : ¬ k.length = 1 := fun e => hlen (by unfold lenOk; rw [if_pos (show (⟨#[33]⟩ : ByteArray).data.toList = notL from rfl), e]; rfl)
        simp; omega
      clear hlen
      go_enter Tryd.func12, Tryd.ntmps12
      go_wp2
      go_ret
      exact ⟨rfl, HW1.out⟩
    · have g1 : decide ((k.length : Int) < 2) = true := by
        have e : ¬ 2 ≤ k.length := fun e => hlen (by unfold lenOk; rw [if_neg (by decide)]; simpa using e)
        exact decide_eq_true (by omega)
      clear hlen
      go_enter Tryd.func12, Tryd.ntmps12
      go_wp2
      go_ret
      exact ⟨rfl, HW1.out⟩
    · have g1 : decide ((k.length : Int) < 2) = true := by
        have e : ¬ 2 ≤ k.length := fun e => hlen (by unfold lenOk; rw [if_neg (by decide)]; simpa using e)
        exact decide_eq_true (by omega)
      clear hlen
      go_enter Tryd.func12, Tryd.ntmps12
      go_wp2
      go_ret
      exact ⟨rfl, HW1.out⟩
  case pos =>
    rw [hlen, Bool.true_and]
    obtain ⟨b1, b2, g1, g2, hbb⟩ : ∃ b1 b2, ((k.length : Int) != 1) = b1 ∧ decide ((k.length : Int) < 2) = b2 ∧ ((op = ⟨#[33]⟩ → b1 = false) ∧ (op ≠ ⟨#[33]⟩ → b2 = false)) := by
      refine ⟨_, _, rfl, rfl, fun e => ?_, fun e => ?_⟩
      · subst e
        unfold lenOk at hlen
        rw [if_pos (show (⟨#[33]⟩ : ByteArray).data.toList = notL from rfl), beq_iff_eq] at hlen
        rw [hlen]; rfl
      · unfold lenOk at hlen
        rw [if_neg (fun h => e (by apply ByteArray.ext; apply Array.toList_inj.1; exact h)), decide_eq_true_eq] at hlen
        exact decide_eq_false (by omega)
    clear hlen
    rcases hop with rfl | rfl | rfl
    · obtain rfl := hbb.1 rfl
      clear hbb g2
      go_enter Tryd.func12, Tryd.ntmps12
      go_wp2_with fail
      go_loopw [6] (fun s6 wr => ∃ (j : Nat), s6 = .int .i64 j ∧ j ≤ k.length ∧ Hid (Below w.heap.size w wr) ∧ Hid (wr.heap[w.heap.size]? = some (.cells #[.string ⟨#[33]⟩, .string ⟨#[]⟩, .slice a k.length cap] 24 (0, 0))) ∧ Hid (rightL n k = rightL n (k.drop j)))
        (fun s6 wr => k.length - (intOf s6).toNat)
      case atStart =>
        exact ⟨0, rfl, Nat.zero_le _, HW1, HQ, rfl⟩
      case round =>
        obtain ⟨j, rfl, hj, HB, HQR, HM⟩ := hrel
        have hk1 := HKL.out
        obtain ⟨hm1, hm2, hm3⟩ := HM1.out
        clear d0 d1 d2
        obtain ⟨⟨e0, e1, e2⟩, -⟩ := three_cells HQR.out
        by_cases hlt : j < k.length
        · have gl : decide ((j : Int) < (k.length : Int)) = true := by simp; omega
          obtain ⟨⟨o3, t3, k3⟩, hy3⟩ : ∃ y, k[j]? = some y := ⟨k[j], by simp [hlt]⟩
          obtain ⟨b, off, a3, cap3, rfl, hbw3, m0, m1, m2, hl3⟩ := HL.out.cells hy3
          have k0 := (HB.out.cell (p := ⟨b, _, none⟩) hbw3).trans m0
          have k1 := (HB.out.cell (p := ⟨b, _, none⟩) hbw3).trans m1
          have k2' := (HB.out.cell (p := ⟨b, _, none⟩) hbw3).trans m2
          have c3 := HIH.out (.mk o3 t3 k3) (.agg #[.string o3, .string t3, .slice a3 k3.length cap3]) wr ok (Nat.le_trans (bulkL_mem3 _ _ _ hy3) HBK.out) (by rw [ExtAt_eq]; exact ⟨a3, cap3, rfl, hl3.below HB.out⟩)
          rw [← hm1] at c3
          have HST := Lib.hid (rightL_at n k j _ hy3)
          clear m0 m1 m2 hl3 hy3 hm1
          generalize rightE n (.mk o3 t3 k3) = q at *
          go_wp2_with fail
          refine c3.mono ?_
          rintro e w5 ⟨rfl, hb5⟩
          have HQ5 := Lib.hid ((hb5.block _ (lt_of_block HQR.out)).trans HQR.out)
          have HB5 := Lib.hid (HB.out.trans (hb5.mono HB.out.size))
          clear hb5
          cases q with
          | true =>
            go_wp2
            go_roundw
            case rel => exact ⟨j + 1, by go_num, by omega, HB5.out, HQ5.out, by show _ = _; rw [HM.out, HST.out, Bool.true_and]⟩
            case measure => simp [intOf]; omega
          | false =>
            go_wp2
            go_ret
            refine ⟨?_, HB5.out⟩
            rw [HM.out, HST.out, Bool.false_and]
            rfl
        · have gl : decide ((j : Int) < (k.length : Int)) = false := by simp; omega
          have hjk : j = k.length := by omega
          clear hm1
          go_wp2
          go_ret
          refine ⟨?_, HB.out⟩
          rw [HM.out, hjk, List.drop_length, rightL]
          rfl
    · obtain rfl := hbb.2 (by decide)
      clear hbb g1
      go_enter Tryd.func12, Tryd.ntmps12
      go_wp2_with fail
      go_loopw [6] (fun s6 wr => ∃ (j : Nat), s6 = .int .i64 j ∧ j ≤ k.length ∧ Hid (Below w.heap.size w wr) ∧ Hid (wr.heap[w.heap.size]? = some (.cells #[.string ⟨#[38, 38]⟩, .string ⟨#[]⟩, .slice a k.length cap] 24 (0, 0))) ∧ Hid (rightL n k = rightL n (k.drop j)))
        (fun s6 wr => k.length - (intOf s6).toNat)
      case atStart =>
        exact ⟨0, rfl, Nat.zero_le _, HW1, HQ, rfl⟩
      case round =>
        obtain ⟨j, rfl, hj, HB, HQR, HM⟩ := hrel
        have hk1 := HKL.out
        obtain ⟨hm1, hm2, hm3⟩ := HM1.out
        clear d0 d1 d2
        obtain ⟨⟨e0, e1, e2⟩, -⟩ := three_cells HQR.out
        by_cases hlt : j < k.length
        · have gl : decide ((j : Int) < (k.length : Int)) = true := by simp; omega
          obtain ⟨⟨o3, t3, k3⟩, hy3⟩ : ∃ y, k[j]? = some y := ⟨k[j], by simp [hlt]⟩
          obtain ⟨b, off, a3, cap3, rfl, hbw3, m0, m1, m2, hl3⟩ := HL.out.cells hy3
          have k0 := (HB.out.cell (p := ⟨b, _, none⟩) hbw3).trans m0
          have k1 := (HB.out.cell (p := ⟨b, _, none⟩) hbw3).trans m1
          have k2' := (HB.out.cell (p := ⟨b, _, none⟩) hbw3).trans m2
          have c3 := HIH.out (.mk o3 t3 k3) (.agg #[.string o3, .string t3, .slice a3 k3.length cap3]) wr ok (Nat.le_trans (bulkL_mem3 _ _ _ hy3) HBK.out) (by rw [ExtAt_eq]; exact ⟨a3, cap3, rfl, hl3.below HB.out⟩)
          rw [← hm1] at c3
          have HST := Lib.hid (rightL_at n k j _ hy3)
          clear m0 m1 m2 hl3 hy3 hm1
          generalize rightE n (.mk o3 t3 k3) = q at *
          go_wp2_with fail
          refine c3.mono ?_
          rintro e w5 ⟨rfl, hb5⟩
          have HQ5 := Lib.hid ((hb5.block _ (lt_of_block HQR.out)).trans HQR.out)
          have HB5 := Lib.hid (HB.out.trans (hb5.mono HB.out.size))
          clear hb5
          cases q with
          | true =>
            go_wp2
            go_roundw
            case rel => exact ⟨j + 1, by go_num, by omega, HB5.out, HQ5.out, by show _ = _; rw [HM.out, HST.out, Bool.true_and]⟩
            case measure => simp [intOf]; omega
          | false =>
            go_wp2
            go_ret
            refine ⟨?_, HB5.out⟩
            rw [HM.out, HST.out, Bool.false_and]
            rfl
        · have gl : decide ((j : Int) < (k.length : Int)) = false := by simp; omega
          have hjk : j = k.length := by omega
          clear hm1
          go_wp2
          go_ret
          refine ⟨?_, HB.out⟩
          rw [HM.out, hjk, List.drop_length, rightL]
          rfl
    · obtain rfl := hbb.2 (by decide)
      clear hbb g1
      go_enter Tryd.func12, Tryd.ntmps12
      go_wp2_with fail
      go_loopw [6] (fun s6 wr => ∃ (j : Nat), s6 = .int .i64 j ∧ j ≤ k.length ∧ Hid (Below w.heap.size w wr) ∧ Hid (wr.heap[w.heap.size]? = some (.cells #[.string ⟨#[124, 124]⟩, .string ⟨#[]⟩, .slice a k.length cap] 24 (0, 0))) ∧ Hid (rightL n k = rightL n (k.drop j)))
        (fun s6 wr => k.length - (intOf s6).toNat)
      case atStart =>
        exact ⟨0, rfl, Nat.zero_le _, HW1, HQ, rfl⟩
      case round =>
        obtain ⟨j, rfl, hj, HB, HQR, HM⟩ := hrel
        have hk1 := HKL.out
        obtain ⟨hm1, hm2, hm3⟩ := HM1.out
        clear d0 d1 d2
        obtain ⟨⟨e0, e1, e2⟩, -⟩ := three_cells HQR.out
        by_cases hlt : j < k.length
        · have gl : decide ((j : Int) < (k.length : Int)) = true := by simp; omega
          obtain ⟨⟨o3, t3, k3⟩, hy3⟩ : ∃ y, k[j]? = some y := ⟨k[j], by simp [hlt]⟩
          obtain ⟨b, off, a3, cap3, rfl, hbw3, m0, m1, m2, hl3⟩ := HL.out.cells hy3
          have k0 := (HB.out.cell (p := ⟨b, _, none⟩) hbw3).trans m0
          have k1 := (HB.out.cell (p := ⟨b, _, none⟩) hbw3).trans m1
          have k2' := (HB.out.cell (p := ⟨b, _, none⟩) hbw3).trans m2
          have c3 := HIH.out (.mk o3 t3 k3) (.agg #[.string o3, .string t3, .slice a3 k3.length cap3]) wr ok (Nat.le_trans (bulkL_mem3 _ _ _ hy3) HBK.out) (by rw [ExtAt_eq]; exact ⟨a3, cap3, rfl, hl3.below HB.out⟩)
          rw [← hm1] at c3
          have HST := Lib.hid (rightL_at n k j _ hy3)
          clear m0 m1 m2 hl3 hy3 hm1
          generalize rightE n (.mk o3 t3 k3) = q at *
          go_wp2_with fail
          refine c3.mono ?_
          rintro e w5 ⟨rfl, hb5⟩
          have HQ5 := Lib.hid ((hb5.block _ (lt_of_block HQR.out)).trans HQR.out)
          have HB5 := Lib.hid (HB.out.trans (hb5.mono HB.out.size))
          clear hb5
          cases q with
          | true =>
            go_wp2
            go_roundw
            case rel => exact ⟨j + 1, by go_num, by omega, HB5.out, HQ5.out, by show _ = _; rw [HM.out, HST.out, Bool.true_and]⟩
            case measure => simp [intOf]; omega
          | false =>
            go_wp2
            go_ret
            refine ⟨?_, HB5.out⟩
            rw [HM.out, HST.out, Bool.false_and]
            rfl
        · have gl : decide ((j : Int) < (k.length : Int)) = false := by simp; omega
          have hjk : j = k.length := by omega
          clear hm1
          go_wp2
          go_ret
          refine ⟨?_, HB.out⟩
          rw [HM.out, hjk, List.drop_length, rightL]
          rfl

theorem rright_all : ∀ n, n ≤ 1000 → RRightOk n
  | 0, _ => rleft_zero
  | n + 1, hn => by
    have ih := rright_all n (by omega)
    intro x v w ok hb hx
    obtain ⟨op, tag, k⟩ := x
    rw [ExtAt_eq] at hx
    obtain ⟨a, cap, rfl, hl⟩ := hx
    rw [bulkE] at hb
    have hR : ∀ s, shapedE (.mk op tag k) = s → rightE (n + 1) (.mk op tag k) = (s && rightL n k) := fun s hs => by
      rw [rightE, hs, show n + 1 - 1 = n from rfl, decide_eq_true (by omega), Bool.true_and]
    by_cases h0 : op = ⟨#[]⟩
    · subst h0
      exact rright_tag n (by omega) tag k a cap w (by omega)
    by_cases ht : tag = ⟨#[]⟩
    · subst ht
      rcases str_cases op with e | e | e | e | ⟨n0, n1, n2, n3⟩
      · exact absurd e h0
      · subst e
        rw [hR (lenOk ⟨#[33]⟩ k.length) (by rw [sh_not]; unfold lenOk; rw [if_pos (show (⟨#[33]⟩ : ByteArray).data.toList = notL from rfl)]; rfl)]
        exact rright_row n (by omega) ih _ (.inl rfl) k a cap w ok hl (by omega)
      · subst e
        rw [hR (lenOk ⟨#[38, 38]⟩ k.length) (by rw [sh_and]; unfold lenOk; rw [if_neg (by decide)]; rfl)]
        exact rright_row n (by omega) ih _ (.inr (.inl rfl)) k a cap w ok hl (by omega)
      · subst e
        rw [hR (lenOk ⟨#[124, 124]⟩ k.length) (by rw [sh_or]; unfold lenOk; rw [if_neg (by decide)]; rfl)]
        exact rright_row n (by omega) ih _ (.inr (.inr rfl)) k a cap w ok hl (by omega)
      · rw [hR false (sh_other op _ k (str_empty n0).2 (str_ne (l := [33]) n1).2 (str_ne (l := [38, 38]) n2).2 (str_ne (l := [124, 124]) n3).2), Bool.false_and]
        exact rright_off n op _ k a cap w n0 (.inr ⟨rfl, n1, n2, n3⟩)
    · have hs : shapedE (.mk op tag k) = false := by
        have hne : tag.data.toList.isEmpty = false := by
          cases e : tag.data.toList with
          | nil => exact absurd (by apply ByteArray.ext; apply Array.toList_inj.1; rw [e]) ht
          | cons _ _ => rfl
        have h0' : ¬ op.data.toList = [] := fun e => h0 (by apply ByteArray.ext; apply Array.toList_inj.1; rw [e])
        rw [shapedE, if_neg h0', hne]
        simp
      rw [hR false hs, Bool.false_and]
      exact rright_off n op tag k a cap w h0 (.inl ht)
theorem RefRight_any (x : Ex) (v : Value) (w : World) (ok : Nat → Prop) (hb : bulkE x ≤ 1048576) (hx : ExtAt w ok x v) : Calls Tryd.prog 12 #[v, .int .i64 100] w fun e w' => e = .returned (.bool (rightE 100 x)) ∧ Below w.heap.size w w' := rright_all 100 (by decide) x v w ok hb hx
end Go.Proofs.YtojdhlmmnhjolaaDoor
