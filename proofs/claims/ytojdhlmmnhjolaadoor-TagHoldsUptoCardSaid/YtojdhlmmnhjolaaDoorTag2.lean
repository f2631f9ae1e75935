/- package ver: what figures are worth; what may stand behind a minor. -/
import Derived.Test.YtojdhlmmnhjolaaDoorTag1
namespace Go.Proofs.YtojdhlmmnhjolaaDoor
open Go.RowKit
set_option linter.unusedVariables false

theorem fig_bt (s : ByteArray) (h : (ls s).all figB = true) (k : Nat) (hk : k < s.size) : 48 ≤ bt s k ∧ bt s k ≤ 57 := by
  obtain ⟨c, h1, h2⟩ := ls_at s k hk
  have := List.all_eq_true.1 h c (List.mem_of_getElem? h1)
  unfold figB figN at this
  rw [h2] at this
  simpa using this

def valN (s : ByteArray) : Nat → Nat
  | 0 => 0
  | k + 1 => valN s k * 10 + (bt s k - 48)
theorem valN_lt (s : ByteArray) (h : (ls s).all figB = true) : ∀ k, k ≤ s.size → k ≤ 2 → valN s k ≤ 99 := by
  intro k hk h2
  match k with
  | 0 => show 0 ≤ 99; omega
  | 1 => have := fig_bt s h 0 (by omega); show 0 * 10 + (bt s 0 - 48) ≤ 99; omega
  | 2 => have := fig_bt s h 0 (by omega); have := fig_bt s h 1 (by omega); show (0 * 10 + (bt s 0 - 48)) * 10 + (bt s 1 - 48) ≤ 99; omega

theorem ls_one (s : ByteArray) (h : s.size = 1) : ∃ c, ls s = [c] ∧ c.toNat = bt s 0 := by
  obtain ⟨c, h1, h2⟩ := ls_drop s 0 (by omega)
  refine ⟨c, ?_, h2⟩
  have : (ls s).drop 1 = [] := List.drop_eq_nil_of_le (by rw [ls_len]; omega)
  rw [List.drop_zero, this] at h1
  exact h1
theorem ls_two (s : ByteArray) (h : s.size = 2) : ∃ c d, ls s = [c, d] ∧ c.toNat = bt s 0 ∧ d.toNat = bt s 1 := by
  obtain ⟨c, h1, h2⟩ := ls_drop s 0 (by omega)
  obtain ⟨d, h3, h4⟩ := ls_drop s 1 (by omega)
  refine ⟨c, d, ?_, h2, h4⟩
  have : (ls s).drop 2 = [] := List.drop_eq_nil_of_le (by rw [ls_len]; omega)
  rw [h3, this, List.drop_zero] at h1
  exact h1

/-- What a value that may be none is told as, and whether it is one. -/
def told2 (o : Option Nat) : Value := .tuple #[.int .i64 (o.getD 0 : Nat), .bool o.isSome]

theorem worth_loop_val (s : ByteArray) (h : (ls s).all figB = true) (h1 : s.size = 1 ∨ (s.size = 2 ∧ bt s 0 ≠ 48)) : worthL (ls s) = some (valN s s.size) := by
  rcases h1 with h1 | ⟨h1, h0⟩
  · obtain ⟨c, e, e2⟩ := ls_one s h1
    rw [e, h1]
    show some (c.toNat - 48) = some (0 * 10 + (bt s 0 - 48))
    rw [e2, Nat.zero_mul, Nat.zero_add]
  · obtain ⟨c, d, e, e2, e3⟩ := ls_two s h1
    rw [e, h1]
    show (if c = 48 then none else some ((c.toNat - 48) * 10 + (d.toNat - 48))) = some ((0 * 10 + (bt s 0 - 48)) * 10 + (bt s 1 - 48))
    rw [if_neg (fun hc => by subst hc; exact h0 e2.symm), e2, e3, Nat.zero_mul, Nat.zero_add]

set_option maxRecDepth 100000 in
theorem worth_go (s : ByteArray) (h : (ls s).all figB = true) (h1 : s.size = 1 ∨ (s.size = 2 ∧ bt s 0 ≠ 48)) (w : World) :
    Calls Tryd.prog 53 #[.string s] w fun e w' => e = .returned (told2 (worthL (ls s))) ∧ Below w.heap.size w w' := by
  have HV := Lib.hid (worth_loop_val s h h1)
  have hsz : 0 < s.size := by omega
  have hb0 := fig_bt s h 0 hsz
  have e0 : s.toList.isEmpty = false := by rw [Lib.toList_data]; cases hl : s.data.toList with | nil => (have := ls_len s; unfold ls at this; rw [hl] at this; simp at this; omega) | cons _ _ => rfl
  have e1 : decide ((2 : Int) < (s.size : Int)) = false := by simp; omega
  have hq : ((s[0].toNat : Int) == 48) = true ∧ (s.toList == [48]) = true ∨ ((s[0].toNat : Int) == 48) = false := by
    have hb := bt_eq s 0 hsz
    rcases h1 with h1 | ⟨h1, h2⟩
    · by_cases hc : bt s 0 = 48
      · left
        obtain ⟨c, e, e2⟩ := ls_one s h1
        refine ⟨by simp; omega, ?_⟩
        rw [Lib.toList_data]
        show (ls s == [48]) = true
        rw [e]
        have : c = 48 := by apply UInt8.toNat_inj.1; rw [e2, hc]; rfl
        rw [this]; rfl
      · right; simp; omega
    · right; simp; omega
  have hlt : s[0].toNat < 256 := s[0].toNat_lt
  have Hh := Lib.hid h
  have Hh1 := Lib.hid (show s.size ≤ 2 by omega)
  clear h1 h hb0
  rcases hq with ⟨e2, e3⟩ | e2
  all_goals
    go_enter Tryd.func53, Tryd.ntmps53
    go_wp2
    go_loopw [4, 6] (fun v4 _ wr => ∃ k : Nat, v4 = .int .i64 (valN s k : Nat) ∧ wr.heap[w.heap.size]? = some (.stringIter s k) ∧ Below w.heap.size w wr ∧ k ≤ s.size) (fun _ _ wr => s.size - wr.iterPos w.heap.size)
    case atStart => exact ⟨0, rfl, World.iter_heap w s 0, (Below.refl _ w).alloc (Nat.le_refl _) _, Nat.zero_le _⟩
    case round =>
      obtain ⟨k, rfl, hit, hb, hk⟩ := hrel
      have hpos0 := iterPos_of hit
      by_cases hlt2 : k < s.size
      · have hf := fig_bt s Hh.out k hlt2
        have hnx : ∀ ty, (Instr.next (.pointer (some ⟨w.heap.size, 0, none⟩)) true ty).run Tryd.prog wr = _ := fun ty => Lib.run_next_any_at wr w.heap.size s k ty hit hlt2
        have hde := dec_1 s k (by omega)
        have hit2 := Lib.iterAt_heap wr w.heap.size s k (k + (Utf8.decode s k).2) hit
        have hb2 := Lib.below_iterAt hb (k := w.heap.size) (Nat.le_refl _) s (k + (Utf8.decode s k).2)
        rw [hde] at hnx hit2 hb2
        simp only at hnx hit2 hb2
        have hv := valN_lt s Hh.out k hk (Nat.le_trans hk Hh1.out)
        have HS := Lib.hid (show valN s (k + 1) = valN s k * 10 + (bt s k - 48) from rfl)
        generalize wr.iterAt w.heap.size s (k + 1) = W1 at *
        clear hde
        generalize bt s k = c at *
        generalize hvk : valN s k = v at *
        have f1 : (48 : Int) ≤ (c : Int) := by omega
        have f2 : (c : Int) ≤ 57 := by omega
        have f3 : (v : Int) ≤ 99 := by omega
        clear hf
        go_wp2_with fail
        go_roundw
        case rel =>
          refine ⟨k + 1, ?_, hit2, hb2, by omega⟩
          rw [HS.out]
          congr 1
          omega
        case measure =>
          rw [hpos0, show W1.iterPos w.heap.size = k + 1 from iterPos_of hit2]
          omega
      · have hnx : ∀ ty, (Instr.next (.pointer (some ⟨w.heap.size, 0, none⟩)) true ty).run Tryd.prog wr = _ := fun ty => Lib.run_next_end_at wr w.heap.size s k ty hit hlt2
        obtain rfl : k = s.size := by omega
        go_wp2_with fail
        go_ret2
        rw [HV.out]
        exact ⟨rfl, hb⟩

set_option maxRecDepth 100000 in
theorem worth_no (s : ByteArray) (h1 : s.size = 0 ∨ 2 < s.size ∨ (s.size = 2 ∧ bt s 0 = 48)) (w : World) :
    Calls Tryd.prog 53 #[.string s] w fun e w' => e = .returned (told2 (worthL (ls s))) ∧ Below w.heap.size w w' := by
  rcases h1 with h1 | h1 | ⟨h1, h2⟩
  · have hl : ls s = [] := List.eq_nil_of_length_eq_zero (by rw [ls_len]; exact h1)
    have e0 : s.toList.isEmpty = true := by rw [Lib.toList_data]; show (ls s).isEmpty = true; rw [hl]; rfl
    rw [hl]
    clear h1 hl
    go_enter Tryd.func53, Tryd.ntmps53
    go_wp2
    go_ret2
    exact ⟨rfl, Below.refl _ _⟩
  · have HL : Hid (worthL (ls s) = none) := by
      show _ = _
      have := ls_len s
      match hl : ls s with
      | [] => rw [hl] at this; simp at this; omega
      | [c] => rw [hl] at this; simp at this; omega
      | [c, d] => rw [hl] at this; simp at this; omega
      | _ :: _ :: _ :: _ => rfl
    have e0 : s.toList.isEmpty = false := by rw [Lib.toList_data]; cases hl : s.data.toList with | nil => (have := ls_len s; unfold ls at this; rw [hl] at this; simp at this; omega) | cons _ _ => rfl
    have e1 : decide ((2 : Int) < (s.size : Int)) = true := by simp; omega
    clear h1
    go_enter Tryd.func53, Tryd.ntmps53
    go_wp2
    go_ret2
    rw [HL.out]
    exact ⟨rfl, Below.refl _ _⟩
  · have HL : Hid (worthL (ls s) = none) := by
      show _ = _
      obtain ⟨c, d, e, e2, e3⟩ := ls_two s h1
      rw [e]
      have : c = 48 := by apply UInt8.toNat_inj.1; rw [e2, h2]; rfl
      rw [this]; rfl
    have hsz : 0 < s.size := by omega
    have e0 : s.toList.isEmpty = false := by rw [Lib.toList_data]; cases hl : s.data.toList with | nil => (have := ls_len s; unfold ls at this; rw [hl] at this; simp at this; omega) | cons _ _ => rfl
    have e1 : decide ((2 : Int) < (s.size : Int)) = false := by simp; omega
    have e2 : ((s[0].toNat : Int) == 48) = true := by have := bt_eq s 0 hsz; simp; omega
    have e3 : (s.toList == [48]) = false := by
      rw [Lib.toList_data]
      obtain ⟨c, d, e, _, _⟩ := ls_two s h1
      show (ls s == [48]) = false
      rw [e]; simp
    have hlt : s[0].toNat < 256 := s[0].toNat_lt
    clear h1 h2
    go_enter Tryd.func53, Tryd.ntmps53
    go_wp2
    go_ret2
    rw [HL.out]
    exact ⟨rfl, Below.refl _ _⟩

theorem worth_any (s : ByteArray) (h : (ls s).all figB = true) (w : World) : Calls Tryd.prog 53 #[.string s] w fun e w' => e = .returned (told2 (worthL (ls s))) ∧ Below w.heap.size w w' := by
  by_cases h1 : s.size = 1 ∨ (s.size = 2 ∧ bt s 0 ≠ 48)
  · exact worth_go s h h1 w
  · refine worth_no s ?_ w
    omega
end Go.Proofs.YtojdhlmmnhjolaaDoor
