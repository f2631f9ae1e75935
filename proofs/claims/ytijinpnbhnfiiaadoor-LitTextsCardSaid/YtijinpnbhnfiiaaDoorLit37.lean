/- The document's texts: Quote. -/
import Derived.Test.YtijinpnbhnfiiaaDoorLitQ
import Derived.Laws.Concat
import Derived.BigQuiet
import Derived.Deep.QuietTactic
namespace Go.Proofs.YtijinpnbhnfiiaaDoor
open Go.RowKit
set_option linter.unusedVariables false

/-- A byte as two digits. -/
def hxB (c : Nat) : ByteArray := ⟨#[92, 120]⟩ ++ hexT.extract (c / 16) (c / 16 + 1) ++ hexT.extract (c % 16) (c % 16 + 1)
theorem Below.drewN {B : Nat} {a w : World} (h : Below B a w) (n : Nat) : Below B a (w.drewN n) := ⟨h.os, h.tape, h.output, h.size, h.block⟩
theorem sub_one (s : ByteArray) (i : Nat) (h : i < s.size) : (s.extract i (i + 1)).data.toList = [UInt8.ofNat (bt s i)] := by
  rw [bt_eq s i h, ByteArray.data_extract, Array.toList_extract]
  simp only [List.extract_eq_take_drop]
  rw [show i + 1 - i = 1 from by omega, List.drop_eq_getElem_cons (by simpa using h), List.take_succ_cons, List.take_zero]
  congr 1
  rw [show UInt8.ofNat s[i].toNat = s[i] from by simp]
  rfl
theorem extend (acc q : ByteArray) (s : ByteArray) (k i : Nat) (c : Nat) (h : i < s.size) (hc : bt s i = c) (hq : q.data.toList = (quotedB c).data.toList) (r : List UInt8) (HR : acc.data.toList ++ quoteL s (k + 1) i = r) : (acc ++ q).data.toList ++ quoteL s k (i + 1) = r := by
  rw [← HR, quoteL, if_pos h, ByteArray.data_append, Array.toList_append, List.append_assoc, hc, hq]

set_option maxHeartbeats 2000000 in
set_option maxRecDepth 1000000 in
theorem refQuote_any (s : ByteArray) (hs : s.size ≤ 500) (w : World) : Calls Tryd.prog 15 #[.string s] w fun e w' => e = .returned (.string (quoteB s)) ∧ Below w.heap.size w w' := by
  have HQ : Hid (quoteB s = ⟨(34 :: (quoteL s s.size 0 ++ [34])).toArray⟩) := rfl
  go_enter Tryd.func15, Tryd.ntmps15
  go_wp2
  go_loopw [3, 4] (fun v iv wr => ∃ (i k : Nat) (acc : ByteArray), v = .string acc ∧ iv = .int .i64 i ∧ i ≤ s.size ∧ s.size ≤ i + k ∧ acc.size ≤ 4 * i + 1 ∧ Hid (acc.data.toList ++ quoteL s k i = 34 :: quoteL s s.size 0) ∧ Hid (Below w.heap.size w wr)) (fun _ iv _ => s.size - (intOf iv).toNat)
  case atStart => exact ⟨0, s.size, ⟨#[34]⟩, rfl, rfl, Nat.zero_le _, by omega, by decide, rfl, Below.refl _ w⟩
  case round =>
    obtain ⟨i, k, acc, rfl, rfl, hi, hk, hl, HE, HB⟩ := hrel
    by_cases hlt : i < s.size
    case neg =>
      have gi : decide (i < s.size) = false := decide_eq_false hlt
      have HE3 : Hid (acc.data.toList = 34 :: quoteL s s.size 0) := by
        show _ = _
        rw [← HE.out]
        cases k with
        | zero => rw [quoteL, List.append_nil]
        | succ k => rw [quoteL, if_neg hlt, List.append_nil]
      clear HE
      have KA := fun w => run_string_add_sum (P := Tryd.prog) w acc ⟨#[34]⟩ (by show _ + 1 ≤ _; omega)
      go_wp2
      go_ret
      refine ⟨?_, HB.out⟩
      rw [HQ.out]
      show Ending.returned (.string (acc ++ ⟨#[34]⟩)) = _
      congr 2
      apply ByteArray.ext
      apply Array.toList_inj.1
      rw [ByteArray.data_append, Array.toList_append, HE3.out]
      rfl
    have gi : decide (i < s.size) = true := decide_eq_true hlt
    obtain ⟨k, rfl⟩ : ∃ k', k = k' + 1 := ⟨k - 1, by omega⟩
    have eb := bt_eq s i hlt
    have lb := bt_lt s i
    have lu : s[i].toNat < 256 := by rw [← eb]; exact lb
    by_cases c34 : bt s i = 34
    · have q1 : (((s[i].toNat : Nat) : Int) == 34) = true := by rw [← eb, c34]; rfl
      have HX := Lib.hid (extend acc ⟨#[92, 34]⟩ s k i 34 hlt c34 rfl _ HE.out)
      have KA := fun w => run_string_add_sum (P := Tryd.prog) w acc ⟨#[92, 34]⟩ (by show _ + 2 ≤ _; omega)
      clear HE eb c34
      go_wp2
      go_roundw
      case rel => exact ⟨i + 1, k, _, rfl, by go_num, hlt, by omega, by rw [ByteArray.size_append]; show _ + 2 ≤ _; omega, HX.out, HB.out⟩
      case measure => simp [intOf]; omega
    have q34 : (((s[i].toNat : Nat) : Int) == 34) = false := by rw [← eb]; exact beq_eq_false_iff_ne.2 (by omega)
    by_cases c92 : bt s i = 92
    · have q1 : (((s[i].toNat : Nat) : Int) == 92) = true := by rw [← eb, c92]; rfl
      have HX := Lib.hid (extend acc ⟨#[92, 92]⟩ s k i 92 hlt c92 rfl _ HE.out)
      have KA := fun w => run_string_add_sum (P := Tryd.prog) w acc ⟨#[92, 92]⟩ (by show _ + 2 ≤ _; omega)
      clear HE eb c92 c34
      go_wp2
      go_roundw
      case rel => exact ⟨i + 1, k, _, rfl, by go_num, hlt, by omega, by rw [ByteArray.size_append]; show _ + 2 ≤ _; omega, HX.out, HB.out⟩
      case measure => simp [intOf]; omega
    have q92 : (((s[i].toNat : Nat) : Int) == 92) = false := by rw [← eb]; exact beq_eq_false_iff_ne.2 (by omega)
    by_cases c10 : bt s i = 10
    · have q1 : (((s[i].toNat : Nat) : Int) == 10) = true := by rw [← eb, c10]; rfl
      have HX := Lib.hid (extend acc ⟨#[92, 110]⟩ s k i 10 hlt c10 rfl _ HE.out)
      have KA := fun w => run_string_add_sum (P := Tryd.prog) w acc ⟨#[92, 110]⟩ (by show _ + 2 ≤ _; omega)
      clear HE eb c92 c34 c10
      go_wp2
      go_roundw
      case rel => exact ⟨i + 1, k, _, rfl, by go_num, hlt, by omega, by rw [ByteArray.size_append]; show _ + 2 ≤ _; omega, HX.out, HB.out⟩
      case measure => simp [intOf]; omega
    have q10 : (((s[i].toNat : Nat) : Int) == 10) = false := by rw [← eb]; exact beq_eq_false_iff_ne.2 (by omega)
    by_cases c9 : bt s i = 9
    · have q1 : (((s[i].toNat : Nat) : Int) == 9) = true := by rw [← eb, c9]; rfl
      have HX := Lib.hid (extend acc ⟨#[92, 116]⟩ s k i 9 hlt c9 rfl _ HE.out)
      have KA := fun w => run_string_add_sum (P := Tryd.prog) w acc ⟨#[92, 116]⟩ (by show _ + 2 ≤ _; omega)
      clear HE eb c92 c34 c10 c9
      go_wp2
      go_roundw
      case rel => exact ⟨i + 1, k, _, rfl, by go_num, hlt, by omega, by rw [ByteArray.size_append]; show _ + 2 ≤ _; omega, HX.out, HB.out⟩
      case measure => simp [intOf]; omega
    have q9 : (((s[i].toNat : Nat) : Int) == 9) = false := by rw [← eb]; exact beq_eq_false_iff_ne.2 (by omega)
    by_cases hp : 32 ≤ bt s i ∧ bt s i ≤ 126
    · have d1 : decide ((32 : Int) ≤ ((s[i].toNat : Nat) : Int)) = true := by rw [← eb]; exact decide_eq_true (by omega)
      have d2 : decide (((s[i].toNat : Nat) : Int) ≤ 126) = true := by rw [← eb]; exact decide_eq_true (by omega)
      have HX := Lib.hid (extend acc (s.extract i (i + 1)) s k i (bt s i) hlt rfl (by rw [sub_one s i hlt]; unfold quotedB; rw [if_neg c34, if_neg c92, if_neg c10, if_neg c9, if_pos hp]) _ HE.out)
      have hz : (s.extract i (i + 1)).size = 1 := by rw [ByteArray.size_extract]; omega
      have KA := fun w => run_string_add_sum (P := Tryd.prog) w acc (s.extract i (i + 1)) (by rw [hz]; omega)
      clear HE eb c92 c34 c10 c9 hp
      go_wp2
      go_roundw
      case rel => exact ⟨i + 1, k, _, rfl, by go_num, hlt, by omega, by rw [ByteArray.size_append, hz]; omega, HX.out, HB.out⟩
      case measure => simp [intOf]; omega
    have hq : (quotedB (bt s i)) = hxB s[i].toNat := by
      unfold quotedB
      rw [if_neg c34, if_neg c92, if_neg c10, if_neg c9, if_neg hp, eb]
      rfl
    have hz : (hxB s[i].toNat).size ≤ 4 := by
      rw [← hq]
      exact quotedB_size _ lb
    have HX := Lib.hid (extend acc (hxB s[i].toNat) s k i (bt s i) hlt rfl (by rw [← hq]) _ HE.out)
    have KA := fun w => run_string_add_sum (P := Tryd.prog) w acc (⟨#[92, 120]⟩ ++ hexT.extract (s[i].toNat / 16) (s[i].toNat / 16 + 1) ++ hexT.extract (s[i].toNat % 16) (s[i].toNat % 16 + 1)) (by have : (⟨#[92, 120]⟩ ++ hexT.extract (s[i].toNat / 16) (s[i].toNat / 16 + 1) ++ hexT.extract (s[i].toNat % 16) (s[i].toNat % 16 + 1) : ByteArray).size ≤ 4 := hz; omega)
    have HZ := Lib.hid hz
    have hg : decide ((32 : Int) ≤ ((s[i].toNat : Nat) : Int)) = false ∨ (decide ((32 : Int) ≤ ((s[i].toNat : Nat) : Int)) = true ∧ decide (((s[i].toNat : Nat) : Int) ≤ 126) = false) := by
      rw [← eb]
      by_cases h : 32 ≤ bt s i
      · exact .inr ⟨decide_eq_true (by omega), decide_eq_false (by omega)⟩
      · exact .inl (decide_eq_false (by omega))
    clear HE eb c92 c34 c10 c9 hp hq hz
    rcases hg with d1 | ⟨d1, d2⟩
    all_goals
      go_wp2_with fail
      go_quiet (fail)
      go_wp2
      go_roundw
      case rel => exact ⟨i + 1, k, acc ++ hxB s[i].toNat, rfl, by go_num, hlt, by omega, by rw [ByteArray.size_append]; have := HZ.out; omega, HX.out, Go.Proofs.YtijinpnbhnfiiaaDoor.Below.drewN HB.out _⟩
      case measure => simp [intOf]; omega
end Go.Proofs.YtijinpnbhnfiiaaDoor
