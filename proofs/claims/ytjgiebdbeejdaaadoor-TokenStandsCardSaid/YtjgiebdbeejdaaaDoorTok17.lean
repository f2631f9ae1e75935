/- The document's answer: names, byte by byte. -/
import Derived.Test.YtjgiebdbeejdaaaDoorTok16
namespace Go.Proofs.YtjgiebdbeejdaaaDoor
open Go.RowKit Go.Joins
set_option linter.unusedVariables false

theorem refLetter_any (c : Int) (w : World) (h0 : 0 ≤ c) (h1 : c < 256) : Calls Tryd.prog 23 #[.int .u8 c] w fun e w' => e = .returned (.bool (isLet c)) ∧ w = w' := by
  have H : Hid (isLet c = ((decide (97 ≤ c) && decide (c ≤ 122)) || (decide (65 ≤ c) && decide (c ≤ 90)) || c == 95)) := rfl
  go_enter Tryd.func23, Tryd.ntmps23
  go_wp2
  all_goals
    go_ret
    refine ⟨?_, rfl⟩
    rw [H.out]
    refine congrArg Ending.returned ?_
    show Value.bool _ = Value.bool _
    refine congrArg Value.bool ?_
    first
      | rfl
      | (rw [Bool.eq_iff_iff]; simp; done)
      | (rw [Bool.eq_iff_iff]; simp; omega)

theorem refFigure_any (c : Int) (w : World) (h0 : 0 ≤ c) (h1 : c < 256) : Calls Tryd.prog 24 #[.int .u8 c] w fun e w' => e = .returned (.bool (isFig c)) ∧ w = w' := by
  have H : Hid (isFig c = (decide (48 ≤ c) && decide (c ≤ 57))) := rfl
  go_enter Tryd.func24, Tryd.ntmps24
  go_wp2
  all_goals
    go_ret
    refine ⟨?_, rfl⟩
    rw [H.out]
    refine congrArg Ending.returned ?_
    show Value.bool _ = Value.bool _
    refine congrArg Value.bool ?_
    first
      | rfl
      | (rw [Bool.eq_iff_iff]; simp; done)
      | (rw [Bool.eq_iff_iff]; simp; omega)

/-- From byte k on: letters and figures. -/
def restB (s : ByteArray) : Nat → Nat → Bool
  | 0, _ => true
  | f + 1, k => if k < s.size then isIn (bt s k) && restB s f (k + 1) else true
def refNameB (s : ByteArray) : Bool := if s.size = 0 then false else if isFig (bt s 0) then false else if wordN s ≠ 0 then false else restB s s.size 0

theorem size_pos_list (s : ByteArray) (h : s.size ≠ 0) : (s.toList == []) = false := by
  cases e : s.toList with
  | nil => have := list_size s; rw [e] at this; simp at this; omega
  | cons x l => rfl

theorem refName_any (s : ByteArray) (hs : s.size < 1000) (w : World) : Calls Tryd.prog 16 #[.string s] w fun e w' => e = .returned (.bool (refNameB s)) ∧ Below w.heap.size w w' := by
  have HR : Hid (refNameB s = if s.size = 0 then false else if isFig (bt s 0) then false else if wordN s ≠ 0 then false else restB s s.size 0) := rfl
  by_cases h0 : s.size = 0
  · have HE : Hid (refNameB s = false) := by show _ = _; rw [HR.out, if_pos h0]
    have g : (s.toList == []) = true := by
      have := list_size s
      rw [h0] at this
      rw [List.length_eq_zero_iff.1 this]; rfl
    clear h0
    go_enter Tryd.func16, Tryd.ntmps16
    go_wp2
    go_ret
    rw [HE.out]
    exact ⟨rfl, Below.refl _ w⟩
  · have g := size_pos_list s h0
    have hp : 0 < s.size := by omega
    have HN := Lib.hid h0
    have eb := bt_eq s 0 hp
    have hlt := bt_lt s 0
    clear h0
    go_enter Tryd.func16, Tryd.ntmps16
    go_wp2_with fail
    rw [← eb]
    refine (refFigure_any (bt s 0) w (by omega) (by omega)).mono ?_
    rintro e w' ⟨rfl, rfl⟩
    cases hf : isFig (bt s 0)
    case true =>
      have HE : Hid (refNameB s = false) := by show _ = _; rw [HR.out, if_neg HN.out, if_pos hf]
      clear hf eb
      go_wp2
      go_ret
      rw [HE.out]
      exact ⟨rfl, Below.refl _ w⟩
    have HF := Lib.hid hf
    clear hf
    go_wp2_with fail
    refine (refWord_any s w).mono ?_
    rintro e w1 ⟨rfl, hb⟩
    have HB := Lib.hid hb
    clear hb eb hlt
    by_cases hw : wordN s = 0
    case neg =>
      have HE : Hid (refNameB s = false) := by show _ = _; rw [HR.out, if_neg HN.out, if_neg (by rw [HF.out]; simp), if_pos hw]
      have gw : (((wordN s : Nat) : Int) == 0) = false := beq_eq_false_iff_ne.2 (by omega)
      have gw2 : (((wordN s : Nat) : Int) != 0) = true := by rw [bne, gw]; rfl
      clear hw
      generalize wordN s = n at *
      go_wp2
      go_ret
      rw [HE.out]
      exact ⟨rfl, HB.out⟩
    have HE : Hid (refNameB s = restB s s.size 0) := by show _ = _; rw [HR.out, if_neg HN.out, if_neg (by rw [HF.out]; simp), if_neg (by rw [hw]; simp)]
    rw [hw]
    clear hw
    go_wp2
    go_loop [3] (fun v => ∃ k f : Nat, v = .int .i64 k ∧ k ≤ s.size ∧ s.size ≤ k + f ∧ Hid (restB s f k = restB s s.size 0)) (fun v => s.size - (intOf v).toNat)
    case atStart => exact ⟨0, s.size, rfl, Nat.zero_le _, by omega, rfl⟩
    case round =>
      obtain ⟨k, f, rfl, hk, hf, HR2⟩ := hrel
      by_cases hlk : k < s.size
      · have eb := bt_eq s k hlk
        have hbl := bt_lt s k
        have gk : decide (k < s.size) = true := decide_eq_true hlk
        obtain ⟨f, rfl⟩ : ∃ f', f = f' + 1 := ⟨f - 1, by omega⟩
        have HR3 : Hid ((isIn (bt s k) && restB s f (k + 1)) = restB s s.size 0) := by
          show _ = _
          have e := HR2.out
          rw [restB, if_pos hlk] at e
          exact e
        clear HR2
        have HI : Hid (isIn (bt s k) = (isLet (bt s k) || isFig (bt s k))) := rfl
        go_wp2_with fail
        rw [← eb]
        refine (refLetter_any (bt s k) w1 (by omega) (by omega)).mono ?_
        rintro e w' ⟨rfl, rfl⟩
        cases hl : isLet (bt s k)
        · have HL := Lib.hid hl
          clear hl
          go_wp2_with fail
          rw [← eb]
          refine (refFigure_any (bt s k) w1 (by omega) (by omega)).mono ?_
          rintro e w' ⟨rfl, rfl⟩
          cases hg : isFig (bt s k)
          · have HX : Hid (restB s s.size 0 = false) := by show _ = _; rw [← HR3.out, HI.out, HL.out, hg]; rfl
            clear hg eb
            go_wp2
            go_ret
            rw [HE.out, HX.out]
            exact ⟨rfl, HB.out⟩
          · have HX : Hid (restB s f (k + 1) = restB s s.size 0) := by show _ = _; rw [← HR3.out, HI.out, HL.out, hg]; rfl
            clear hg eb
            go_wp2
            go_round
            case rel => exact ⟨k + 1, f, by go_num, hlk, by omega, HX.out⟩
            case measure => simp [intOf]; omega
        · have HX : Hid (restB s f (k + 1) = restB s s.size 0) := by show _ = _; rw [← HR3.out, HI.out, hl]; rfl
          clear hl eb
          go_wp2
          go_round
          case rel => exact ⟨k + 1, f, by go_num, hlk, by omega, HX.out⟩
          case measure => simp [intOf]; omega
      · have gk : decide (k < s.size) = false := decide_eq_false hlk
        have HX : Hid (restB s s.size 0 = true) := by
          show _ = _
          rw [← HR2.out]
          cases f with
          | zero => rfl
          | succ f => rw [restB, if_neg hlk]
        go_wp2
        go_ret
        rw [HE.out, HX.out]
        exact ⟨rfl, HB.out⟩
end Go.Proofs.YtjgiebdbeejdaaaDoor
