/- The document's numbers: digit, Plain. -/
import Derived.Test.YtijinpnbhnfiiaaDoorLit30
namespace Go.Proofs.YtijinpnbhnfiiaaDoor
open Go.RowKit
set_option linter.unusedVariables false

/-- What a byte is worth as a digit; 99: nothing. -/
def dgB (c : Nat) : Nat := if 48 ≤ c ∧ c ≤ 57 then c - 48 else if 97 ≤ c ∧ c ≤ 102 then c - 97 + 10 else if 65 ≤ c ∧ c ≤ 70 then c - 65 + 10 else 99
theorem refDigit_any (c : Nat) (hc : c < 256) (w : World) : Calls Tryd.prog 19 #[.int .u8 c] w fun e w' => e = .returned (.int .i64 (dgB c)) ∧ w = w' := by
  have HD : Hid (dgB c = if 48 ≤ c ∧ c ≤ 57 then c - 48 else if 97 ≤ c ∧ c ≤ 102 then c - 97 + 10 else if 65 ≤ c ∧ c ≤ 70 then c - 65 + 10 else 99) := rfl
  by_cases h1 : 48 ≤ c ∧ c ≤ 57
  · have HE : Hid ((dgB c : Int) = (c : Int) - 48) := by show _ = _; rw [HD.out, if_pos h1]; omega
    obtain ⟨h1, h2⟩ := h1
    go_enter Tryd.func19, Tryd.ntmps19
    go_wp2
    all_goals first
      | (exfalso; omega)
      | (go_ret; rw [HE.out]; exact ⟨rfl, rfl⟩)
  by_cases h2 : 97 ≤ c ∧ c ≤ 102
  · have HE : Hid ((dgB c : Int) = (c : Int) - 97 + 10) := by show _ = _; rw [HD.out, if_neg h1, if_pos h2]; omega
    obtain ⟨h2, h3⟩ := h2
    go_enter Tryd.func19, Tryd.ntmps19
    go_wp2
    all_goals first
      | (exfalso; omega)
      | (go_ret; rw [HE.out]; exact ⟨rfl, rfl⟩)
  by_cases h3 : 65 ≤ c ∧ c ≤ 70
  · have HE : Hid ((dgB c : Int) = (c : Int) - 65 + 10) := by show _ = _; rw [HD.out, if_neg h1, if_neg h2, if_pos h3]; omega
    obtain ⟨h3, h4⟩ := h3
    go_enter Tryd.func19, Tryd.ntmps19
    go_wp2
    all_goals first
      | (exfalso; omega)
      | (go_ret; rw [HE.out]; exact ⟨rfl, rfl⟩)
  · have HE : Hid ((dgB c : Int) = 99) := by show _ = _; rw [HD.out, if_neg h1, if_neg h2, if_neg h3]; rfl
    have H1 := Lib.hid h1
    have H2 := Lib.hid h2
    have H3 := Lib.hid h3
    clear h1 h2 h3
    go_enter Tryd.func19, Tryd.ntmps19
    go_wp2
    all_goals first
      | (exfalso; have := H1.out; have := H2.out; have := H3.out; omega)
      | (go_ret; rw [HE.out]; exact ⟨rfl, rfl⟩)

/-- As the program asks. -/
theorem dgB_digW (c base : Nat) (hb : base ≤ 16) : (digW (c : Int) base < base ↔ dgB c < base) ∧ (dgB c < base → (digW (c : Int) base).toNat = dgB c) := by
  unfold digW dgB
  by_cases h1 : 48 ≤ c ∧ c ≤ 57
  · rw [if_pos (by omega), if_pos h1]; omega
  by_cases h2 : 97 ≤ c ∧ c ≤ 102
  · rw [if_neg (by omega), if_pos (by omega), if_neg h1, if_pos h2]; omega
  by_cases h3 : 65 ≤ c ∧ c ≤ 70
  · rw [if_neg (by omega), if_neg (by omega), if_pos (by omega), if_neg h1, if_neg h2, if_pos h3]; omega
  · rw [if_neg (by omega), if_neg (by omega), if_neg (by omega), if_neg h1, if_neg h2, if_neg h3]; omega

/-! ### Plain -/
/-- From k on: figures. -/
def figB (s : ByteArray) : Nat → Nat → Bool
  | 0, _ => true
  | f + 1, k => if k < s.size then (if bt s k < 48 ∨ 57 < bt s k then false else figB s f (k + 1)) else true
theorem plain_figB (s : ByteArray) : ∀ f p, s.size ≤ p + f → plainF s f p = figB s f p
  | 0, p, h => rfl
  | f + 1, p, h => by
    rw [plainF, figB]
    by_cases hp : p < s.size
    · rw [if_pos hp, if_pos hp]
      rcases sign_kind s p with ⟨e1, e2, e3⟩ | ⟨e1, e2, e3⟩
      · rw [e1, e2, plain_figB s f (p + 1) (by omega)]
      · rw [if_pos (by omega), if_pos (by omega)]
    · rw [if_neg hp, if_neg hp]

set_option maxHeartbeats 2000000 in
set_option maxRecDepth 100000 in
theorem refPlain_any (s : ByteArray) (hs : s.size ≤ 300) (w : World) : Calls Tryd.prog 10 #[.string s] w fun e w' => e = .returned (.bool (plainB s)) ∧ w = w' := by
  have HP : Hid (plainB s = if s.size = 0 ∨ 200 < s.size ∨ (bt s 0 = 48 ∧ s.size ≠ 1) then false else figB s s.size 0) := by
    show _ = _
    unfold plainB
    rw [plain_figB s s.size 0 (by omega)]
  by_cases h0 : s.size = 0
  · have HE : Hid (plainB s = false) := by show _ = _; rw [HP.out, if_pos (.inl h0)]
    have g0 : ((s.size : Int) == 0) = true := by rw [h0]; rfl
    clear h0
    go_enter Tryd.func10, Tryd.ntmps10
    go_wp2
    go_ret
    rw [HE.out]
    exact ⟨rfl, rfl⟩
  have g0 : ((s.size : Int) == 0) = false := beq_eq_false_iff_ne.2 (by omega)
  by_cases h2 : 200 < s.size
  · have HE : Hid (plainB s = false) := by show _ = _; rw [HP.out, if_pos (.inr (.inl h2))]
    have g1 : decide ((200 : Int) < (s.size : Int)) = true := decide_eq_true (by omega)
    clear h0 h2
    go_enter Tryd.func10, Tryd.ntmps10
    go_wp2
    go_ret
    rw [HE.out]
    exact ⟨rfl, rfl⟩
  have g1 : decide ((200 : Int) < (s.size : Int)) = false := decide_eq_false (by omega)
  have hp : 0 < s.size := by omega
  have eb := bt_eq s 0 hp
  by_cases h48 : bt s 0 = 48 ∧ s.size ≠ 1
  · have HE : Hid (plainB s = false) := by show _ = _; rw [HP.out, if_pos (.inr (.inr h48))]
    have g2 : decide ((1 : Int) < (s.size : Int)) = true := decide_eq_true (by omega)
    have g3 : (((s[0].toNat : Nat) : Int) == 48) = true := by rw [← eb, h48.1]; rfl
    clear h0 h2 h48 eb
    go_enter Tryd.func10, Tryd.ntmps10
    go_wp2
    go_ret
    rw [HE.out]
    exact ⟨rfl, rfl⟩
  have HE : Hid (plainB s = figB s s.size 0) := by show _ = _; rw [HP.out, if_neg (by omega)]
  have hcase : decide ((1 : Int) < (s.size : Int)) = false ∨ (decide ((1 : Int) < (s.size : Int)) = true ∧ (((s[0].toNat : Nat) : Int) == 48) = false) := by
    by_cases h1 : s.size = 1
    · exact .inl (decide_eq_false (by omega))
    · exact .inr ⟨decide_eq_true (by omega), beq_eq_false_iff_ne.2 (by rw [← eb]; omega)⟩
  clear h0 h2 h48 eb
  rcases hcase with g2 | ⟨g2, g3⟩
  all_goals
    go_enter Tryd.func10, Tryd.ntmps10
    go_wp2
    go_loop [3] (fun v => ∃ k f : Nat, v = .int .i64 k ∧ k ≤ s.size ∧ s.size ≤ k + f ∧ Hid (figB s f k = figB s s.size 0)) (fun v => s.size - (intOf v).toNat)
    case atStart => exact ⟨0, s.size, rfl, Nat.zero_le _, by omega, rfl⟩
    case round =>
      obtain ⟨k, f, rfl, hk, hf, HR⟩ := hrel
      by_cases hlt : k < s.size
      · have gk : decide (k < s.size) = true := decide_eq_true hlt
        have ek := bt_eq s k hlt
        have lk := bt_lt s k
        obtain ⟨f, rfl⟩ : ∃ f', f = f' + 1 := ⟨f - 1, by omega⟩
        have HR2 : Hid ((if bt s k < 48 ∨ 57 < bt s k then false else figB s f (k + 1)) = figB s s.size 0) := by
          show _ = _
          have e := HR.out
          rw [figB, if_pos hlt] at e
          exact e
        clear HR
        by_cases hc : bt s k < 48 ∨ 57 < bt s k
        · have HX : Hid (figB s s.size 0 = false) := by show _ = _; rw [← HR2.out, if_pos hc]
          have hcc : decide (((s[k].toNat : Nat) : Int) < 48) = true ∨ (decide (((s[k].toNat : Nat) : Int) < 48) = false ∧ decide ((57 : Int) < ((s[k].toNat : Nat) : Int)) = true) := by
            rw [← ek]
            by_cases h : bt s k < 48
            · exact .inl (decide_eq_true (by omega))
            · exact .inr ⟨decide_eq_false (by omega), decide_eq_true (by omega)⟩
          clear hc ek lk
          rcases hcc with q1 | ⟨q1, q2⟩
          all_goals
            go_wp2
            go_ret
            rw [HE.out, HX.out]
            exact ⟨rfl, rfl⟩
        · have HX : Hid (figB s f (k + 1) = figB s s.size 0) := by show _ = _; rw [← HR2.out, if_neg hc]
          have q1 : decide (((s[k].toNat : Nat) : Int) < 48) = false := by rw [← ek]; exact decide_eq_false (by omega)
          have q2 : decide ((57 : Int) < ((s[k].toNat : Nat) : Int)) = false := by rw [← ek]; exact decide_eq_false (by omega)
          clear hc ek lk
          go_wp2
          go_round
          case rel => exact ⟨k + 1, f, by go_num, hlt, by omega, HX.out⟩
          case measure => simp [intOf]; omega
      · have gk : decide (k < s.size) = false := decide_eq_false hlt
        have HX : Hid (figB s s.size 0 = true) := by
          show _ = _
          rw [← HR.out]
          cases f with
          | zero => rfl
          | succ f => rw [figB, if_neg hlt]
        go_wp2
        go_ret
        rw [HE.out, HX.out]
        exact ⟨rfl, rfl⟩
end Go.Proofs.YtijinpnbhnfiiaaDoor
