/- demoticlaw03.LitValues: the walk. -/
import Derived.Test.YtnophgicbmamdaaDoorLit22
import Derived.Test.YtnophgicbmamdaaDoorText
import Derived.Laws.Concat
namespace Go.Proofs.YtnophgicbmamdaaDoor
open Go.RowKit
set_option linter.unusedVariables false

set_option maxHeartbeats 2000000 in
set_option maxRecDepth 100000 in
theorem values_walk (s : ByteArray) (w : World) (hT : Tabs w) :
    Calls Tryd.prog 8 #[.string s] w fun e w' => e = .returned (.bool true) ∧ Below w.heap.size w w' := by
  by_cases h1 : 199 < s.size
  · have g1 : decide ((199 : Int) < s.size) = true := decide_eq_true (by omega)
    go_enter Tryd.func8, Tryd.ntmps8
    go_wp2
    go_ret
    exact ⟨rfl, Below.refl _ w⟩
  have g1 : decide ((199 : Int) < s.size) = false := decide_eq_false (by omega)
  have HT := Lib.hid hT
  have HN := Lib.hid (num_any s w)
  have HP := Lib.hid (num_plain s)
  have HER := Lib.hid (num_err s)
  have HNO := Lib.hid (num_nought s)
  clear hT
  generalize hr : numR s = r at *
  have HR := Lib.hid hr
  clear hr
  obtain ⟨n, e0⟩ := r
  go_enter Tryd.func8, Tryd.ntmps8
  go_wp2_with fail
  refine HN.out.mono ?_
  rintro e w1 ⟨rfl, hb1⟩
  have HB1 := Lib.hid hb1
  clear hb1 HN
  rcases HER.out with h0 | ⟨h0, h0'⟩
  · have h0 : e0 = 0 := h0
    subst h0
    clear HER
    go_wp2_with fail
    refine (plain_any n w1).mono ?_
    rintro e w2 ⟨rfl, hb2⟩
    have HB2 := Lib.hid (HB1.out.trans (hb2.mono HB1.out.size))
    clear hb2 HB1
    have hq : (plainB n = true ∨ (plainB n = false ∧ decide ((n.size : Int) ≤ 200) = false)) := by
      cases hp : plainB n
      · refine .inr ⟨rfl, decide_eq_false fun h => ?_⟩
        rw [HP.out n rfl (by omega)] at hp
        cases hp
      · exact .inl rfl
    clear HP
    by_cases h2 : 2 < s.size
    · have g2 : decide ((2 : Int) < s.size) = true := decide_eq_true (by omega)
      have hl0 : 0 < s.size := by omega
      have hl1 : 1 < s.size := by omega
      have b0 := bt_eq s 0 hl0
      have b1 := bt_eq s 1 hl1
      have hk : ((((s[0].toNat : Nat) : Int) == 48) = false) ∨ ((((s[0].toNat : Nat) : Int) == 48) = true ∧ (((s[1].toNat : Nat) : Int) == 120) = false ∧ (((s[1].toNat : Nat) : Int) == 98) = false ∧ (((s[1].toNat : Nat) : Int) == 111) = false) ∨
          ((((s[0].toNat : Nat) : Int) == 48) = true ∧ (bt s 0 = 48 ∧ (bt s 1 = 120 ∨ bt s 1 = 98 ∨ bt s 1 = 111)) ∧ ((((s[1].toNat : Nat) : Int) == 120) = true ∨ ((((s[1].toNat : Nat) : Int) == 120) = false ∧ (((s[1].toNat : Nat) : Int) == 98) = true) ∨ ((((s[1].toNat : Nat) : Int) == 120) = false ∧ (((s[1].toNat : Nat) : Int) == 98) = false ∧ (((s[1].toNat : Nat) : Int) == 111) = true))) := by
        rw [← b0, ← b1]
        simp only [beq_iff_eq, beq_eq_false_iff_ne]
        omega
      clear b0 b1
      rcases hk with q0 | ⟨q0, q1, q2, q3⟩ | ⟨q0, ⟨u0, u1⟩, q⟩
      · rcases hq with hp | ⟨hp, gs⟩
        all_goals
          rw [hp]
          go_wp2_with fail
          refine (awake_any w2 (HT.out.below HB2.out)).mono ?_
          rintro e w3 ⟨rfl, hb3⟩
          have HB3 := Lib.hid (HB2.out.trans (hb3.mono HB2.out.size))
          clear hb3
          go_wp2
          go_ret
          exact ⟨rfl, HB3.out⟩
      · rcases hq with hp | ⟨hp, gs⟩
        all_goals
          rw [hp]
          go_wp2_with fail
          refine (awake_any w2 (HT.out.below HB2.out)).mono ?_
          rintro e w3 ⟨rfl, hb3⟩
          have HB3 := Lib.hid (HB2.out.trans (hb3.mono HB2.out.size))
          clear hb3
          go_wp2
          go_ret
          exact ⟨rfl, HB3.out⟩
      · have hno := HNO.out (s.extract 0 2 ++ ⟨#[48]⟩ ++ s.extract 2 s.size) u0 u1 h2 (by omega) (by
          rw [ByteArray.data_append, ByteArray.data_append, Array.toList_append, Array.toList_append, ByteArray.data_extract, ByteArray.data_extract, Array.toList_extract, Array.toList_extract, List.extract_eq_take_drop, List.extract_eq_take_drop, List.drop_zero, List.append_assoc, List.take_of_length_le (l := List.drop 2 s.data.toList) (by simp)]
          rfl)
        have HN2 : Hid (∀ v : Kept w2, Calls Tryd.prog 10 #[.string (s.extract 0 2 ++ ⟨#[48]⟩ ++ s.extract 2 s.size)] v.W fun e w' => e = .returned (.tuple #[.string n, .int .i64 0]) ∧ Below v.W.heap.size v.W w') := fun v => by
          have := num_any (s.extract 0 2 ++ ⟨#[48]⟩ ++ s.extract 2 s.size) v.W
          rw [hno] at this
          exact this
        have KA := fun w => run_string_add_sum (P := Tryd.prog) w (s.extract 0 2) ⟨#[48]⟩ (by rw [ByteArray.size_extract]; show _ + 1 ≤ _; omega)
        have KB := fun w => run_string_add_sum (P := Tryd.prog) w (s.extract 0 2 ++ ⟨#[48]⟩) (s.extract 2 s.size) (by rw [ByteArray.size_append, ByteArray.size_extract, ByteArray.size_extract]; show _ + 1 + _ ≤ _; omega)
        clear hno u0 u1 HNO
        rcases q with q1 | ⟨q1, q2⟩ | ⟨q1, q2, q3⟩
        all_goals
          rcases hq with hp | ⟨hp, gs⟩
          all_goals
            rw [hp]
            go_wp2_with fail
            refine wp_region_kept (by kernel_rfl) (by kernel_rfl) ?_
            repeat (go_big_quiet_step ((go_at_call 10; exact kept_call (HN2.out _))))
            refine wpQuiet_nil ?_
            rintro _ ⟨v, rfl⟩
            have HBV := Lib.hid (HB2.out.trans (v.h.mono HB2.out.size))
            go_wp2_with fail
            refine (awake_any v.W (HT.out.below HBV.out)).mono ?_
            rintro e w3 ⟨rfl, hb3⟩
            have HB3 := Lib.hid (HBV.out.trans (hb3.mono HBV.out.size))
            clear hb3
            go_wp2
            go_ret
            exact ⟨rfl, HB3.out⟩
    · have g2 : decide ((2 : Int) < s.size) = false := decide_eq_false (by omega)
      rcases hq with hp | ⟨hp, gs⟩
      all_goals
        rw [hp]
        go_wp2_with fail
        refine (awake_any w2 (HT.out.below HB2.out)).mono ?_
        rintro e w3 ⟨rfl, hb3⟩
        have HB3 := Lib.hid (HB2.out.trans (hb3.mono HB2.out.size))
        clear hb3
        go_wp2
        go_ret
        exact ⟨rfl, HB3.out⟩
  · obtain rfl : n = ⟨#[]⟩ := h0
    have g0 : (e0 == 0) = false := beq_eq_false_iff_ne.2 h0'
    have gn0 : (e0 != 0) = true := by rw [bne, g0]; rfl
    clear h0' HER HP HNO HR
    go_wp2_with fail
    refine (awake_any w1 (HT.out.below HB1.out)).mono ?_
    rintro e w2 ⟨rfl, hb2⟩
    have HB2 := Lib.hid (HB1.out.trans (hb2.mono HB1.out.size))
    clear hb2
    go_wp2
    go_ret
    exact ⟨rfl, HB2.out⟩
end Go.Proofs.YtnophgicbmamdaaDoor
