/- VerBack: what is written is read as it was. -/
import Derived.Test.YtnghlhkgeahfmaaDoorVer17
namespace Go.Proofs.YtnghlhkgeahfmaaDoor
open Go.RowKit
set_option linter.unusedVariables false

theorem textV_empty (m : Int) : (textV m).toList.isEmpty = decide (m < 0 ∨ 99 < m) := by
  rw [empty_ls]
  unfold textV
  by_cases h : m < 0 ∨ 99 < m
  · rw [if_pos h, decide_eq_true h]; rfl
  · rw [if_neg h, decide_eq_false h]; rfl

set_option maxRecDepth 100000 in
theorem write_no (p : ByteArray) (m : Int) (w : World) (h : m < 0 ∨ 99 < m ∨ pathL (ls p) = false) (hp : p.size ≤ 300) (h0 : -9223372036854775808 ≤ m) (h1 : m ≤ 9223372036854775807) (hm : MaxLen w) :
    Calls Tryd.prog 19 #[.agg #[.string p, .int .i64 m]] w fun e w' => e = .returned (.slice none 0 0) ∧ Below w.heap.size w w' := by
  have c1 := fun w => text_any m h0 h1 w
  have c2 := path_any p (by omega)
  have HM := Lib.hid hm
  have he := textV_empty m
  have HA := Lib.hid (heap_alloc_new w (.cells #[.string p, .int .i64 m] 33))
  have HB := Lib.hid ((Below.refl w.heap.size w).alloc (Nat.le_refl _) (.cells #[.string p, .int .i64 m] 33))
  by_cases hb : m < 0 ∨ 99 < m
  · rw [decide_eq_true hb] at he
    generalize textV m = v at *
    clear h hb c2 hm hp h0 h1
    go_enter Tryd.func19, Tryd.ntmps19
    go_wp2_with ((with_reducible refine (c1 _).mono ?_); rintro e w1 ⟨rfl, hb⟩; have HB1 := Lib.hid (HB.out.trans (hb.mono HB.out.size)); clear hb)
    go_ret
    exact ⟨rfl, HB1.out⟩
  · rw [decide_eq_false hb] at he
    have hpf : pathL (ls p) = false := by
      rcases h with h | h | h
      · exact absurd (.inl h) hb
      · exact absurd (.inr h) hb
      · exact h
    rw [hpf] at c2
    generalize textV m = v at *
    clear h hb hm hp h0 h1 hpf
    go_enter Tryd.func19, Tryd.ntmps19
    go_wp2_with (first
      | ((with_reducible refine (c1 _).mono ?_); rintro e w1 ⟨rfl, hb⟩; have HB1 := Lib.hid (HB.out.trans (hb.mono HB.out.size)); obtain ⟨x0, x1, _, _⟩ := two_cells ((hb.block _ (lt_of_block HA.out)).trans HA.out); clear hb)
      | ((with_reducible refine (c2 _ (HM.out.below HB1.out)).mono ?_); rintro e w2 ⟨rfl, hb⟩; have HB2 := Lib.hid (HB1.out.trans (hb.mono HB1.out.size)); clear hb))
    go_ret
    exact ⟨rfl, HB2.out⟩

set_option maxRecDepth 100000 in
theorem write_yes (p : ByteArray) (m : Nat) (u : ByteArray) (w : World) (hm9 : m < 100) (hpp : pathL (ls p) = true) (hp : p.size ≤ 300) (hm : MaxLen w) (hu : (⟨#[109, 111, 100, 117, 108, 101, 32]⟩ : ByteArray) ++ p ++ ⟨#[10, 10, 103, 111, 32]⟩ ++ textV (m : Int) ++ ⟨#[10]⟩ = u) :
    Calls Tryd.prog 19 #[.agg #[.string p, .int .i64 (m : Nat)]] w fun e w' => ∃ A cap, e = .returned (.slice (some A) u.size cap) ∧ Text w' (some A) u ∧ Below w.heap.size w w' := by
  have c1 := fun w => text_any (m : Int) (by omega) (by omega) w
  have c2 := path_any p (by omega)
  have HM := Lib.hid hm
  have he := textV_empty (m : Int)
  rw [decide_eq_false (by omega)] at he
  have hvs : (textV (m : Int)).size ≤ 4 := by rw [textV_dig m hm9, size_mk]; have := digL_len m; simp; omega
  have HA := Lib.hid (heap_alloc_new w (.cells #[.string p, .int .i64 (m : Nat)] 33))
  have HB := Lib.hid ((Below.refl w.heap.size w).alloc (Nat.le_refl _) (.cells #[.string p, .int .i64 (m : Nat)] 33))
  rw [hpp] at c2
  generalize textV (m : Int) = v at *
  have K1 := fun w => run_string_add_sum (P := Tryd.prog) w ⟨#[109, 111, 100, 117, 108, 101, 32]⟩ p (by show 7 + p.size ≤ _; omega)
  have K2 := fun w => run_string_add_sum (P := Tryd.prog) w (⟨#[109, 111, 100, 117, 108, 101, 32]⟩ ++ p) ⟨#[10, 10, 103, 111, 32]⟩ (by rw [size_app]; show 7 + p.size + 5 ≤ _; omega)
  have K3 := fun w => run_string_add_sum (P := Tryd.prog) w (⟨#[109, 111, 100, 117, 108, 101, 32]⟩ ++ p ++ ⟨#[10, 10, 103, 111, 32]⟩) v (by rw [size_app, size_app]; show 7 + p.size + 5 + v.size ≤ _; omega)
  have K4 := fun w => run_string_add_sum (P := Tryd.prog) w (⟨#[109, 111, 100, 117, 108, 101, 32]⟩ ++ p ++ ⟨#[10, 10, 103, 111, 32]⟩ ++ v) ⟨#[10]⟩ (by rw [size_app, size_app, size_app]; show 7 + p.size + 5 + v.size + 1 ≤ _; omega)
  rw [hu] at K4
  clear hu hvs hm hp hm9 hpp
  go_enter Tryd.func19, Tryd.ntmps19
  go_wp2_with (first
    | ((with_reducible refine (c1 _).mono ?_); rintro e w1 ⟨rfl, hb⟩; have HB1 := Lib.hid (HB.out.trans (hb.mono HB.out.size)); have HA1 := Lib.hid ((hb.block _ (lt_of_block HA.out)).trans HA.out); obtain ⟨x0, x1, _, _⟩ := two_cells HA1.out; clear hb)
    | ((with_reducible refine (c2 _ (HM.out.below HB1.out)).mono ?_); rintro e w2 ⟨rfl, hb⟩; have HB2 := Lib.hid (HB1.out.trans (hb.mono HB1.out.size)); obtain ⟨y0, y1, _, _⟩ := two_cells ((hb.block _ (lt_of_block HA1.out)).trans HA1.out); clear hb))
  obtain ⟨W3, cap3, r3, _, hT3, hb3⟩ := conv_text w2 u
  rw [r3]
  simp only [Result.andThen]
  rw [Oper.upon_value]
  have HB3 := Lib.hid (HB2.out.trans (hb3.mono HB2.out.size))
  have HT3 := Lib.hid hT3
  clear r3 hT3 hb3
  go_wp2_with fail
  go_ret
  exact ⟨_, _, rfl, HT3.out, HB3.out⟩

set_option maxHeartbeats 1000000 in
set_option maxRecDepth 100000 in
theorem back_walk (s : ByteArray) (i : Int) (w : World) (hi : (Lit.int .i64 i).wf = true) (hm : MaxLen w) : Calls Tryd.prog 5 #[.string s, .int .i64 i] w fun e w' => e = .returned (.bool true) ∧ Below w.heap.size w w' := by
  have hi := bounds_i64 hi
  by_cases h1 : 300 < s.size
  · have g1 : decide ((300 : Int) < (s.size : Int)) = true := by simp; omega
    clear h1 hm hi
    go_enter Tryd.func5, Tryd.ntmps5
    go_wp2
    go_ret
    exact ⟨rfl, Below.refl _ _⟩
  have g1 : decide ((300 : Int) < (s.size : Int)) = false := by simp; omega
  have HM := Lib.hid hm
  have HA := Lib.hid (heap_alloc_new w (.cells #[.string s, .int .i64 i] 33))
  have HB := Lib.hid ((Below.refl w.heap.size w).alloc (Nat.le_refl _) (.cells #[.string s, .int .i64 i] 33))
  have hz := two_cells HA.out
  have HZ := Lib.hid hz
  have c2 := path_any s (by omega)
  by_cases hno : i < 0 ∨ 99 < i ∨ pathL (ls s) = false
  · have c1 := fun w hm => write_no s i w hno (by omega) hi.1 hi.2 hm
    clear h1 hm
    cases hp : pathL (ls s)
    · rw [hp] at c2
      clear hno hi hz
      go_enter Tryd.func5, Tryd.ntmps5
      go_wp2_with (first
        | ((with_reducible refine (c1 _ (HM.out.below HB.out)).mono ?_); rintro e w1 ⟨rfl, hb⟩; have HB1 := Lib.hid (HB.out.trans (hb.mono HB.out.size)); clear hb)
        | ((with_reducible refine (c2 _ (HM.out.below HB1.out)).mono ?_); rintro e w2 ⟨rfl, hb⟩; have HB2 := Lib.hid (HB1.out.trans (hb.mono HB1.out.size)); clear hb)
        | ((with_reducible refine (awake_any _ (HM.out.below HB2.out)).mono ?_); rintro e w3 ⟨rfl, hb⟩; have HB3 := Lib.hid (HB2.out.trans (hb.mono HB2.out.size)); clear hb))
      go_ret
      exact ⟨rfl, HB3.out⟩
    · rw [hp] at c2
      by_cases h0 : i < 0
      · have g2 : decide (i < 0) = true := decide_eq_true h0
        clear hno h0 hi hz
        go_enter Tryd.func5, Tryd.ntmps5
        go_wp2_with (first
          | ((with_reducible refine (c1 _ (HM.out.below HB.out)).mono ?_); rintro e w1 ⟨rfl, hb⟩; have HB1 := Lib.hid (HB.out.trans (hb.mono HB.out.size)); clear hb)
          | ((with_reducible refine (c2 _ (HM.out.below HB1.out)).mono ?_); rintro e w2 ⟨rfl, hb⟩; have HB2 := Lib.hid (HB1.out.trans (hb.mono HB1.out.size)); clear hb)
          | ((with_reducible refine (awake_any _ (HM.out.below HB2.out)).mono ?_); rintro e w3 ⟨rfl, hb⟩; have HB3 := Lib.hid (HB2.out.trans (hb.mono HB2.out.size)); clear hb))
        go_ret
        exact ⟨rfl, HB3.out⟩
      · have g2 : decide (i < 0) = false := decide_eq_false h0
        have g3 : decide (99 < i) = true := by
          rcases hno with h | h | h
          · exact absurd h h0
          · exact decide_eq_true h
          · rw [hp] at h; cases h
        clear hno h0 hi hz
        go_enter Tryd.func5, Tryd.ntmps5
        go_wp2_with (first
          | ((with_reducible refine (c1 _ (HM.out.below HB.out)).mono ?_); rintro e w1 ⟨rfl, hb⟩; have HB1 := Lib.hid (HB.out.trans (hb.mono HB.out.size)); clear hb)
          | ((with_reducible refine (c2 _ (HM.out.below HB1.out)).mono ?_); rintro e w2 ⟨rfl, hb⟩; have HB2 := Lib.hid (HB1.out.trans (hb.mono HB1.out.size)); clear hb)
          | ((with_reducible refine (awake_any _ (HM.out.below HB2.out)).mono ?_); rintro e w3 ⟨rfl, hb⟩; have HB3 := Lib.hid (HB2.out.trans (hb.mono HB2.out.size)); clear hb))
        go_ret
        exact ⟨rfl, HB3.out⟩
  · obtain ⟨m, rfl⟩ : ∃ m : Nat, i = m := ⟨i.toNat, by omega⟩
    have hm9 : m < 100 := by omega
    have hp : pathL (ls s) = true := by cases h : pathL (ls s) with | true => rfl | false => exact absurd (.inr (.inr h)) hno
    obtain ⟨u, hu⟩ : ∃ u, (⟨#[109, 111, 100, 117, 108, 101, 32]⟩ : ByteArray) ++ s ++ ⟨#[10, 10, 103, 111, 32]⟩ ++ textV (m : Int) ++ ⟨#[10]⟩ = u := ⟨_, rfl⟩
    have c1 := fun w hm => write_yes s m u w hm9 hp (by omega) hm hu
    have hul : ls u = writeL (ls s) m := by
      rw [← hu, ls_app, ls_app, ls_app, ls_app, textV_dig m hm9]
      unfold writeL
      simp only [List.append_assoc]
      rfl
    have hus : u.size ≤ 1000 := by
      rw [← hu, size_app, size_app, size_app, size_app, textV_dig m hm9, size_mk]
      have := digL_len m
      show 7 + s.size + 5 + (digL m).length.succ.succ + 1 ≤ _
      omega
    have c3 : ∀ a cap w, Text w a u → MaxLen w → Calls Tryd.prog 17 #[.slice a u.size cap] w fun e w' => e = .returned (.tuple #[.agg #[.string s, .int .i64 (m : Nat)], .int .i64 0]) ∧ Below w.heap.size w w' := fun a cap w hT hm => by
      have := read_any u a cap w hT (by omega) hm
      rw [readV_short u (by omega), hul, write_read _ _ hp hm9] at this
      exact this
    have c4 := fun w => text_any (m : Int) (by omega) (by omega) w
    have c5 := minor_any (textV (m : Int)) (by rw [textV_dig m hm9, size_mk]; have := digL_len m; simp; omega)
    rw [show minorL (ls (textV (m : Int))) = some m by rw [textV_dig m hm9]; exact minor_text m hm9] at c5
    unfold toldM at c5
    rw [hp] at c2
    have g2 : decide ((m : Int) < 0) = false := by simp
    have g3 : decide ((99 : Int) < (m : Int)) = false := by simp; omega
    generalize textV (m : Int) = tv at *
    clear hno hu hul hus hi h1 hm hp hm9 hz
    go_enter Tryd.func5, Tryd.ntmps5
    go_wp2_with (first
      | ((with_reducible refine (c1 _ (HM.out.below HB.out)).mono ?_); rintro e w1 ⟨A1, cap1, rfl, hT, hb⟩; have HB1 := Lib.hid (HB.out.trans (hb.mono HB.out.size)); have HA1 := Lib.hid ((hb.block _ (lt_of_block HA.out)).trans HA.out); have HT1 := Lib.hid hT; clear hT hb)
      | ((with_reducible refine (c2 _ (HM.out.below HB1.out)).mono ?_); rintro e w2 ⟨rfl, hb⟩; have HB2 := Lib.hid (HB1.out.trans (hb.mono HB1.out.size)); have HA2 := Lib.hid ((hb.block _ (lt_of_block HA1.out)).trans HA1.out); have HT2 := Lib.hid (HT1.out.below hb); clear hb)
      | ((with_reducible refine (c3 _ _ _ HT2.out (HM.out.below HB2.out)).mono ?_); rintro e w3 ⟨rfl, hb⟩; have HB3 := Lib.hid ((HB2.out.trans (hb.mono HB2.out.size)).alloc (Nat.le_trans HB2.out.size hb.size) (.cells #[.string s, .int .i64 (m : Nat)] 33)); have HA3 := Lib.hid (at_old _ (.cells #[.string s, .int .i64 (m : Nat)] 33) _ _ ((hb.block _ (lt_of_block HA2.out)).trans HA2.out)); have HX3 := Lib.hid (heap_alloc_new w3 (.cells #[.string s, .int .i64 (m : Nat)] 33)); clear hb)
      | ((with_reducible refine (c4 _).mono ?_); rintro e w4 ⟨rfl, hb⟩; have HB4 := Lib.hid (HB3.out.trans (hb.mono HB3.out.size)); have HA4 := Lib.hid ((hb.block _ (lt_of_block HA3.out)).trans HA3.out); have HX4 := Lib.hid ((hb.block _ (lt_of_block HX3.out)).trans HX3.out); clear hb)
      | ((with_reducible refine (c5 _).mono ?_); rintro e w5 ⟨rfl, hb⟩; have HB5 := Lib.hid (HB4.out.trans (hb.mono HB4.out.size)); obtain ⟨x0, x1, _, _⟩ := two_cells ((hb.block _ (lt_of_block HA4.out)).trans HA4.out); obtain ⟨y0, y1, _, _⟩ := two_cells ((hb.block _ (lt_of_block HX4.out)).trans HX4.out); clear hb)
      | ((with_reducible refine (awake_any _ (HM.out.below HB5.out)).mono ?_); rintro e w6 ⟨rfl, hb⟩; have HB6 := Lib.hid (HB5.out.trans (hb.mono HB5.out.size)); clear hb))
    go_ret
    exact ⟨rfl, HB6.out⟩
end Go.Proofs.YtnghlhkgeahfmaaDoor
