/- demoticlaw09: BigOrders. -/
import Derived.Test.YtpdkebljacmgfaaDoorBig20
namespace Go.Proofs.YtpdkebljacmgfaaDoor
open Go.RowKit
set_option linter.unusedVariables false

theorem cmp_some {s t : ByteArray} {x y : Int} (hx : readZ s.data.toList = some x) (hy : readZ t.data.toList = some y) : cmpP s.data.toList t.data.toList = ordI x y := by unfold cmpP; rw [hx, hy]
theorem ordI_swap (x y : Int) : ordI y x = -ordI x y := by
  rcases ordI_cases x y with ⟨h, e⟩ | ⟨h, e⟩ | ⟨h, e⟩
  · rw [e, ordI_gt h]; rfl
  · rw [e, ordI_lt h]
  · subst h; rw [ordI_eq]; rfl
theorem right_true (s : ByteArray) {z : Int} (h : readZ s.data.toList = some z) (w : World) : Calls Tryd.prog 21 #[.string s] w fun e w' => e = .returned (.bool true) ∧ Below w.heap.size w w' := by have := right_any s w; rw [h] at this; exact this
theorem right_false (s : ByteArray) (h : readZ s.data.toList = none) (w : World) : Calls Tryd.prog 21 #[.string s] w fun e w' => e = .returned (.bool false) ∧ Below w.heap.size w w' := by have := right_any s w; rw [h] at this; exact this
theorem same_text {s t : ByteArray} {x y : Int} (hx : readZ s.data.toList = some x) (hy : readZ t.data.toList = some y) : (s.toList == t.toList) = decide (x = y) := by
  rw [Lib.toList_data, Lib.toList_data, (itoa_read hx).1, (itoa_read hy).1, Bool.eq_iff_iff, beq_iff_eq, decide_eq_true_eq]
  exact ⟨itoa_inj, fun h => by rw [h]⟩

set_option maxHeartbeats 4000000 in
set_option maxRecDepth 1000000 in
theorem orders_walk (s t u : ByteArray) (w : World) (htab : Tab w) : Calls Tryd.prog 7 #[.string s, .string t, .string u] w fun e w' => e = .returned (.bool true) ∧ Below w.heap.size w w' := by
  have HT := Lib.hid htab
  clear htab
  by_cases hall : (readZ s.data.toList).isSome = true ∧ (readZ t.data.toList).isSome = true ∧ (readZ u.data.toList).isSome = true
  · obtain ⟨h1, h2, h3⟩ := hall
    obtain ⟨x, hx⟩ := Option.isSome_iff_exists.1 h1
    obtain ⟨y, hy⟩ := Option.isSome_iff_exists.1 h2
    obtain ⟨z, hz⟩ := Option.isSome_iff_exists.1 h3
    have R1 := fun W => right_true s hx W
    have R2 := fun W => right_true t hy W
    have R3 := fun W => right_true u hz W
    have C1 := fun W => Compare_any s t W
    have C2 := fun W => Compare_any t u W
    have C3 := fun W => Compare_any s u W
    have C4 := fun W => Compare_any t s W
    rw [cmp_some hx hy] at C1
    rw [cmp_some hy hz] at C2
    rw [cmp_some hx hz] at C3
    rw [cmp_some hy hx, ordI_swap] at C4
    have heq := same_text hx hy
    have o1 := ordI_cases x y
    have o2 := ordI_cases y z
    have o3 := ordI_cases x z
    have key : ∃ a b c : Int, ordI x y = a ∧ ordI y z = b ∧ ordI x z = c ∧ (a = -1 ∨ a = 0 ∨ a = 1) ∧ (b = -1 ∨ b = 0 ∨ b = 1) ∧ (c = -1 ∨ c = 0 ∨ c = 1) ∧ ((s.toList == t.toList) = (a == 0)) ∧ (a ≤ 0 → b ≤ 0 → c ≤ 0) ∧ (0 ≤ a → 0 ≤ b → 0 ≤ c) := by
      refine ⟨_, _, _, rfl, rfl, rfl, by omega, by omega, by omega, ?_, by omega, by omega⟩
      rw [heq]
      rcases o1 with ⟨h, e⟩ | ⟨h, e⟩ | ⟨h, e⟩
      · rw [e, decide_eq_false (by omega)]; rfl
      · rw [e, decide_eq_false (by omega)]; rfl
      · rw [e, decide_eq_true h]; rfl
    obtain ⟨a, b, c, ha, hb, hc, ca, cb, cc, k1, k2, k3⟩ := key
    rw [ha] at C1 C4
    rw [hb] at C2
    rw [hc] at C3
    have HR1 := Lib.hid R1
    have HR2 := Lib.hid R2
    have HR3 := Lib.hid R3
    have HC1 := Lib.hid C1
    have HC2 := Lib.hid C2
    have HC3 := Lib.hid C3
    have HC4 := Lib.hid C4
    clear R1 R2 R3 C1 C2 C3 C4 hx hy hz h1 h2 h3 ha hb hc heq o1 o2 o3
    go_enter Tryd.func7, Tryd.ntmps7
    go_wp2_with fail
    refine (HR1.out _).mono ?_
    rintro e w1 ⟨rfl, hb⟩
    have HB1 := Lib.hid hb
    clear hb
    go_wp2_with fail
    refine (HR2.out _).mono ?_
    rintro e w2 ⟨rfl, hb⟩
    have HB2 := Lib.hid (HB1.out.trans (hb.mono HB1.out.size))
    clear hb
    go_wp2_with fail
    refine (HR3.out _).mono ?_
    rintro e w3 ⟨rfl, hb⟩
    have HB3 := Lib.hid (HB2.out.trans (hb.mono HB2.out.size))
    clear hb
    go_wp2_with fail
    refine (HC1.out _).mono ?_
    rintro e w4 ⟨rfl, hb⟩
    have HB4 := Lib.hid (HB3.out.trans (hb.mono HB3.out.size))
    clear hb
    go_wp2_with fail
    refine (HC2.out _).mono ?_
    rintro e w5 ⟨rfl, hb⟩
    have HB5 := Lib.hid (HB4.out.trans (hb.mono HB4.out.size))
    clear hb
    go_wp2_with fail
    refine (HC3.out _).mono ?_
    rintro e w6 ⟨rfl, hb⟩
    have HB6 := Lib.hid (HB5.out.trans (hb.mono HB5.out.size))
    clear hb
    go_wp2_with fail
    refine (HC4.out _).mono ?_
    rintro e w7 ⟨rfl, hb⟩
    have HB7 := Lib.hid (HB6.out.trans (hb.mono HB6.out.size))
    have HAW := Lib.hid (awake_any w7 (HT.out.below HB7.out))
    clear hb HC1 HC2 HC3 HC4 HR1 HR2 HR3 HB1 HB2 HB3 HB4 HB5 HB6 HT
    rcases ca with rfl | rfl | rfl
    all_goals
      rcases cb with rfl | rfl | rfl
      all_goals
        rcases cc with rfl | rfl | rfl
        all_goals first
          | (exfalso; omega)
          | (clear k2 k3
             first | rw [show ((-1 : Int) == 0) = false by decide] at k1 | rw [show ((0 : Int) == 0) = true by decide] at k1 | rw [show ((1 : Int) == 0) = false by decide] at k1
             go_wp2_with fail
             refine HAW.out.mono ?_
             rintro e w8 ⟨rfl, hb⟩
             have HB8 := Lib.hid (HB7.out.trans (hb.mono HB7.out.size))
             clear hb
             go_wp2
             go_ret
             exact ⟨rfl, HB8.out⟩)
  · cases hx : readZ s.data.toList with
    | none =>
      clear hall
      have HR1 := Lib.hid (fun W => right_false s hx W)
      clear hx
      go_enter Tryd.func7, Tryd.ntmps7
      have HB0 := Lib.hid (Below.refl w.heap.size w)
      go_wp2_with fail
      refine (HR1.out _).mono ?_
      rintro e w1 ⟨rfl, hb⟩
      have HB1 := Lib.hid (HB0.out.trans (hb.mono HB0.out.size))
      clear hb
      go_wp2_with fail
      refine (awake_any w1 (HT.out.below HB1.out)).mono ?_
      rintro e w9 ⟨rfl, hb⟩
      have HB9 := Lib.hid (HB1.out.trans (hb.mono HB1.out.size))
      clear hb
      go_wp2
      go_ret
      exact ⟨rfl, HB9.out⟩
    | some x =>
      cases hy : readZ t.data.toList with
      | none =>
        clear hall
        have HR1 := Lib.hid (fun W => right_true s hx W)
        have HR2 := Lib.hid (fun W => right_false t hy W)
        clear hx hy
        go_enter Tryd.func7, Tryd.ntmps7
        have HB0 := Lib.hid (Below.refl w.heap.size w)
        go_wp2_with fail
        refine (HR1.out _).mono ?_
        rintro e w1 ⟨rfl, hb⟩
        have HB1 := Lib.hid (HB0.out.trans (hb.mono HB0.out.size))
        clear hb
        go_wp2_with fail
        refine (HR2.out _).mono ?_
        rintro e w2 ⟨rfl, hb⟩
        have HB2 := Lib.hid (HB1.out.trans (hb.mono HB1.out.size))
        clear hb
        go_wp2_with fail
        refine (awake_any w2 (HT.out.below HB2.out)).mono ?_
        rintro e w9 ⟨rfl, hb⟩
        have HB9 := Lib.hid (HB2.out.trans (hb.mono HB2.out.size))
        clear hb
        go_wp2
        go_ret
        exact ⟨rfl, HB9.out⟩
      | some y =>
        cases hz : readZ u.data.toList with
        | none =>
          clear hall
          have HR1 := Lib.hid (fun W => right_true s hx W)
          have HR2 := Lib.hid (fun W => right_true t hy W)
          have HR3 := Lib.hid (fun W => right_false u hz W)
          clear hx hy hz
          go_enter Tryd.func7, Tryd.ntmps7
          have HB0 := Lib.hid (Below.refl w.heap.size w)
          go_wp2_with fail
          refine (HR1.out _).mono ?_
          rintro e w1 ⟨rfl, hb⟩
          have HB1 := Lib.hid (HB0.out.trans (hb.mono HB0.out.size))
          clear hb
          go_wp2_with fail
          refine (HR2.out _).mono ?_
          rintro e w2 ⟨rfl, hb⟩
          have HB2 := Lib.hid (HB1.out.trans (hb.mono HB1.out.size))
          clear hb
          go_wp2_with fail
          refine (HR3.out _).mono ?_
          rintro e w3 ⟨rfl, hb⟩
          have HB3 := Lib.hid (HB2.out.trans (hb.mono HB2.out.size))
          clear hb
          go_wp2_with fail
          refine (awake_any w3 (HT.out.below HB3.out)).mono ?_
          rintro e w9 ⟨rfl, hb⟩
          have HB9 := Lib.hid (HB3.out.trans (hb.mono HB3.out.size))
          clear hb
          go_wp2
          go_ret
          exact ⟨rfl, HB9.out⟩
        | some z => exact absurd ⟨by rw [hx]; rfl, by rw [hy]; rfl, by rw [hz]; rfl⟩ hall
end Go.Proofs.YtpdkebljacmgfaaDoor
