/- demoticlaw09: BigTells. -/
import Derived.Test.YtpdkebljacmgfaaDoorRef9k
import Derived.Test.YtpdkebljacmgfaaDoorBig24
namespace Go.Proofs.YtpdkebljacmgfaaDoor
open Go.RowKit
set_option linter.unusedVariables false

set_option maxHeartbeats 4000000 in
set_option maxRecDepth 1000000 in
theorem tells_walk (s t : ByteArray) (n : Int) (w : World) (h0 : -9223372036854775808 ≤ n) (h3 : n ≤ 9223372036854775807) (htab : Tab w) (herr : ErrIs w) : Calls Tryd.prog 4 #[.string s, .string t, .int .i64 n] w fun e w' => e = .returned (.bool true) ∧ Below w.heap.size w w' := by
  have HT := Lib.hid htab
  have HER := Lib.hid herr
  clear htab herr
  by_cases h1 : 200 < s.size
  · have g1 : decide ((200 : Int) < (s.size : Int)) = true := decide_eq_true (by omega)
    clear h1
    go_enter Tryd.func4, Tryd.ntmps4
    go_wp2
    go_ret
    exact ⟨rfl, Below.refl _ _⟩
  have g1 : decide ((200 : Int) < (s.size : Int)) = false := decide_eq_false (by omega)
  by_cases h2 : 200 < t.size
  · have g2 : decide ((200 : Int) < (t.size : Int)) = true := decide_eq_true (by omega)
    clear h1 h2
    go_enter Tryd.func4, Tryd.ntmps4
    go_wp2
    go_ret
    exact ⟨rfl, Below.refl _ _⟩
  have g2 : decide ((200 : Int) < (t.size : Int)) = false := decide_eq_false (by omega)
  obtain ⟨u, hu⟩ := text_of n
  have hi : intP u.data.toList = (n, 0) := by
    have hl : n.natAbs < limN := by
      have : (9223372036854775809 : Nat) < limN := by decide +kernel
      omega
    unfold intP
    rw [read_back hu hl]
    simp only []
    rw [if_pos ⟨h0, h3⟩]
  have hul : u.size ≤ 100000 := by
    have hl : n.natAbs < limN := by
      have : (9223372036854775809 : Nat) < limN := by decide +kernel
      omega
    have h4 := (itoa_len n hl).1
    rw [← hu] at h4
    have h5 : u.data.toList.length = u.size := by simp
    omega
  have C1 := Lib.hid (fun W he => bigInt_any s (by omega) W he)
  have C2 := Lib.hid (fun W => refInt_any s (by omega) W)
  have C3 := Lib.hid (fun W ht => written_val n h0 h3 u hu W ht)
  have C4 := fun W he => bigInt_any u hul W he
  rw [hi] at C4
  have C4 := Lib.hid C4
  have C5 := Lib.hid (fun W => right_any s W)
  have C6 := Lib.hid (fun W => refRight_any s (by omega) W)
  have C7 := Lib.hid (fun W => Compare_any s t W)
  have C8 := Lib.hid (fun W => refCompare_any s t (by omega) (by omega) W)
  clear hi hul hu h1 h2
  generalize intP s.data.toList = r1 at *
  generalize cmpP s.data.toList t.data.toList = r2 at *
  generalize (readZ s.data.toList).isSome = r3 at *
  obtain ⟨z1, z2⟩ := r1
  go_enter Tryd.func4, Tryd.ntmps4
  go_wp2_with fail
  refine (C1.out _ HER.out).mono ?_
  rintro _ w1 ⟨rfl, hb⟩
  have HB1 := Lib.hid hb
  clear hb C1
  go_wp2_with fail
  refine (C2.out _).mono ?_
  rintro _ w2 ⟨rfl, hb⟩
  have HB2 := Lib.hid (HB1.out.trans (hb.mono HB1.out.size))
  clear hb C2
  go_wp2_with fail
  refine (C3.out _ (HT.out.below HB2.out)).mono ?_
  rintro _ w3 ⟨rfl, hb⟩
  have HB3 := Lib.hid (HB2.out.trans (hb.mono HB2.out.size))
  clear hb C3
  go_wp2_with fail
  refine (C4.out _ (HER.out.below HB3.out)).mono ?_
  rintro _ w4 ⟨rfl, hb⟩
  have HB4 := Lib.hid (HB3.out.trans (hb.mono HB3.out.size))
  clear hb C4
  go_wp2_with fail
  refine (C5.out _).mono ?_
  rintro _ w5 ⟨rfl, hb⟩
  have HB5 := Lib.hid (HB4.out.trans (hb.mono HB4.out.size))
  clear hb C5
  go_wp2_with fail
  refine (C6.out _).mono ?_
  rintro _ w6 ⟨rfl, hb⟩
  have HB6 := Lib.hid (HB5.out.trans (hb.mono HB5.out.size))
  clear hb C6
  go_wp2_with fail
  refine (C7.out _).mono ?_
  rintro _ w7 ⟨rfl, hb⟩
  have HB7 := Lib.hid (HB6.out.trans (hb.mono HB6.out.size))
  clear hb C7
  go_wp2_with fail
  refine (C8.out _).mono ?_
  rintro _ w8 ⟨rfl, hb⟩
  have HB8 := Lib.hid (HB7.out.trans (hb.mono HB7.out.size))
  clear hb C8
  go_wp2_with fail
  refine (awake_any w8 (HT.out.below HB8.out)).mono ?_
  rintro _ w9 ⟨rfl, hb⟩
  have HB9 := Lib.hid (HB8.out.trans (hb.mono HB8.out.size))
  clear hb
  go_wp2
  go_ret
  exact ⟨rfl, HB9.out⟩
end Go.Proofs.YtpdkebljacmgfaaDoor
