/- demoticlaw09: BigLaws. -/
import Derived.Test.YtpdkebljacmgfaaDoorBig22
namespace Go.Proofs.YtpdkebljacmgfaaDoor
open Go.RowKit
set_option linter.unusedVariables false

def p70 : Nat := 10 ^ 70
theorem short_num {s : ByteArray} {z : Int} (h : readZ s.data.toList = some z) (hs : s.size ≤ 70) : z.natAbs < p70 := by
  have h1 := (itoa_read h).1
  have hl : s.data.toList.length = s.size := by simp
  have key : ∀ n : Nat, Lib.nDigits n ≤ 70 → n < p70 := fun n hn => Nat.lt_of_lt_of_le (Lib.lt_pow_nDigits n) (Nat.pow_le_pow_right (by decide) hn)
  refine key _ ?_
  rw [h1] at hl
  unfold Lib.itoa at hl
  split at hl
  · rw [List.length_cons, Lib.decDigits_length] at hl; omega
  · rw [Lib.decDigits_length, show z.toNat = z.natAbs by omega] at hl; omega
theorem p70_sum : p70 + p70 ≤ limN := by decide +kernel
theorem p70_prod : (p70 + p70) * p70 ≤ limN := by decide +kernel
theorem b_add {x y : Int} (hx : x.natAbs < p70) (hy : y.natAbs < p70) : (x + y).natAbs < p70 + p70 := by omega
theorem b_mul {x y : Int} {a b : Nat} (hx : x.natAbs < a) (hy : y.natAbs < b) : (x * y).natAbs < a * b := by rw [Int.natAbs_mul]; exact Nat.mul_lt_mul'' hx hy
theorem p70_le : p70 * p70 ≤ limN := by decide +kernel
theorem p70_one : p70 ≤ limN := by decide +kernel

set_option maxHeartbeats 8000000 in
set_option maxRecDepth 1000000 in
theorem laws_main (s t u : ByteArray) (w : World) (htab : Tab w) (x y z : Int) (hx : readZ s.data.toList = some x) (hy : readZ t.data.toList = some y) (hz : readZ u.data.toList = some z) (h1 : s.size ≤ 70) (h2 : t.size ≤ 70) (h3 : u.size ≤ 70) :
    Calls Tryd.prog 5 #[.string s, .string t, .string u] w fun e w' => e = .returned (.bool true) ∧ Below w.heap.size w w' := by
  have HT := Lib.hid htab
  have bx := short_num hx h1
  have by' := short_num hy h2
  have bz := short_num hz h3
  have i1 := p70_sum
  have i2 := p70_prod
  have i3 := p70_le
  have i4 := p70_one
  have bs := b_add bx by'
  have bp := b_mul bx by'
  have bsz := b_mul bs bz
  have bxz := b_mul bx bz
  have byz := b_mul by' bz
  have hd := Int.tdiv_mul_add_tmod x y
  have bq : (x.tdiv y).natAbs ≤ x.natAbs := by rw [Int.natAbs_tdiv]; exact Nat.div_le_self _ _
  have br : (x.tmod y).natAbs ≤ x.natAbs := by rw [Int.natAbs_tmod]; exact Nat.mod_le _ _
  have bqy : (x.tdiv y * y).natAbs ≤ x.natAbs := by rw [Int.natAbs_mul, Int.natAbs_tdiv]; exact Nat.div_mul_le_self _ _
  obtain ⟨S, hS⟩ := text_of (x + y)
  obtain ⟨P, hP⟩ := text_of (x * y)
  obtain ⟨X, hX⟩ := text_of ((x + y) * z)
  obtain ⟨Y, hY⟩ := text_of (x * z)
  obtain ⟨Z, hZ⟩ := text_of (y * z)
  obtain ⟨D, hD⟩ := text_of (x.tdiv y)
  obtain ⟨R, hR⟩ := text_of (x.tmod y)
  obtain ⟨V, hV⟩ := text_of (x.tdiv y * y)
  have rS := Lib.hid (read_back hS (by omega))
  have rP := Lib.hid (read_back hP (by omega))
  have rX := Lib.hid (read_back hX (by omega))
  have rY := Lib.hid (read_back hY (by omega))
  have rZ := Lib.hid (read_back hZ (by omega))
  have rD := Lib.hid (read_back hD (by omega))
  have rR := Lib.hid (read_back hR (by omega))
  have rV := Lib.hid (read_back hV (by omega))
  have lS : Hid ((x + y).natAbs < limN) := Lib.hid (by omega)
  have lP : Hid ((x * y).natAbs < limN) := Lib.hid (by omega)
  have lX : Hid (((x + y) * z).natAbs < limN) := Lib.hid (by omega)
  have lY : Hid ((x * z).natAbs < limN) := Lib.hid (by omega)
  have lZ : Hid ((y * z).natAbs < limN) := Lib.hid (by omega)
  have lx : Hid (x.natAbs < limN) := Lib.hid (by omega)
  have lD : Hid ((x.tdiv y).natAbs < limN) := Lib.hid (by omega)
  have lR : Hid ((x.tmod y).natAbs < limN) := Lib.hid (by omega)
  have lV : Hid ((x.tdiv y * y).natAbs < limN) := Lib.hid (by omega)
  have HS := Lib.hid hS
  have HP := Lib.hid hP
  have HX := Lib.hid hX
  have HY := Lib.hid hY
  have HZ := Lib.hid hZ
  have HD := Lib.hid hD
  have HR := Lib.hid hR
  have HV := Lib.hid hV
  have hx' := Lib.hid hx
  have hy' := Lib.hid hy
  have hz' := Lib.hid hz
  have hs' := Lib.hid (itoa_read hx).1
  have hdd := Lib.hid hd
  have R1 := Lib.hid (fun W => right_true s hx W)
  have R2 := Lib.hid (fun W => right_true t hy W)
  have R3 := Lib.hid (fun W => right_true u hz W)
  have ht0 : (t.toList == [48]) = decide (y = 0) := by
    rw [Lib.toList_data, (itoa_read hy).1, Bool.eq_iff_iff, beq_iff_eq, decide_eq_true_eq, nought_text]
    exact ⟨itoa_inj, fun h => by rw [h]⟩
  clear htab hx hy hz bx by' bz i1 i2 i3 i4 bs bp bsz bxz byz hd bq br bqy hS hP hX hY hZ hD hR hV
  have HB0 := Lib.hid (Below.refl w.heap.size w)
  by_cases hy0 : y = 0
  · have g1 : (t.toList == [48]) = true := by rw [ht0]; exact decide_eq_true hy0
    have g2 : (t.toList != [48]) = false := by rw [bne, g1]; rfl
    clear ht0 hy0
    go_enter Tryd.func5, Tryd.ntmps5
    go_wp2_with fail
    refine (R1.out _).mono ?_
    rintro e w1 ⟨rfl, hb⟩
    have HB1 := Lib.hid (HB0.out.trans (hb.mono HB0.out.size))
    clear hb
    go_wp2_with fail
    refine (R2.out _).mono ?_
    rintro e w2 ⟨rfl, hb⟩
    have HB2 := Lib.hid (HB1.out.trans (hb.mono HB1.out.size))
    clear hb
    go_wp2_with fail
    refine (R3.out _).mono ?_
    rintro e w3 ⟨rfl, hb⟩
    have HB3 := Lib.hid (HB2.out.trans (hb.mono HB2.out.size))
    clear hb
    go_wp2_with fail
    refine (Sum_any s t w3 (HT.out.below HB3.out)).mono ?_
    intro e w4 he
    obtain ⟨rfl, hb⟩ := ends_ok (u := S) he hx'.out hy'.out rfl lS.out HS.out
    have HB4 := Lib.hid (HB3.out.trans (hb.mono HB3.out.size))
    clear he hb
    go_wp2_with fail
    refine (Sum_any t s w4 (HT.out.below HB4.out)).mono ?_
    intro e w5 he
    obtain ⟨rfl, hb⟩ := ends_ok (u := S) he hy'.out hx'.out (Int.add_comm y x) lS.out HS.out
    have HB5 := Lib.hid (HB4.out.trans (hb.mono HB4.out.size))
    clear he hb
    go_wp2_with fail
    refine (Less_any S t w5 (HT.out.below HB5.out)).mono ?_
    intro e w6 he
    obtain ⟨rfl, hb⟩ := ends_ok (u := s) he rS.out hy'.out (show x + y - y = x by omega) lx.out hs'.out
    have HB6 := Lib.hid (HB5.out.trans (hb.mono HB5.out.size))
    clear he hb
    go_wp2_with fail
    refine (Times_any s t w6 (HT.out.below HB6.out)).mono ?_
    intro e w7 he
    obtain ⟨rfl, hb⟩ := ends_ok (u := P) he hx'.out hy'.out rfl lP.out HP.out
    have HB7 := Lib.hid (HB6.out.trans (hb.mono HB6.out.size))
    clear he hb
    go_wp2_with fail
    refine (Times_any t s w7 (HT.out.below HB7.out)).mono ?_
    intro e w8 he
    obtain ⟨rfl, hb⟩ := ends_ok (u := P) he hy'.out hx'.out (Int.mul_comm y x) lP.out HP.out
    have HB8 := Lib.hid (HB7.out.trans (hb.mono HB7.out.size))
    clear he hb
    go_wp2_with fail
    refine (Times_any S u w8 (HT.out.below HB8.out)).mono ?_
    intro e w9 he
    obtain ⟨rfl, hb⟩ := ends_ok (u := X) he rS.out hz'.out rfl lX.out HX.out
    have HB9 := Lib.hid (HB8.out.trans (hb.mono HB8.out.size))
    clear he hb
    go_wp2_with fail
    refine (Times_any s u w9 (HT.out.below HB9.out)).mono ?_
    intro e w10 he
    obtain ⟨rfl, hb⟩ := ends_ok (u := Y) he hx'.out hz'.out rfl lY.out HY.out
    have HB10 := Lib.hid (HB9.out.trans (hb.mono HB9.out.size))
    clear he hb
    go_wp2_with fail
    refine (Times_any t u w10 (HT.out.below HB10.out)).mono ?_
    intro e w11 he
    obtain ⟨rfl, hb⟩ := ends_ok (u := Z) he hy'.out hz'.out rfl lZ.out HZ.out
    have HB11 := Lib.hid (HB10.out.trans (hb.mono HB10.out.size))
    clear he hb
    go_wp2_with fail
    refine (Sum_any Y Z w11 (HT.out.below HB11.out)).mono ?_
    intro e w12 he
    obtain ⟨rfl, hb⟩ := ends_ok (u := X) he rY.out rZ.out (Int.add_mul x y z).symm lX.out HX.out
    have HB12 := Lib.hid (HB11.out.trans (hb.mono HB11.out.size))
    clear he hb
    go_wp2_with fail
    refine (awake_any w12 (HT.out.below HB12.out)).mono ?_
    rintro e w13 ⟨rfl, hb⟩
    have HB13 := Lib.hid (HB12.out.trans (hb.mono HB12.out.size))
    clear hb
    go_wp2
    go_ret
    exact ⟨rfl, HB13.out⟩
  · have g1 : (t.toList == [48]) = false := by rw [ht0]; exact decide_eq_false hy0
    have g2 : (t.toList != [48]) = true := by rw [bne, g1]; rfl
    clear ht0
    go_enter Tryd.func5, Tryd.ntmps5
    go_wp2_with fail
    refine (R1.out _).mono ?_
    rintro e w1 ⟨rfl, hb⟩
    have HB1 := Lib.hid (HB0.out.trans (hb.mono HB0.out.size))
    clear hb
    go_wp2_with fail
    refine (R2.out _).mono ?_
    rintro e w2 ⟨rfl, hb⟩
    have HB2 := Lib.hid (HB1.out.trans (hb.mono HB1.out.size))
    clear hb
    go_wp2_with fail
    refine (R3.out _).mono ?_
    rintro e w3 ⟨rfl, hb⟩
    have HB3 := Lib.hid (HB2.out.trans (hb.mono HB2.out.size))
    clear hb
    go_wp2_with fail
    refine (Sum_any s t w3 (HT.out.below HB3.out)).mono ?_
    intro e w4 he
    obtain ⟨rfl, hb⟩ := ends_ok (u := S) he hx'.out hy'.out rfl lS.out HS.out
    have HB4 := Lib.hid (HB3.out.trans (hb.mono HB3.out.size))
    clear he hb
    go_wp2_with fail
    refine (Sum_any t s w4 (HT.out.below HB4.out)).mono ?_
    intro e w5 he
    obtain ⟨rfl, hb⟩ := ends_ok (u := S) he hy'.out hx'.out (Int.add_comm y x) lS.out HS.out
    have HB5 := Lib.hid (HB4.out.trans (hb.mono HB4.out.size))
    clear he hb
    go_wp2_with fail
    refine (Less_any S t w5 (HT.out.below HB5.out)).mono ?_
    intro e w6 he
    obtain ⟨rfl, hb⟩ := ends_ok (u := s) he rS.out hy'.out (show x + y - y = x by omega) lx.out hs'.out
    have HB6 := Lib.hid (HB5.out.trans (hb.mono HB5.out.size))
    clear he hb
    go_wp2_with fail
    refine (Times_any s t w6 (HT.out.below HB6.out)).mono ?_
    intro e w7 he
    obtain ⟨rfl, hb⟩ := ends_ok (u := P) he hx'.out hy'.out rfl lP.out HP.out
    have HB7 := Lib.hid (HB6.out.trans (hb.mono HB6.out.size))
    clear he hb
    go_wp2_with fail
    refine (Times_any t s w7 (HT.out.below HB7.out)).mono ?_
    intro e w8 he
    obtain ⟨rfl, hb⟩ := ends_ok (u := P) he hy'.out hx'.out (Int.mul_comm y x) lP.out HP.out
    have HB8 := Lib.hid (HB7.out.trans (hb.mono HB7.out.size))
    clear he hb
    go_wp2_with fail
    refine (Times_any S u w8 (HT.out.below HB8.out)).mono ?_
    intro e w9 he
    obtain ⟨rfl, hb⟩ := ends_ok (u := X) he rS.out hz'.out rfl lX.out HX.out
    have HB9 := Lib.hid (HB8.out.trans (hb.mono HB8.out.size))
    clear he hb
    go_wp2_with fail
    refine (Times_any s u w9 (HT.out.below HB9.out)).mono ?_
    intro e w10 he
    obtain ⟨rfl, hb⟩ := ends_ok (u := Y) he hx'.out hz'.out rfl lY.out HY.out
    have HB10 := Lib.hid (HB9.out.trans (hb.mono HB9.out.size))
    clear he hb
    go_wp2_with fail
    refine (Times_any t u w10 (HT.out.below HB10.out)).mono ?_
    intro e w11 he
    obtain ⟨rfl, hb⟩ := ends_ok (u := Z) he hy'.out hz'.out rfl lZ.out HZ.out
    have HB11 := Lib.hid (HB10.out.trans (hb.mono HB10.out.size))
    clear he hb
    go_wp2_with fail
    refine (Sum_any Y Z w11 (HT.out.below HB11.out)).mono ?_
    intro e w12 he
    obtain ⟨rfl, hb⟩ := ends_ok (u := X) he rY.out rZ.out (Int.add_mul x y z).symm lX.out HX.out
    have HB12 := Lib.hid (HB11.out.trans (hb.mono HB11.out.size))
    clear he hb
    go_wp2_with fail
    refine (Quotient_any s t w12 (HT.out.below HB12.out)).mono ?_
    intro e w13 he
    obtain ⟨rfl, hb⟩ := ends_div (u := D) he hx'.out hy'.out hy0 rfl lD.out HD.out
    have HB13 := Lib.hid (HB12.out.trans (hb.mono HB12.out.size))
    clear he hb
    go_wp2_with fail
    refine (Rest_any s t w13 (HT.out.below HB13.out)).mono ?_
    intro e w14 he
    obtain ⟨rfl, hb⟩ := ends_div (u := R) he hx'.out hy'.out hy0 rfl lR.out HR.out
    have HB14 := Lib.hid (HB13.out.trans (hb.mono HB13.out.size))
    clear he hb
    go_wp2_with fail
    refine (Times_any D t w14 (HT.out.below HB14.out)).mono ?_
    intro e w15 he
    obtain ⟨rfl, hb⟩ := ends_ok (u := V) he rD.out hy'.out rfl lV.out HV.out
    have HB15 := Lib.hid (HB14.out.trans (hb.mono HB14.out.size))
    clear he hb
    go_wp2_with fail
    refine (Sum_any V R w15 (HT.out.below HB15.out)).mono ?_
    intro e w16 he
    obtain ⟨rfl, hb⟩ := ends_ok (u := s) he rV.out rR.out hdd.out lx.out hs'.out
    have HB16 := Lib.hid (HB15.out.trans (hb.mono HB15.out.size))
    clear he hb
    go_wp2_with fail
    refine (awake_any w16 (HT.out.below HB16.out)).mono ?_
    rintro e w17 ⟨rfl, hb⟩
    have HB17 := Lib.hid (HB16.out.trans (hb.mono HB16.out.size))
    clear hb
    go_wp2
    go_ret
    exact ⟨rfl, HB17.out⟩

set_option maxHeartbeats 2000000 in
set_option maxRecDepth 1000000 in
theorem laws_walk (s t u : ByteArray) (w : World) (htab : Tab w) : Calls Tryd.prog 5 #[.string s, .string t, .string u] w fun e w' => e = .returned (.bool true) ∧ Below w.heap.size w w' := by
  by_cases h1 : s.size ≤ 70
  · by_cases h2 : t.size ≤ 70
    · by_cases h3 : u.size ≤ 70
      · have HT := Lib.hid htab
        have HB0 := Lib.hid (Below.refl w.heap.size w)
        cases hx : readZ s.data.toList with
        | none =>
          have R1 := Lib.hid (fun W => right_false s hx W)
          clear hx htab
          go_enter Tryd.func5, Tryd.ntmps5
          go_wp2_with fail
          refine (R1.out _).mono ?_
          rintro e w1 ⟨rfl, hb⟩
          have HB1 := Lib.hid (HB0.out.trans (hb.mono HB0.out.size))
          clear hb
          go_wp2_with fail
          refine (awake_any w1 (HT.out.below HB1.out)).mono ?_
          rintro e w2 ⟨rfl, hb⟩
          have HB2 := Lib.hid (HB1.out.trans (hb.mono HB1.out.size))
          clear hb
          go_wp2
          go_ret
          exact ⟨rfl, HB2.out⟩
        | some x =>
          cases hy : readZ t.data.toList with
          | none =>
            have R1 := Lib.hid (fun W => right_true s hx W)
            have R2 := Lib.hid (fun W => right_false t hy W)
            clear hx hy htab
            go_enter Tryd.func5, Tryd.ntmps5
            go_wp2_with fail
            refine (R1.out _).mono ?_
            rintro e w1 ⟨rfl, hb⟩
            have HB1 := Lib.hid (HB0.out.trans (hb.mono HB0.out.size))
            clear hb
            go_wp2_with fail
            refine (R2.out _).mono ?_
            rintro e w2 ⟨rfl, hb⟩
            have HB2 := Lib.hid (HB1.out.trans (hb.mono HB1.out.size))
            clear hb
            go_wp2_with fail
            refine (awake_any w2 (HT.out.below HB2.out)).mono ?_
            rintro e w3 ⟨rfl, hb⟩
            have HB3 := Lib.hid (HB2.out.trans (hb.mono HB2.out.size))
            clear hb
            go_wp2
            go_ret
            exact ⟨rfl, HB3.out⟩
          | some y =>
            cases hz : readZ u.data.toList with
            | none =>
              have R1 := Lib.hid (fun W => right_true s hx W)
              have R2 := Lib.hid (fun W => right_true t hy W)
              have R3 := Lib.hid (fun W => right_false u hz W)
              clear hx hy hz htab
              go_enter Tryd.func5, Tryd.ntmps5
              go_wp2_with fail
              refine (R1.out _).mono ?_
              rintro e w1 ⟨rfl, hb⟩
              have HB1 := Lib.hid (HB0.out.trans (hb.mono HB0.out.size))
              clear hb
              go_wp2_with fail
              refine (R2.out _).mono ?_
              rintro e w2 ⟨rfl, hb⟩
              have HB2 := Lib.hid (HB1.out.trans (hb.mono HB1.out.size))
              clear hb
              go_wp2_with fail
              refine (R3.out _).mono ?_
              rintro e w3 ⟨rfl, hb⟩
              have HB3 := Lib.hid (HB2.out.trans (hb.mono HB2.out.size))
              clear hb
              go_wp2_with fail
              refine (awake_any w3 (HT.out.below HB3.out)).mono ?_
              rintro e w4 ⟨rfl, hb⟩
              have HB4 := Lib.hid (HB3.out.trans (hb.mono HB3.out.size))
              clear hb
              go_wp2
              go_ret
              exact ⟨rfl, HB4.out⟩
            | some z => exact laws_main s t u w htab x y z hx hy hz h1 h2 h3
      · clear htab
        go_enter Tryd.func5, Tryd.ntmps5
        go_wp2
        go_ret
        exact ⟨rfl, Below.refl _ _⟩
    · clear htab
      go_enter Tryd.func5, Tryd.ntmps5
      go_wp2
      go_ret
      exact ⟨rfl, Below.refl _ _⟩
  · clear htab
    go_enter Tryd.func5, Tryd.ntmps5
    go_wp2
    go_ret
    exact ⟨rfl, Below.refl _ _⟩
end Go.Proofs.YtpdkebljacmgfaaDoor
