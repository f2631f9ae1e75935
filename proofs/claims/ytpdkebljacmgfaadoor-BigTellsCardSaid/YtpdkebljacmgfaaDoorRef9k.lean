/- demoticref09: Compare, Int. -/
import Derived.Test.YtpdkebljacmgfaaDoorRef9h
import Derived.Test.YtpdkebljacmgfaaDoorBig26
namespace Go.Proofs.YtpdkebljacmgfaaDoor
open Go.RowKit
set_option linter.unusedVariables false

theorem same_texts {s t : ByteArray} (h : (s.toList == t.toList) = true) : s.data.toList = t.data.toList := by
  rw [Lib.toList_data, Lib.toList_data] at h
  exact beq_iff_eq.1 h
theorem cmp_none {a b : List UInt8} (h : readZ a = none ∨ readZ b = none) : cmpP a b = 0 := by
  unfold cmpP
  rcases h with h | h
  · rw [h]
  · rw [h]; cases readZ a <;> rfl
theorem cmp_some {a b : List UInt8} {x y : Int} (hx : readZ a = some x) (hy : readZ b = some y) : cmpP a b = ordI x y := by
  unfold cmpP
  rw [hx, hy]

set_option maxHeartbeats 4000000 in
set_option maxRecDepth 100000 in
theorem refCompare_any (s t : ByteArray) (h1 : s.size ≤ 200) (h2 : t.size ≤ 200) (w : World) :
    Calls Tryd.prog 24 #[.string s, .string t] w fun e w' => e = .returned (.int .i64 (cmpP s.data.toList t.data.toList)) ∧ Below w.heap.size w w' := by
  have CA1 := Lib.hid (fun W => refAmount_any s (by omega) W)
  have CA2 := Lib.hid (fun W => refAmount_any t (by omega) W)
  have CR1 := Lib.hid (fun W => refRight_any s (by omega) W)
  have CR2 := Lib.hid (fun W => refRight_any t (by omega) W)
  have HNONE := Lib.hid (fun h => cmp_none (a := s.data.toList) (b := t.data.toList) h)
  have HSOME := Lib.hid (fun x y hx hy => cmp_some (a := s.data.toList) (b := t.data.toList) (x := x) (y := y) hx hy)
  have HEQ : Hid (∀ x y, readZ s.data.toList = some x → readZ t.data.toList = some y → ((s.toList == t.toList) = true → x = y) ∧ ((s.toList == t.toList) = false → x ≠ y)) := Lib.hid (fun x y hx hy => ⟨fun h => by
    have e := same_texts h
    rw [e, hy] at hx
    exact (Option.some.inj hx).symm, fun h e => by
    have e1 := (itoa_read hx).1
    have e2 := (itoa_read hy).1
    rw [e, ← e2] at e1
    rw [Lib.toList_data, Lib.toList_data, e1] at h
    simp at h⟩)
  generalize cmpP s.data.toList t.data.toList = res at *
  generalize readZ s.data.toList = ra at *
  generalize readZ t.data.toList = rb at *
  go_enter Tryd.func24, Tryd.ntmps24
  cases ra with
  | none =>
    have HE : Hid (0 = res) := Lib.hid (HNONE.out (.inl rfl)).symm
    clear HNONE HSOME HEQ
    go_wp2_with fail
    refine (CR1.out _).mono ?_
    rintro _ w1 ⟨rfl, hb⟩
    have HB1 := Lib.hid hb
    clear hb CR1
    go_wp2
    go_ret
    exact ⟨ret_int HE.out, HB1.out⟩
  | some zx =>
  go_wp2_with fail
  refine (CR1.out _).mono ?_
  rintro _ w1 ⟨rfl, hb⟩
  have HB1 := Lib.hid hb
  clear hb CR1
  cases rb with
  | none =>
    have HE : Hid (0 = res) := Lib.hid (HNONE.out (.inr rfl)).symm
    clear HNONE HSOME HEQ
    go_wp2_with fail
    refine (CR2.out _).mono ?_
    rintro _ w3 ⟨rfl, hb⟩
    have HB3 := Lib.hid (HB1.out.trans (hb.mono HB1.out.size))
    clear hb CR2
    go_wp2
    go_ret
    exact ⟨ret_int HE.out, HB3.out⟩
  | some zy =>
  go_wp2_with fail
  refine (CR2.out _).mono ?_
  rintro _ w3 ⟨rfl, hb⟩
  have HB3 := Lib.hid (HB1.out.trans (hb.mono HB1.out.size))
  have hres := HSOME.out zx zy rfl rfl
  obtain ⟨heq1, heq2⟩ := HEQ.out zx zy rfl rfl
  clear hb CR2 HB1 HSOME HNONE HEQ
  cases hq : (s.toList == t.toList) with
  | true =>
    have HE : Hid (0 = res) := Lib.hid (by rw [hres, heq1 hq, ordI_eq])
    clear hres heq1 heq2
    go_wp2
    go_ret
    exact ⟨ret_int HE.out, HB3.out⟩
  | false =>
  have hne := heq2 hq
  clear heq1 heq2
  go_wp2_with fail
  refine (CA1.out _).mono ?_
  rintro _ _ ⟨⟨x, m, ok, rfl, hx⟩, rfl⟩
  obtain ⟨rfl, a, hxa, hxs, hza⟩ := amt_open hx
  have HXA := Lib.hid hxa
  clear hx CA1 hxa
  go_wp2_with fail
  refine (CA2.out _).mono ?_
  rintro _ _ ⟨⟨y, o, ok2, rfl, hy⟩, rfl⟩
  obtain ⟨rfl, b, hyb, hys, hzb⟩ := amt_open hy
  have HYB := Lib.hid hyb
  clear hy CA2 hyb
  have CB := Lib.hid (fun W => refBelow_any x y a b HXA.out HYB.out W)
  have HRES := Lib.hid hres
  have HZA := Lib.hid hza
  have HZB := Lib.hid hzb
  have HNE := Lib.hid hne
  clear hres hza hzb hne
  cases m <;> cases o
  case false.true =>
    have HE : Hid (1 = res) := Lib.hid (by
      have h1 : zx = (a : Int) := HZA.out
      have h2 : zy = -(b : Int) := HZB.out
      have := HNE.out
      rw [HRES.out, ordI_gt (by omega)])
    clear CB
    go_wp2
    go_ret
    exact ⟨ret_int HE.out, HB3.out⟩
  case true.false =>
    have HE : Hid (-1 = res) := Lib.hid (by
      have h1 : zx = -(a : Int) := HZA.out
      have h2 : zy = (b : Int) := HZB.out
      have := HNE.out
      rw [HRES.out, ordI_lt (by omega)])
    clear CB
    go_wp2
    go_ret
    exact ⟨ret_int HE.out, HB3.out⟩
  case false.false =>
    have h1 : zx = (a : Int) := HZA.out
    have h2 : zy = (b : Int) := HZB.out
    by_cases hlt : a < b
    · have HE : Hid (-1 = res) := Lib.hid (by rw [HRES.out, ordI_lt (by omega)])
      rw [decide_eq_true hlt] at CB
      clear h1 h2 hlt
      go_wp2_with fail
      refine (CB.out _).mono ?_
      rintro _ _ ⟨rfl, rfl⟩
      go_wp2
      go_ret
      exact ⟨ret_int HE.out, HB3.out⟩
    · have HE : Hid (1 = res) := Lib.hid (by have := HNE.out; rw [HRES.out, ordI_gt (by omega)])
      rw [decide_eq_false hlt] at CB
      clear h1 h2 hlt
      go_wp2_with fail
      refine (CB.out _).mono ?_
      rintro _ _ ⟨rfl, rfl⟩
      go_wp2
      go_ret
      exact ⟨ret_int HE.out, HB3.out⟩
  case true.true =>
    have h1 : zx = -(a : Int) := HZA.out
    have h2 : zy = -(b : Int) := HZB.out
    by_cases hlt : a < b
    · have HE : Hid (1 = res) := Lib.hid (by rw [HRES.out, ordI_gt (by omega)])
      rw [decide_eq_true hlt] at CB
      clear h1 h2 hlt
      go_wp2_with fail
      refine (CB.out _).mono ?_
      rintro _ _ ⟨rfl, rfl⟩
      go_wp2
      go_ret
      exact ⟨ret_int HE.out, HB3.out⟩
    · have HE : Hid (-1 = res) := Lib.hid (by have := HNE.out; rw [HRES.out, ordI_lt (by omega)])
      rw [decide_eq_false hlt] at CB
      clear h1 h2 hlt
      go_wp2_with fail
      refine (CB.out _).mono ?_
      rintro _ _ ⟨rfl, rfl⟩
      go_wp2
      go_ret
      exact ⟨ret_int HE.out, HB3.out⟩

/-! ### Int -/
theorem int_pair {a b c d : Int} (h : a = b) (h2 : c = d) : Ending.returned (.tuple #[.int .i64 a, .int .i64 c]) = .returned (.tuple #[.int .i64 b, .int .i64 d]) := by rw [h, h2]
theorem num_take_le (l : List UInt8) (k : Nat) : numL (l.take k) ≤ numL l := by
  have h := numL_app (l.take k) (l.drop k)
  rw [List.take_append_drop] at h
  have h1 : 1 ≤ 10 ^ (l.drop k).length := Nat.one_le_pow _ _ (by decide)
  have h2 : numL (l.take k) ≤ numL (l.take k) * 10 ^ (l.drop k).length := Nat.le_mul_of_pos_right _ h1
  omega
set_option maxHeartbeats 4000000 in
set_option maxRecDepth 100000 in
theorem refInt_any (s : ByteArray) (h1 : s.size ≤ 200) (w : World) :
    Calls Tryd.prog 19 #[.string s] w fun e w' => e = .returned (.tuple #[.int .i64 (intP s.data.toList).1, .int .i64 (intP s.data.toList).2]) ∧ Below w.heap.size w w' := by
  have CA1 := Lib.hid (fun W => refAmount_any s (by omega) W)
  have CR1 := Lib.hid (fun W => refRight_any s (by omega) W)
  have HP : Hid (intP s.data.toList = match readZ s.data.toList with
    | none => (0, 1)
    | some z => if -9223372036854775808 ≤ z ∧ z ≤ 9223372036854775807 then (z, 0) else (0, 10)) := Lib.hid rfl
  generalize intP s.data.toList = res at *
  generalize readZ s.data.toList = ra at *
  go_enter Tryd.func19, Tryd.ntmps19
  go_wp2_with fail
  refine (CA1.out _).mono ?_
  rintro _ _ ⟨⟨x, m, ok, rfl, hx⟩, rfl⟩
  have HX := Lib.hid hx
  clear hx CA1
  go_wp2_with fail
  refine (CR1.out _).mono ?_
  rintro _ w1 ⟨rfl, hb⟩
  have HB1 := Lib.hid hb
  clear hb CR1
  cases ra with
  | none =>
    have hres : Hid ((1 : Int) = res.2 ∧ (0 : Int) = res.1) := Lib.hid (by rw [HP.out]; exact ⟨rfl, rfl⟩)
    clear HP HX
    go_wp2
    go_ret2
    rw [← hres.out.1, ← hres.out.2]
    exact ⟨rfl, HB1.out⟩
  | some z =>
    obtain ⟨rfl, a, hxa, hxs, hza⟩ := amt_open HX.out
    have HXA := Lib.hid hxa
    have HZA := Lib.hid hza
    have hall : Hid (∀ k, k < x.size → 48 ≤ bt x k ∧ bt x k ≤ 57) := Lib.hid (fun k hk => by
      have h3 := dec_all a
      rw [← HXA.out] at h3
      have h4 := List.all_eq_true.1 h3 _ (List.mem_of_getElem? (bt_list x k hk))
      have h5 := of_decide_eq_true h4
      rwa [u8_of (bt_lt x k)] at h5)
    have hnum : Hid (numL x.data.toList = a) := Lib.hid (by rw [HXA.out, numL_dec])
    clear HX hxa hza
    have HST : Hid (numL (x.data.toList.take 0) = 0) := Lib.hid rfl
    cases m
    case false =>
      have hz : z = (a : Int) := HZA.out
      have CB := Lib.hid (fun W => refBelow_any ⟨#[57, 50, 50, 51, 51, 55, 50, 48, 51, 54, 56, 53, 52, 55, 55, 53, 56, 48, 55]⟩ x 9223372036854775807 a (dec_num [57, 50, 50, 51, 51, 55, 50, 48, 51, 54, 56, 53, 52, 55, 55, 53, 56, 48, 55] (by decide +kernel)).symm HXA.out W)
      by_cases hb : 9223372036854775807 < a
      · have hres : Hid ((10 : Int) = res.2 ∧ (0 : Int) = res.1) := Lib.hid (by rw [HP.out]; simp only []; rw [if_neg (by omega)]; exact ⟨rfl, rfl⟩)
        rw [decide_eq_true hb] at CB
        clear HP hz hb HZA HST
        go_wp2_with fail
        refine (CB.out _).mono ?_
        rintro _ _ ⟨rfl, rfl⟩
        go_wp2
        go_ret2
        rw [← hres.out.1, ← hres.out.2]
        exact ⟨rfl, HB1.out⟩
      · have hres : Hid ((0 : Int) = res.2 ∧ z = res.1) := Lib.hid (by rw [HP.out]; simp only []; rw [if_pos (by omega)]; exact ⟨rfl, rfl⟩)
        rw [decide_eq_false hb] at CB
        have HBD := Lib.hid hb
        have HZ := Lib.hid hz
        clear HP hz hb HZA
        go_wp2_with fail
        refine (CB.out _).mono ?_
        rintro _ _ ⟨rfl, rfl⟩
        go_wp2
        go_loop [8, 9] (fun nv iv => ∃ (k : Nat) (v : Int), nv = .int .i64 v ∧ iv = .int .i64 k ∧ k ≤ x.size ∧ Hid (v = ((numL (x.data.toList.take k) : Nat) : Int))) (fun _ iv => x.size - (intOf iv).toNat)
        case atStart => exact ⟨0, 0, rfl, rfl, Nat.zero_le _, Lib.hid (by rw [HST.out]; rfl)⟩
        case round =>
          clear HST
          obtain ⟨k, v, rfl, rfl, hk, HV⟩ := hrel
          by_cases hlt : k < x.size
          · have hby := hall.out k hlt
            have htn := take_num hlt
            have hle := num_take_le x.data.toList (k + 1)
            rw [hnum.out] at hle
            obtain ⟨d, hd⟩ : ∃ d, bt x k = 48 + d := ⟨bt x k - 48, by omega⟩
            have hd10 : d < 10 := by omega
            rw [hd, show 48 + d - 48 = d by omega] at htn
            rw [bt_eq x k hlt] at hd
            have hd2 : ((x[k].toNat : Nat) : Int) = 48 + (d : Int) := by omega
            have hv := HV.out
            have hbd := HBD.out
            have HTN := Lib.hid htn
            have hv0 : 0 ≤ v := by omega
            have hv1 : 10 * v + d ≤ 9223372036854775807 := by omega
            clear hby htn hle hd hv hbd
            go_wp2
            go_round
            case rel => exact ⟨k + 1, _, rfl, by go_num, by omega, Lib.hid (by have := HV.out; have := HTN.out; omega)⟩
            case measure => simp [intOf]; omega
          · obtain rfl : k = x.size := by omega
            have HEV : Hid (v = res.1) := Lib.hid (by
              have h3 := HV.out
              rw [List.take_of_length_le (by simp), hnum.out] at h3
              rw [h3, ← hres.out.2, HZ.out])
            go_wp2
            go_ret2
            exact ⟨int_pair HEV.out hres.out.1, HB1.out⟩
    case true =>
      have hz : z = -(a : Int) := HZA.out
      have CB := Lib.hid (fun W => refBelow_any ⟨#[57, 50, 50, 51, 51, 55, 50, 48, 51, 54, 56, 53, 52, 55, 55, 53, 56, 48, 56]⟩ x 9223372036854775808 a (dec_num [57, 50, 50, 51, 51, 55, 50, 48, 51, 54, 56, 53, 52, 55, 55, 53, 56, 48, 56] (by decide +kernel)).symm HXA.out W)
      by_cases hb : 9223372036854775808 < a
      · have hres : Hid ((10 : Int) = res.2 ∧ (0 : Int) = res.1) := Lib.hid (by rw [HP.out]; simp only []; rw [if_neg (by omega)]; exact ⟨rfl, rfl⟩)
        rw [decide_eq_true hb] at CB
        clear HP hz hb HZA HST
        go_wp2_with fail
        refine (CB.out _).mono ?_
        rintro _ _ ⟨rfl, rfl⟩
        go_wp2
        go_ret2
        rw [← hres.out.1, ← hres.out.2]
        exact ⟨rfl, HB1.out⟩
      · have hres : Hid ((0 : Int) = res.2 ∧ z = res.1) := Lib.hid (by rw [HP.out]; simp only []; rw [if_pos (by omega)]; exact ⟨rfl, rfl⟩)
        rw [decide_eq_false hb] at CB
        have HBD := Lib.hid hb
        have HZ := Lib.hid hz
        clear HP hz hb HZA
        go_wp2_with fail
        refine (CB.out _).mono ?_
        rintro _ _ ⟨rfl, rfl⟩
        go_wp2
        go_loop [8, 9] (fun nv iv => ∃ (k : Nat) (v : Int), nv = .int .i64 v ∧ iv = .int .i64 k ∧ k ≤ x.size ∧ Hid (v = -((numL (x.data.toList.take k) : Nat) : Int))) (fun _ iv => x.size - (intOf iv).toNat)
        case atStart => exact ⟨0, 0, rfl, rfl, Nat.zero_le _, Lib.hid (by rw [HST.out]; rfl)⟩
        case round =>
          clear HST
          obtain ⟨k, v, rfl, rfl, hk, HV⟩ := hrel
          by_cases hlt : k < x.size
          · have hby := hall.out k hlt
            have htn := take_num hlt
            have hle := num_take_le x.data.toList (k + 1)
            rw [hnum.out] at hle
            obtain ⟨d, hd⟩ : ∃ d, bt x k = 48 + d := ⟨bt x k - 48, by omega⟩
            have hd10 : d < 10 := by omega
            rw [hd, show 48 + d - 48 = d by omega] at htn
            rw [bt_eq x k hlt] at hd
            have hd2 : ((x[k].toNat : Nat) : Int) = 48 + (d : Int) := by omega
            have hv := HV.out
            have hbd := HBD.out
            have HTN := Lib.hid htn
            have hv0 : v ≤ 0 := by omega
            have hv1 : -9223372036854775808 ≤ 10 * v - d := by omega
            clear hby htn hle hd hv hbd
            go_wp2
            go_round
            case rel => exact ⟨k + 1, _, rfl, by go_num, by omega, Lib.hid (by have := HV.out; have := HTN.out; omega)⟩
            case measure => simp [intOf]; omega
          · obtain rfl : k = x.size := by omega
            have HEV : Hid (v = res.1) := Lib.hid (by
              have h3 := HV.out
              rw [List.take_of_length_le (by simp), hnum.out] at h3
              rw [h3, ← hres.out.2, HZ.out])
            go_wp2
            go_ret2
            exact ⟨int_pair HEV.out hres.out.1, HB1.out⟩
end Go.Proofs.YtpdkebljacmgfaaDoor
