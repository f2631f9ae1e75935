/- demoticref09: what comes of two numbers, sign by sign; told. -/
import Derived.Test.YtpdkebljacmgfaaDoorRef9h
namespace Go.Proofs.YtpdkebljacmgfaaDoor
open Go.RowKit
set_option linter.unusedVariables false

set_option maxHeartbeats 8000000 in
set_option maxRecDepth 100000 in
theorem refDoAdd_any (s t : ByteArray) (h1 : s.size ≤ 200) (h2 : t.size ≤ 200) (w : World) :
    Calls Tryd.prog 37 #[.string ⟨#[43]⟩, .string s, .string t] w (ReckEnds w (reckP (fun x y : Int => x + y) s.data.toList t.data.toList)) := by
  have CA1 := Lib.hid (refAmount_any s (by omega) w)
  have CA2 := Lib.hid (fun W => refAmount_any t (by omega) W)
  have CR1 := Lib.hid (fun W => refRight_any s (by omega) W)
  have CR2 := Lib.hid (fun W => refRight_any t (by omega) W)
  have hnone := fun h => reck_none (op := (fun x y : Int => x + y)) (a := s.data.toList) (b := t.data.toList) h
  have hsome := fun x y hx hy => reck_some (op := (fun x y : Int => x + y)) (a := s.data.toList) (b := t.data.toList) (x := x) (y := y) hx hy
  generalize reckP (fun x y : Int => x + y) s.data.toList t.data.toList = res at *
  generalize readZ s.data.toList = ra at *
  generalize readZ t.data.toList = rb at *
  have HNONE := Lib.hid hnone
  have HSOME := Lib.hid hsome
  clear hnone hsome
  go_enter Tryd.func37, Tryd.ntmps37
  go_wp2_with fail
  refine CA1.out.mono ?_
  rintro _ _ ⟨⟨x, m, ok, rfl, hx⟩, rfl⟩
  have HX := Lib.hid hx
  clear hx CA1
  go_wp2_with fail
  refine (CA2.out _).mono ?_
  rintro _ _ ⟨⟨y, o, ok2, rfl, hy⟩, rfl⟩
  have HY := Lib.hid hy
  clear hy CA2
  cases ra with
  | none =>
    have HE := Lib.hid (end_arg (HNONE.out (.inl rfl)))
    clear HNONE HSOME HX HY
    go_wp2_with fail
    refine (CR1.out _).mono ?_
    rintro _ w1 ⟨rfl, hb⟩
    have HB1 := Lib.hid hb
    clear hb CR1
    go_wp2
    go_ret2
    exact ⟨HE.out, HB1.out⟩
  | some zx =>
  go_wp2_with fail
  refine (CR1.out _).mono ?_
  rintro _ w1 ⟨rfl, hb⟩
  have HB1 := Lib.hid hb
  clear hb CR1
  cases rb with
  | none =>
    have HE := Lib.hid (end_arg (HNONE.out (.inr rfl)))
    clear HNONE HSOME HX HY
    go_wp2_with fail
    refine (CR2.out _).mono ?_
    rintro _ w3 ⟨rfl, hb⟩
    have HB3 := Lib.hid (HB1.out.trans (hb.mono HB1.out.size))
    clear hb CR2
    go_wp2
    go_ret2
    exact ⟨HE.out, HB3.out⟩
  | some zy =>
  go_wp2_with fail
  refine (CR2.out _).mono ?_
  rintro _ w3 ⟨rfl, hb⟩
  have HB3 := Lib.hid (HB1.out.trans (hb.mono HB1.out.size))
  clear hb CR2 HB1
  obtain ⟨rfl, a, hxa, hxs, hza⟩ := amt_open HX.out
  obtain ⟨rfl, b, hyb, hys, hzb⟩ := amt_open HY.out
  obtain ⟨ZZ, hZZ⟩ : ∃ ZZ, ZZ = (fun x y : Int => x + y) zx zy := ⟨_, rfl⟩
  have HRES : Hid (res = resZ ZZ) := Lib.hid (by rw [hZZ]; exact HSOME.out zx zy rfl rfl)
  have HZ : Hid (ZZ = (fun x y : Int => x + y) (sgnI m a) (sgnI o b)) := Lib.hid (by rw [hZZ, hza, hzb])
  obtain ⟨U, hU⟩ : ∃ U : ByteArray, U = ⟨(Lib.itoa ZZ).toArray⟩ := ⟨_, rfl⟩
  have HU := Lib.hid hU
  have hpa := pw_nd hxa hxs
  have hpb := pw_nd hyb hys
  have hpw := pw_two hpa hpb
  have hpw2 := pw_two hpb hpa
  clear hza hzb hZZ hU HNONE HSOME HX HY hpa hpb
  cases m with
  | false =>
    cases o with
    | false =>
      have hdd : a + b < Ten.pw 320 := hpw.1
      have hZZ : (if false then -((a + b : Nat) : Int) else ((a + b : Nat) : Int)) = ZZ := by rw [HZ.out]; exact (by simp [sgnI] <;> omega)
      obtain ⟨D, hDD⟩ : ∃ D : ByteArray, D = ⟨(Lib.decDigits (a + b)).toArray⟩ := ⟨_, rfl⟩
      have hD : D.data.toList = Lib.decDigits (a + b) := by rw [hDD]
      have CD := Lib.hid (fun W => refAdd_any x y a b hxa hyb (by omega) (by omega) W)
      rw [← hDD] at CD
      clear hDD
      have CS := Lib.hid (fun W => signed_to (D := D) (U := U) hD hZZ HU.out hdd W)
      have CZ := Lib.hid (fun W => right_to (U := U) hZZ HU.out hdd W)
      clear hD hZZ hdd
      clear hpw hpw2 hxa hyb
      go_wp2_with fail
      refine (CD.out _).mono ?_
      rintro _ w4 ⟨rfl, hb⟩
      have HB4 := Lib.hid (HB3.out.trans (hb.mono HB3.out.size))
      clear hb CD
      go_wp2_with fail
      refine (CS.out _).mono ?_
      rintro _ _ ⟨rfl, rfl⟩
      clear CS
      go_wp2_with fail
      refine (CZ.out _).mono ?_
      rintro _ w5 ⟨rfl, hb⟩
      have HB5 := Lib.hid (HB4.out.trans (hb.mono HB4.out.size))
      clear hb CZ
      by_cases hl : ZZ.natAbs < limN
      · have HE := Lib.hid (end_ok HRES.out HU.out hl)
        rw [decide_eq_true hl]
        clear hl
        go_wp2
        go_ret2
        exact ⟨HE.out, HB5.out⟩
      · have HE := Lib.hid (end_big HRES.out hl)
        rw [decide_eq_false hl]
        clear hl
        go_wp2
        go_ret2
        exact ⟨HE.out, HB5.out⟩
    | true =>
      have CB := Lib.hid (fun W => refBelow_any x y a b hxa hyb W)
      by_cases hlt : a < b
      · rw [decide_eq_true hlt] at CB
        have hdd : b - a < Ten.pw 320 := hpw2.2.2 _ (Nat.sub_le _ _)
        have hZZ : (if true then -((b - a : Nat) : Int) else ((b - a : Nat) : Int)) = ZZ := by rw [HZ.out]; exact (by simp [sgnI] <;> omega)
        obtain ⟨D, hDD⟩ : ∃ D : ByteArray, D = ⟨(Lib.decDigits (b - a)).toArray⟩ := ⟨_, rfl⟩
        have hD : D.data.toList = Lib.decDigits (b - a) := by rw [hDD]
        have CD := Lib.hid (fun W => refTake_any y x b a hyb hxa (by omega) (by omega) (by omega) W)
        rw [← hDD] at CD
        clear hDD
        have CS := Lib.hid (fun W => signed_to (D := D) (U := U) hD hZZ HU.out hdd W)
        have CZ := Lib.hid (fun W => right_to (U := U) hZZ HU.out hdd W)
        clear hD hZZ hdd
        clear hpw hpw2 hxa hyb hlt
        go_wp2_with fail
        refine (CB.out _).mono ?_
        rintro _ _ ⟨rfl, rfl⟩
        go_wp2_with fail
        refine (CD.out _).mono ?_
        rintro _ w4 ⟨rfl, hb⟩
        have HB4 := Lib.hid (HB3.out.trans (hb.mono HB3.out.size))
        clear hb CD
        go_wp2_with fail
        refine (CS.out _).mono ?_
        rintro _ _ ⟨rfl, rfl⟩
        clear CS
        go_wp2_with fail
        refine (CZ.out _).mono ?_
        rintro _ w5 ⟨rfl, hb⟩
        have HB5 := Lib.hid (HB4.out.trans (hb.mono HB4.out.size))
        clear hb CZ
        by_cases hl : ZZ.natAbs < limN
        · have HE := Lib.hid (end_ok HRES.out HU.out hl)
          rw [decide_eq_true hl]
          clear hl
          go_wp2
          go_ret2
          exact ⟨HE.out, HB5.out⟩
        · have HE := Lib.hid (end_big HRES.out hl)
          rw [decide_eq_false hl]
          clear hl
          go_wp2
          go_ret2
          exact ⟨HE.out, HB5.out⟩
      · rw [decide_eq_false hlt] at CB
        have hdd : a - b < Ten.pw 320 := hpw.2.2 _ (Nat.sub_le _ _)
        have hZZ : (if false then -((a - b : Nat) : Int) else ((a - b : Nat) : Int)) = ZZ := by rw [HZ.out]; exact (by simp [sgnI] <;> omega)
        obtain ⟨D, hDD⟩ : ∃ D : ByteArray, D = ⟨(Lib.decDigits (a - b)).toArray⟩ := ⟨_, rfl⟩
        have hD : D.data.toList = Lib.decDigits (a - b) := by rw [hDD]
        have CD := Lib.hid (fun W => refTake_any x y a b hxa hyb (by omega) (by omega) (by omega) W)
        rw [← hDD] at CD
        clear hDD
        have CS := Lib.hid (fun W => signed_to (D := D) (U := U) hD hZZ HU.out hdd W)
        have CZ := Lib.hid (fun W => right_to (U := U) hZZ HU.out hdd W)
        clear hD hZZ hdd
        clear hpw hpw2 hxa hyb hlt
        go_wp2_with fail
        refine (CB.out _).mono ?_
        rintro _ _ ⟨rfl, rfl⟩
        go_wp2_with fail
        refine (CD.out _).mono ?_
        rintro _ w4 ⟨rfl, hb⟩
        have HB4 := Lib.hid (HB3.out.trans (hb.mono HB3.out.size))
        clear hb CD
        go_wp2_with fail
        refine (CS.out _).mono ?_
        rintro _ _ ⟨rfl, rfl⟩
        clear CS
        go_wp2_with fail
        refine (CZ.out _).mono ?_
        rintro _ w5 ⟨rfl, hb⟩
        have HB5 := Lib.hid (HB4.out.trans (hb.mono HB4.out.size))
        clear hb CZ
        by_cases hl : ZZ.natAbs < limN
        · have HE := Lib.hid (end_ok HRES.out HU.out hl)
          rw [decide_eq_true hl]
          clear hl
          go_wp2
          go_ret2
          exact ⟨HE.out, HB5.out⟩
        · have HE := Lib.hid (end_big HRES.out hl)
          rw [decide_eq_false hl]
          clear hl
          go_wp2
          go_ret2
          exact ⟨HE.out, HB5.out⟩
  | true =>
    cases o with
    | false =>
      have CB := Lib.hid (fun W => refBelow_any x y a b hxa hyb W)
      by_cases hlt : a < b
      · rw [decide_eq_true hlt] at CB
        have hdd : b - a < Ten.pw 320 := hpw2.2.2 _ (Nat.sub_le _ _)
        have hZZ : (if false then -((b - a : Nat) : Int) else ((b - a : Nat) : Int)) = ZZ := by rw [HZ.out]; exact (by simp [sgnI] <;> omega)
        obtain ⟨D, hDD⟩ : ∃ D : ByteArray, D = ⟨(Lib.decDigits (b - a)).toArray⟩ := ⟨_, rfl⟩
        have hD : D.data.toList = Lib.decDigits (b - a) := by rw [hDD]
        have CD := Lib.hid (fun W => refTake_any y x b a hyb hxa (by omega) (by omega) (by omega) W)
        rw [← hDD] at CD
        clear hDD
        have CS := Lib.hid (fun W => signed_to (D := D) (U := U) hD hZZ HU.out hdd W)
        have CZ := Lib.hid (fun W => right_to (U := U) hZZ HU.out hdd W)
        clear hD hZZ hdd
        clear hpw hpw2 hxa hyb hlt
        go_wp2_with fail
        refine (CB.out _).mono ?_
        rintro _ _ ⟨rfl, rfl⟩
        go_wp2_with fail
        refine (CD.out _).mono ?_
        rintro _ w4 ⟨rfl, hb⟩
        have HB4 := Lib.hid (HB3.out.trans (hb.mono HB3.out.size))
        clear hb CD
        go_wp2_with fail
        refine (CS.out _).mono ?_
        rintro _ _ ⟨rfl, rfl⟩
        clear CS
        go_wp2_with fail
        refine (CZ.out _).mono ?_
        rintro _ w5 ⟨rfl, hb⟩
        have HB5 := Lib.hid (HB4.out.trans (hb.mono HB4.out.size))
        clear hb CZ
        by_cases hl : ZZ.natAbs < limN
        · have HE := Lib.hid (end_ok HRES.out HU.out hl)
          rw [decide_eq_true hl]
          clear hl
          go_wp2
          go_ret2
          exact ⟨HE.out, HB5.out⟩
        · have HE := Lib.hid (end_big HRES.out hl)
          rw [decide_eq_false hl]
          clear hl
          go_wp2
          go_ret2
          exact ⟨HE.out, HB5.out⟩
      · rw [decide_eq_false hlt] at CB
        have hdd : a - b < Ten.pw 320 := hpw.2.2 _ (Nat.sub_le _ _)
        have hZZ : (if true then -((a - b : Nat) : Int) else ((a - b : Nat) : Int)) = ZZ := by rw [HZ.out]; exact (by simp [sgnI] <;> omega)
        obtain ⟨D, hDD⟩ : ∃ D : ByteArray, D = ⟨(Lib.decDigits (a - b)).toArray⟩ := ⟨_, rfl⟩
        have hD : D.data.toList = Lib.decDigits (a - b) := by rw [hDD]
        have CD := Lib.hid (fun W => refTake_any x y a b hxa hyb (by omega) (by omega) (by omega) W)
        rw [← hDD] at CD
        clear hDD
        have CS := Lib.hid (fun W => signed_to (D := D) (U := U) hD hZZ HU.out hdd W)
        have CZ := Lib.hid (fun W => right_to (U := U) hZZ HU.out hdd W)
        clear hD hZZ hdd
        clear hpw hpw2 hxa hyb hlt
        go_wp2_with fail
        refine (CB.out _).mono ?_
        rintro _ _ ⟨rfl, rfl⟩
        go_wp2_with fail
        refine (CD.out _).mono ?_
        rintro _ w4 ⟨rfl, hb⟩
        have HB4 := Lib.hid (HB3.out.trans (hb.mono HB3.out.size))
        clear hb CD
        go_wp2_with fail
        refine (CS.out _).mono ?_
        rintro _ _ ⟨rfl, rfl⟩
        clear CS
        go_wp2_with fail
        refine (CZ.out _).mono ?_
        rintro _ w5 ⟨rfl, hb⟩
        have HB5 := Lib.hid (HB4.out.trans (hb.mono HB4.out.size))
        clear hb CZ
        by_cases hl : ZZ.natAbs < limN
        · have HE := Lib.hid (end_ok HRES.out HU.out hl)
          rw [decide_eq_true hl]
          clear hl
          go_wp2
          go_ret2
          exact ⟨HE.out, HB5.out⟩
        · have HE := Lib.hid (end_big HRES.out hl)
          rw [decide_eq_false hl]
          clear hl
          go_wp2
          go_ret2
          exact ⟨HE.out, HB5.out⟩
    | true =>
      have hdd : a + b < Ten.pw 320 := hpw.1
      have hZZ : (if true then -((a + b : Nat) : Int) else ((a + b : Nat) : Int)) = ZZ := by rw [HZ.out]; exact (by simp [sgnI] <;> omega)
      obtain ⟨D, hDD⟩ : ∃ D : ByteArray, D = ⟨(Lib.decDigits (a + b)).toArray⟩ := ⟨_, rfl⟩
      have hD : D.data.toList = Lib.decDigits (a + b) := by rw [hDD]
      have CD := Lib.hid (fun W => refAdd_any x y a b hxa hyb (by omega) (by omega) W)
      rw [← hDD] at CD
      clear hDD
      have CS := Lib.hid (fun W => signed_to (D := D) (U := U) hD hZZ HU.out hdd W)
      have CZ := Lib.hid (fun W => right_to (U := U) hZZ HU.out hdd W)
      clear hD hZZ hdd
      clear hpw hpw2 hxa hyb
      go_wp2_with fail
      refine (CD.out _).mono ?_
      rintro _ w4 ⟨rfl, hb⟩
      have HB4 := Lib.hid (HB3.out.trans (hb.mono HB3.out.size))
      clear hb CD
      go_wp2_with fail
      refine (CS.out _).mono ?_
      rintro _ _ ⟨rfl, rfl⟩
      clear CS
      go_wp2_with fail
      refine (CZ.out _).mono ?_
      rintro _ w5 ⟨rfl, hb⟩
      have HB5 := Lib.hid (HB4.out.trans (hb.mono HB4.out.size))
      clear hb CZ
      by_cases hl : ZZ.natAbs < limN
      · have HE := Lib.hid (end_ok HRES.out HU.out hl)
        rw [decide_eq_true hl]
        clear hl
        go_wp2
        go_ret2
        exact ⟨HE.out, HB5.out⟩
      · have HE := Lib.hid (end_big HRES.out hl)
        rw [decide_eq_false hl]
        clear hl
        go_wp2
        go_ret2
        exact ⟨HE.out, HB5.out⟩

set_option maxHeartbeats 8000000 in
set_option maxRecDepth 100000 in
theorem refDoSub_any (s t : ByteArray) (h1 : s.size ≤ 200) (h2 : t.size ≤ 200) (w : World) :
    Calls Tryd.prog 37 #[.string ⟨#[45]⟩, .string s, .string t] w (ReckEnds w (reckP (fun x y : Int => x - y) s.data.toList t.data.toList)) := by
  have CA1 := Lib.hid (refAmount_any s (by omega) w)
  have CA2 := Lib.hid (fun W => refAmount_any t (by omega) W)
  have CR1 := Lib.hid (fun W => refRight_any s (by omega) W)
  have CR2 := Lib.hid (fun W => refRight_any t (by omega) W)
  have hnone := fun h => reck_none (op := (fun x y : Int => x - y)) (a := s.data.toList) (b := t.data.toList) h
  have hsome := fun x y hx hy => reck_some (op := (fun x y : Int => x - y)) (a := s.data.toList) (b := t.data.toList) (x := x) (y := y) hx hy
  generalize reckP (fun x y : Int => x - y) s.data.toList t.data.toList = res at *
  generalize readZ s.data.toList = ra at *
  generalize readZ t.data.toList = rb at *
  have HNONE := Lib.hid hnone
  have HSOME := Lib.hid hsome
  clear hnone hsome
  go_enter Tryd.func37, Tryd.ntmps37
  go_wp2_with fail
  refine CA1.out.mono ?_
  rintro _ _ ⟨⟨x, m, ok, rfl, hx⟩, rfl⟩
  have HX := Lib.hid hx
  clear hx CA1
  go_wp2_with fail
  refine (CA2.out _).mono ?_
  rintro _ _ ⟨⟨y, o, ok2, rfl, hy⟩, rfl⟩
  have HY := Lib.hid hy
  clear hy CA2
  cases ra with
  | none =>
    have HE := Lib.hid (end_arg (HNONE.out (.inl rfl)))
    clear HNONE HSOME HX HY
    go_wp2_with fail
    refine (CR1.out _).mono ?_
    rintro _ w1 ⟨rfl, hb⟩
    have HB1 := Lib.hid hb
    clear hb CR1
    go_wp2
    go_ret2
    exact ⟨HE.out, HB1.out⟩
  | some zx =>
  go_wp2_with fail
  refine (CR1.out _).mono ?_
  rintro _ w1 ⟨rfl, hb⟩
  have HB1 := Lib.hid hb
  clear hb CR1
  cases rb with
  | none =>
    have HE := Lib.hid (end_arg (HNONE.out (.inr rfl)))
    clear HNONE HSOME HX HY
    go_wp2_with fail
    refine (CR2.out _).mono ?_
    rintro _ w3 ⟨rfl, hb⟩
    have HB3 := Lib.hid (HB1.out.trans (hb.mono HB1.out.size))
    clear hb CR2
    go_wp2
    go_ret2
    exact ⟨HE.out, HB3.out⟩
  | some zy =>
  go_wp2_with fail
  refine (CR2.out _).mono ?_
  rintro _ w3 ⟨rfl, hb⟩
  have HB3 := Lib.hid (HB1.out.trans (hb.mono HB1.out.size))
  clear hb CR2 HB1
  obtain ⟨rfl, a, hxa, hxs, hza⟩ := amt_open HX.out
  obtain ⟨rfl, b, hyb, hys, hzb⟩ := amt_open HY.out
  obtain ⟨ZZ, hZZ⟩ : ∃ ZZ, ZZ = (fun x y : Int => x - y) zx zy := ⟨_, rfl⟩
  have HRES : Hid (res = resZ ZZ) := Lib.hid (by rw [hZZ]; exact HSOME.out zx zy rfl rfl)
  have HZ : Hid (ZZ = (fun x y : Int => x - y) (sgnI m a) (sgnI o b)) := Lib.hid (by rw [hZZ, hza, hzb])
  obtain ⟨U, hU⟩ : ∃ U : ByteArray, U = ⟨(Lib.itoa ZZ).toArray⟩ := ⟨_, rfl⟩
  have HU := Lib.hid hU
  have hpa := pw_nd hxa hxs
  have hpb := pw_nd hyb hys
  have hpw := pw_two hpa hpb
  have hpw2 := pw_two hpb hpa
  clear hza hzb hZZ hU HNONE HSOME HX HY hpa hpb
  cases m with
  | false =>
    cases o with
    | false =>
      have CB := Lib.hid (fun W => refBelow_any x y a b hxa hyb W)
      by_cases hlt : a < b
      · rw [decide_eq_true hlt] at CB
        have hdd : b - a < Ten.pw 320 := hpw2.2.2 _ (Nat.sub_le _ _)
        have hZZ : (if true then -((b - a : Nat) : Int) else ((b - a : Nat) : Int)) = ZZ := by rw [HZ.out]; exact (by simp [sgnI] <;> omega)
        obtain ⟨D, hDD⟩ : ∃ D : ByteArray, D = ⟨(Lib.decDigits (b - a)).toArray⟩ := ⟨_, rfl⟩
        have hD : D.data.toList = Lib.decDigits (b - a) := by rw [hDD]
        have CD := Lib.hid (fun W => refTake_any y x b a hyb hxa (by omega) (by omega) (by omega) W)
        rw [← hDD] at CD
        clear hDD
        have CS := Lib.hid (fun W => signed_to (D := D) (U := U) hD hZZ HU.out hdd W)
        have CZ := Lib.hid (fun W => right_to (U := U) hZZ HU.out hdd W)
        clear hD hZZ hdd
        clear hpw hpw2 hxa hyb hlt
        go_wp2_with fail
        refine (CB.out _).mono ?_
        rintro _ _ ⟨rfl, rfl⟩
        go_wp2_with fail
        refine (CD.out _).mono ?_
        rintro _ w4 ⟨rfl, hb⟩
        have HB4 := Lib.hid (HB3.out.trans (hb.mono HB3.out.size))
        clear hb CD
        go_wp2_with fail
        refine (CS.out _).mono ?_
        rintro _ _ ⟨rfl, rfl⟩
        clear CS
        go_wp2_with fail
        refine (CZ.out _).mono ?_
        rintro _ w5 ⟨rfl, hb⟩
        have HB5 := Lib.hid (HB4.out.trans (hb.mono HB4.out.size))
        clear hb CZ
        by_cases hl : ZZ.natAbs < limN
        · have HE := Lib.hid (end_ok HRES.out HU.out hl)
          rw [decide_eq_true hl]
          clear hl
          go_wp2
          go_ret2
          exact ⟨HE.out, HB5.out⟩
        · have HE := Lib.hid (end_big HRES.out hl)
          rw [decide_eq_false hl]
          clear hl
          go_wp2
          go_ret2
          exact ⟨HE.out, HB5.out⟩
      · rw [decide_eq_false hlt] at CB
        have hdd : a - b < Ten.pw 320 := hpw.2.2 _ (Nat.sub_le _ _)
        have hZZ : (if false then -((a - b : Nat) : Int) else ((a - b : Nat) : Int)) = ZZ := by rw [HZ.out]; exact (by simp [sgnI] <;> omega)
        obtain ⟨D, hDD⟩ : ∃ D : ByteArray, D = ⟨(Lib.decDigits (a - b)).toArray⟩ := ⟨_, rfl⟩
        have hD : D.data.toList = Lib.decDigits (a - b) := by rw [hDD]
        have CD := Lib.hid (fun W => refTake_any x y a b hxa hyb (by omega) (by omega) (by omega) W)
        rw [← hDD] at CD
        clear hDD
        have CS := Lib.hid (fun W => signed_to (D := D) (U := U) hD hZZ HU.out hdd W)
        have CZ := Lib.hid (fun W => right_to (U := U) hZZ HU.out hdd W)
        clear hD hZZ hdd
        clear hpw hpw2 hxa hyb hlt
        go_wp2_with fail
        refine (CB.out _).mono ?_
        rintro _ _ ⟨rfl, rfl⟩
        go_wp2_with fail
        refine (CD.out _).mono ?_
        rintro _ w4 ⟨rfl, hb⟩
        have HB4 := Lib.hid (HB3.out.trans (hb.mono HB3.out.size))
        clear hb CD
        go_wp2_with fail
        refine (CS.out _).mono ?_
        rintro _ _ ⟨rfl, rfl⟩
        clear CS
        go_wp2_with fail
        refine (CZ.out _).mono ?_
        rintro _ w5 ⟨rfl, hb⟩
        have HB5 := Lib.hid (HB4.out.trans (hb.mono HB4.out.size))
        clear hb CZ
        by_cases hl : ZZ.natAbs < limN
        · have HE := Lib.hid (end_ok HRES.out HU.out hl)
          rw [decide_eq_true hl]
          clear hl
          go_wp2
          go_ret2
          exact ⟨HE.out, HB5.out⟩
        · have HE := Lib.hid (end_big HRES.out hl)
          rw [decide_eq_false hl]
          clear hl
          go_wp2
          go_ret2
          exact ⟨HE.out, HB5.out⟩
    | true =>
      have hdd : a + b < Ten.pw 320 := hpw.1
      have hZZ : (if false then -((a + b : Nat) : Int) else ((a + b : Nat) : Int)) = ZZ := by rw [HZ.out]; exact (by simp [sgnI] <;> omega)
      obtain ⟨D, hDD⟩ : ∃ D : ByteArray, D = ⟨(Lib.decDigits (a + b)).toArray⟩ := ⟨_, rfl⟩
      have hD : D.data.toList = Lib.decDigits (a + b) := by rw [hDD]
      have CD := Lib.hid (fun W => refAdd_any x y a b hxa hyb (by omega) (by omega) W)
      rw [← hDD] at CD
      clear hDD
      have CS := Lib.hid (fun W => signed_to (D := D) (U := U) hD hZZ HU.out hdd W)
      have CZ := Lib.hid (fun W => right_to (U := U) hZZ HU.out hdd W)
      clear hD hZZ hdd
      clear hpw hpw2 hxa hyb
      go_wp2_with fail
      refine (CD.out _).mono ?_
      rintro _ w4 ⟨rfl, hb⟩
      have HB4 := Lib.hid (HB3.out.trans (hb.mono HB3.out.size))
      clear hb CD
      go_wp2_with fail
      refine (CS.out _).mono ?_
      rintro _ _ ⟨rfl, rfl⟩
      clear CS
      go_wp2_with fail
      refine (CZ.out _).mono ?_
      rintro _ w5 ⟨rfl, hb⟩
      have HB5 := Lib.hid (HB4.out.trans (hb.mono HB4.out.size))
      clear hb CZ
      by_cases hl : ZZ.natAbs < limN
      · have HE := Lib.hid (end_ok HRES.out HU.out hl)
        rw [decide_eq_true hl]
        clear hl
        go_wp2
        go_ret2
        exact ⟨HE.out, HB5.out⟩
      · have HE := Lib.hid (end_big HRES.out hl)
        rw [decide_eq_false hl]
        clear hl
        go_wp2
        go_ret2
        exact ⟨HE.out, HB5.out⟩
  | true =>
    cases o with
    | false =>
      have hdd : a + b < Ten.pw 320 := hpw.1
      have hZZ : (if true then -((a + b : Nat) : Int) else ((a + b : Nat) : Int)) = ZZ := by rw [HZ.out]; exact (by simp [sgnI] <;> omega)
      obtain ⟨D, hDD⟩ : ∃ D : ByteArray, D = ⟨(Lib.decDigits (a + b)).toArray⟩ := ⟨_, rfl⟩
      have hD : D.data.toList = Lib.decDigits (a + b) := by rw [hDD]
      have CD := Lib.hid (fun W => refAdd_any x y a b hxa hyb (by omega) (by omega) W)
      rw [← hDD] at CD
      clear hDD
      have CS := Lib.hid (fun W => signed_to (D := D) (U := U) hD hZZ HU.out hdd W)
      have CZ := Lib.hid (fun W => right_to (U := U) hZZ HU.out hdd W)
      clear hD hZZ hdd
      clear hpw hpw2 hxa hyb
      go_wp2_with fail
      refine (CD.out _).mono ?_
      rintro _ w4 ⟨rfl, hb⟩
      have HB4 := Lib.hid (HB3.out.trans (hb.mono HB3.out.size))
      clear hb CD
      go_wp2_with fail
      refine (CS.out _).mono ?_
      rintro _ _ ⟨rfl, rfl⟩
      clear CS
      go_wp2_with fail
      refine (CZ.out _).mono ?_
      rintro _ w5 ⟨rfl, hb⟩
      have HB5 := Lib.hid (HB4.out.trans (hb.mono HB4.out.size))
      clear hb CZ
      by_cases hl : ZZ.natAbs < limN
      · have HE := Lib.hid (end_ok HRES.out HU.out hl)
        rw [decide_eq_true hl]
        clear hl
        go_wp2
        go_ret2
        exact ⟨HE.out, HB5.out⟩
      · have HE := Lib.hid (end_big HRES.out hl)
        rw [decide_eq_false hl]
        clear hl
        go_wp2
        go_ret2
        exact ⟨HE.out, HB5.out⟩
    | true =>
      have CB := Lib.hid (fun W => refBelow_any x y a b hxa hyb W)
      by_cases hlt : a < b
      · rw [decide_eq_true hlt] at CB
        have hdd : b - a < Ten.pw 320 := hpw2.2.2 _ (Nat.sub_le _ _)
        have hZZ : (if false then -((b - a : Nat) : Int) else ((b - a : Nat) : Int)) = ZZ := by rw [HZ.out]; exact (by simp [sgnI] <;> omega)
        obtain ⟨D, hDD⟩ : ∃ D : ByteArray, D = ⟨(Lib.decDigits (b - a)).toArray⟩ := ⟨_, rfl⟩
        have hD : D.data.toList = Lib.decDigits (b - a) := by rw [hDD]
        have CD := Lib.hid (fun W => refTake_any y x b a hyb hxa (by omega) (by omega) (by omega) W)
        rw [← hDD] at CD
        clear hDD
        have CS := Lib.hid (fun W => signed_to (D := D) (U := U) hD hZZ HU.out hdd W)
        have CZ := Lib.hid (fun W => right_to (U := U) hZZ HU.out hdd W)
        clear hD hZZ hdd
        clear hpw hpw2 hxa hyb hlt
        go_wp2_with fail
        refine (CB.out _).mono ?_
        rintro _ _ ⟨rfl, rfl⟩
        go_wp2_with fail
        refine (CD.out _).mono ?_
        rintro _ w4 ⟨rfl, hb⟩
        have HB4 := Lib.hid (HB3.out.trans (hb.mono HB3.out.size))
        clear hb CD
        go_wp2_with fail
        refine (CS.out _).mono ?_
        rintro _ _ ⟨rfl, rfl⟩
        clear CS
        go_wp2_with fail
        refine (CZ.out _).mono ?_
        rintro _ w5 ⟨rfl, hb⟩
        have HB5 := Lib.hid (HB4.out.trans (hb.mono HB4.out.size))
        clear hb CZ
        by_cases hl : ZZ.natAbs < limN
        · have HE := Lib.hid (end_ok HRES.out HU.out hl)
          rw [decide_eq_true hl]
          clear hl
          go_wp2
          go_ret2
          exact ⟨HE.out, HB5.out⟩
        · have HE := Lib.hid (end_big HRES.out hl)
          rw [decide_eq_false hl]
          clear hl
          go_wp2
          go_ret2
          exact ⟨HE.out, HB5.out⟩
      · rw [decide_eq_false hlt] at CB
        have hdd : a - b < Ten.pw 320 := hpw.2.2 _ (Nat.sub_le _ _)
        have hZZ : (if true then -((a - b : Nat) : Int) else ((a - b : Nat) : Int)) = ZZ := by rw [HZ.out]; exact (by simp [sgnI] <;> omega)
        obtain ⟨D, hDD⟩ : ∃ D : ByteArray, D = ⟨(Lib.decDigits (a - b)).toArray⟩ := ⟨_, rfl⟩
        have hD : D.data.toList = Lib.decDigits (a - b) := by rw [hDD]
        have CD := Lib.hid (fun W => refTake_any x y a b hxa hyb (by omega) (by omega) (by omega) W)
        rw [← hDD] at CD
        clear hDD
        have CS := Lib.hid (fun W => signed_to (D := D) (U := U) hD hZZ HU.out hdd W)
        have CZ := Lib.hid (fun W => right_to (U := U) hZZ HU.out hdd W)
        clear hD hZZ hdd
        clear hpw hpw2 hxa hyb hlt
        go_wp2_with fail
        refine (CB.out _).mono ?_
        rintro _ _ ⟨rfl, rfl⟩
        go_wp2_with fail
        refine (CD.out _).mono ?_
        rintro _ w4 ⟨rfl, hb⟩
        have HB4 := Lib.hid (HB3.out.trans (hb.mono HB3.out.size))
        clear hb CD
        go_wp2_with fail
        refine (CS.out _).mono ?_
        rintro _ _ ⟨rfl, rfl⟩
        clear CS
        go_wp2_with fail
        refine (CZ.out _).mono ?_
        rintro _ w5 ⟨rfl, hb⟩
        have HB5 := Lib.hid (HB4.out.trans (hb.mono HB4.out.size))
        clear hb CZ
        by_cases hl : ZZ.natAbs < limN
        · have HE := Lib.hid (end_ok HRES.out HU.out hl)
          rw [decide_eq_true hl]
          clear hl
          go_wp2
          go_ret2
          exact ⟨HE.out, HB5.out⟩
        · have HE := Lib.hid (end_big HRES.out hl)
          rw [decide_eq_false hl]
          clear hl
          go_wp2
          go_ret2
          exact ⟨HE.out, HB5.out⟩

set_option maxHeartbeats 8000000 in
set_option maxRecDepth 100000 in
theorem refDoMul_any (s t : ByteArray) (h1 : s.size ≤ 200) (h2 : t.size ≤ 200) (w : World) :
    Calls Tryd.prog 37 #[.string ⟨#[42]⟩, .string s, .string t] w (ReckEnds w (reckP (fun x y : Int => x * y) s.data.toList t.data.toList)) := by
  have CA1 := Lib.hid (refAmount_any s (by omega) w)
  have CA2 := Lib.hid (fun W => refAmount_any t (by omega) W)
  have CR1 := Lib.hid (fun W => refRight_any s (by omega) W)
  have CR2 := Lib.hid (fun W => refRight_any t (by omega) W)
  have hnone := fun h => reck_none (op := (fun x y : Int => x * y)) (a := s.data.toList) (b := t.data.toList) h
  have hsome := fun x y hx hy => reck_some (op := (fun x y : Int => x * y)) (a := s.data.toList) (b := t.data.toList) (x := x) (y := y) hx hy
  generalize reckP (fun x y : Int => x * y) s.data.toList t.data.toList = res at *
  generalize readZ s.data.toList = ra at *
  generalize readZ t.data.toList = rb at *
  have HNONE := Lib.hid hnone
  have HSOME := Lib.hid hsome
  clear hnone hsome
  go_enter Tryd.func37, Tryd.ntmps37
  go_wp2_with fail
  refine CA1.out.mono ?_
  rintro _ _ ⟨⟨x, m, ok, rfl, hx⟩, rfl⟩
  have HX := Lib.hid hx
  clear hx CA1
  go_wp2_with fail
  refine (CA2.out _).mono ?_
  rintro _ _ ⟨⟨y, o, ok2, rfl, hy⟩, rfl⟩
  have HY := Lib.hid hy
  clear hy CA2
  cases ra with
  | none =>
    have HE := Lib.hid (end_arg (HNONE.out (.inl rfl)))
    clear HNONE HSOME HX HY
    go_wp2_with fail
    refine (CR1.out _).mono ?_
    rintro _ w1 ⟨rfl, hb⟩
    have HB1 := Lib.hid hb
    clear hb CR1
    go_wp2
    go_ret2
    exact ⟨HE.out, HB1.out⟩
  | some zx =>
  go_wp2_with fail
  refine (CR1.out _).mono ?_
  rintro _ w1 ⟨rfl, hb⟩
  have HB1 := Lib.hid hb
  clear hb CR1
  cases rb with
  | none =>
    have HE := Lib.hid (end_arg (HNONE.out (.inr rfl)))
    clear HNONE HSOME HX HY
    go_wp2_with fail
    refine (CR2.out _).mono ?_
    rintro _ w3 ⟨rfl, hb⟩
    have HB3 := Lib.hid (HB1.out.trans (hb.mono HB1.out.size))
    clear hb CR2
    go_wp2
    go_ret2
    exact ⟨HE.out, HB3.out⟩
  | some zy =>
  go_wp2_with fail
  refine (CR2.out _).mono ?_
  rintro _ w3 ⟨rfl, hb⟩
  have HB3 := Lib.hid (HB1.out.trans (hb.mono HB1.out.size))
  clear hb CR2 HB1
  obtain ⟨rfl, a, hxa, hxs, hza⟩ := amt_open HX.out
  obtain ⟨rfl, b, hyb, hys, hzb⟩ := amt_open HY.out
  obtain ⟨ZZ, hZZ⟩ : ∃ ZZ, ZZ = (fun x y : Int => x * y) zx zy := ⟨_, rfl⟩
  have HRES : Hid (res = resZ ZZ) := Lib.hid (by rw [hZZ]; exact HSOME.out zx zy rfl rfl)
  have HZ : Hid (ZZ = (fun x y : Int => x * y) (sgnI m a) (sgnI o b)) := Lib.hid (by rw [hZZ, hza, hzb])
  obtain ⟨U, hU⟩ : ∃ U : ByteArray, U = ⟨(Lib.itoa ZZ).toArray⟩ := ⟨_, rfl⟩
  have HU := Lib.hid hU
  have hpa := pw_nd hxa hxs
  have hpb := pw_nd hyb hys
  have hpw := pw_two hpa hpb
  have hpw2 := pw_two hpb hpa
  clear hza hzb hZZ hU HNONE HSOME HX HY hpa hpb
  cases m with
  | false =>
    cases o with
    | false =>
      have hdd : a * b < Ten.pw 320 := hpw.2.1
      have hZZ : (if false then -((a * b : Nat) : Int) else ((a * b : Nat) : Int)) = ZZ := by rw [HZ.out]; exact sgnI_mul false false a b
      obtain ⟨D, hDD⟩ : ∃ D : ByteArray, D = ⟨(Lib.decDigits (a * b)).toArray⟩ := ⟨_, rfl⟩
      have hD : D.data.toList = Lib.decDigits (a * b) := by rw [hDD]
      have CD := Lib.hid (fun W => refTimes_any x y a b hxa hyb (by omega) (by omega) W)
      rw [← hDD] at CD
      clear hDD
      have CS := Lib.hid (fun W => signed_to (D := D) (U := U) hD hZZ HU.out hdd W)
      have CZ := Lib.hid (fun W => right_to (U := U) hZZ HU.out hdd W)
      clear hD hZZ hdd
      clear hpw hpw2 hxa hyb
      go_wp2_with fail
      refine (CD.out _).mono ?_
      rintro _ w4 ⟨rfl, hb⟩
      have HB4 := Lib.hid (HB3.out.trans (hb.mono HB3.out.size))
      clear hb CD
      go_wp2_with fail
      refine (CS.out _).mono ?_
      rintro _ _ ⟨rfl, rfl⟩
      clear CS
      go_wp2_with fail
      refine (CZ.out _).mono ?_
      rintro _ w5 ⟨rfl, hb⟩
      have HB5 := Lib.hid (HB4.out.trans (hb.mono HB4.out.size))
      clear hb CZ
      by_cases hl : ZZ.natAbs < limN
      · have HE := Lib.hid (end_ok HRES.out HU.out hl)
        rw [decide_eq_true hl]
        clear hl
        go_wp2
        go_ret2
        exact ⟨HE.out, HB5.out⟩
      · have HE := Lib.hid (end_big HRES.out hl)
        rw [decide_eq_false hl]
        clear hl
        go_wp2
        go_ret2
        exact ⟨HE.out, HB5.out⟩
    | true =>
      have hdd : a * b < Ten.pw 320 := hpw.2.1
      have hZZ : (if true then -((a * b : Nat) : Int) else ((a * b : Nat) : Int)) = ZZ := by rw [HZ.out]; exact sgnI_mul false true a b
      obtain ⟨D, hDD⟩ : ∃ D : ByteArray, D = ⟨(Lib.decDigits (a * b)).toArray⟩ := ⟨_, rfl⟩
      have hD : D.data.toList = Lib.decDigits (a * b) := by rw [hDD]
      have CD := Lib.hid (fun W => refTimes_any x y a b hxa hyb (by omega) (by omega) W)
      rw [← hDD] at CD
      clear hDD
      have CS := Lib.hid (fun W => signed_to (D := D) (U := U) hD hZZ HU.out hdd W)
      have CZ := Lib.hid (fun W => right_to (U := U) hZZ HU.out hdd W)
      clear hD hZZ hdd
      clear hpw hpw2 hxa hyb
      go_wp2_with fail
      refine (CD.out _).mono ?_
      rintro _ w4 ⟨rfl, hb⟩
      have HB4 := Lib.hid (HB3.out.trans (hb.mono HB3.out.size))
      clear hb CD
      go_wp2_with fail
      refine (CS.out _).mono ?_
      rintro _ _ ⟨rfl, rfl⟩
      clear CS
      go_wp2_with fail
      refine (CZ.out _).mono ?_
      rintro _ w5 ⟨rfl, hb⟩
      have HB5 := Lib.hid (HB4.out.trans (hb.mono HB4.out.size))
      clear hb CZ
      by_cases hl : ZZ.natAbs < limN
      · have HE := Lib.hid (end_ok HRES.out HU.out hl)
        rw [decide_eq_true hl]
        clear hl
        go_wp2
        go_ret2
        exact ⟨HE.out, HB5.out⟩
      · have HE := Lib.hid (end_big HRES.out hl)
        rw [decide_eq_false hl]
        clear hl
        go_wp2
        go_ret2
        exact ⟨HE.out, HB5.out⟩
  | true =>
    cases o with
    | false =>
      have hdd : a * b < Ten.pw 320 := hpw.2.1
      have hZZ : (if true then -((a * b : Nat) : Int) else ((a * b : Nat) : Int)) = ZZ := by rw [HZ.out]; exact sgnI_mul true false a b
      obtain ⟨D, hDD⟩ : ∃ D : ByteArray, D = ⟨(Lib.decDigits (a * b)).toArray⟩ := ⟨_, rfl⟩
      have hD : D.data.toList = Lib.decDigits (a * b) := by rw [hDD]
      have CD := Lib.hid (fun W => refTimes_any x y a b hxa hyb (by omega) (by omega) W)
      rw [← hDD] at CD
      clear hDD
      have CS := Lib.hid (fun W => signed_to (D := D) (U := U) hD hZZ HU.out hdd W)
      have CZ := Lib.hid (fun W => right_to (U := U) hZZ HU.out hdd W)
      clear hD hZZ hdd
      clear hpw hpw2 hxa hyb
      go_wp2_with fail
      refine (CD.out _).mono ?_
      rintro _ w4 ⟨rfl, hb⟩
      have HB4 := Lib.hid (HB3.out.trans (hb.mono HB3.out.size))
      clear hb CD
      go_wp2_with fail
      refine (CS.out _).mono ?_
      rintro _ _ ⟨rfl, rfl⟩
      clear CS
      go_wp2_with fail
      refine (CZ.out _).mono ?_
      rintro _ w5 ⟨rfl, hb⟩
      have HB5 := Lib.hid (HB4.out.trans (hb.mono HB4.out.size))
      clear hb CZ
      by_cases hl : ZZ.natAbs < limN
      · have HE := Lib.hid (end_ok HRES.out HU.out hl)
        rw [decide_eq_true hl]
        clear hl
        go_wp2
        go_ret2
        exact ⟨HE.out, HB5.out⟩
      · have HE := Lib.hid (end_big HRES.out hl)
        rw [decide_eq_false hl]
        clear hl
        go_wp2
        go_ret2
        exact ⟨HE.out, HB5.out⟩
    | true =>
      have hdd : a * b < Ten.pw 320 := hpw.2.1
      have hZZ : (if false then -((a * b : Nat) : Int) else ((a * b : Nat) : Int)) = ZZ := by rw [HZ.out]; exact sgnI_mul true true a b
      obtain ⟨D, hDD⟩ : ∃ D : ByteArray, D = ⟨(Lib.decDigits (a * b)).toArray⟩ := ⟨_, rfl⟩
      have hD : D.data.toList = Lib.decDigits (a * b) := by rw [hDD]
      have CD := Lib.hid (fun W => refTimes_any x y a b hxa hyb (by omega) (by omega) W)
      rw [← hDD] at CD
      clear hDD
      have CS := Lib.hid (fun W => signed_to (D := D) (U := U) hD hZZ HU.out hdd W)
      have CZ := Lib.hid (fun W => right_to (U := U) hZZ HU.out hdd W)
      clear hD hZZ hdd
      clear hpw hpw2 hxa hyb
      go_wp2_with fail
      refine (CD.out _).mono ?_
      rintro _ w4 ⟨rfl, hb⟩
      have HB4 := Lib.hid (HB3.out.trans (hb.mono HB3.out.size))
      clear hb CD
      go_wp2_with fail
      refine (CS.out _).mono ?_
      rintro _ _ ⟨rfl, rfl⟩
      clear CS
      go_wp2_with fail
      refine (CZ.out _).mono ?_
      rintro _ w5 ⟨rfl, hb⟩
      have HB5 := Lib.hid (HB4.out.trans (hb.mono HB4.out.size))
      clear hb CZ
      by_cases hl : ZZ.natAbs < limN
      · have HE := Lib.hid (end_ok HRES.out HU.out hl)
        rw [decide_eq_true hl]
        clear hl
        go_wp2
        go_ret2
        exact ⟨HE.out, HB5.out⟩
      · have HE := Lib.hid (end_big HRES.out hl)
        rw [decide_eq_false hl]
        clear hl
        go_wp2
        go_ret2
        exact ⟨HE.out, HB5.out⟩

set_option maxHeartbeats 8000000 in
set_option maxRecDepth 100000 in
theorem refDoQuo_any (s t : ByteArray) (h1 : s.size ≤ 200) (h2 : t.size ≤ 200) (w : World) :
    Calls Tryd.prog 37 #[.string ⟨#[47]⟩, .string s, .string t] w (ReckEnds w (diviP (fun x y : Int => x.tdiv y) s.data.toList t.data.toList)) := by
  have CA1 := Lib.hid (refAmount_any s (by omega) w)
  have CA2 := Lib.hid (fun W => refAmount_any t (by omega) W)
  have CR1 := Lib.hid (fun W => refRight_any s (by omega) W)
  have CR2 := Lib.hid (fun W => refRight_any t (by omega) W)
  have hnone := fun h => divi_none (op := (fun x y : Int => x.tdiv y)) (a := s.data.toList) (b := t.data.toList) h
  have hsome := fun x y hx hy => divi_some (op := (fun x y : Int => x.tdiv y)) (a := s.data.toList) (b := t.data.toList) (x := x) (y := y) hx hy
  have hnought := fun h => divi_nought (op := (fun x y : Int => x.tdiv y)) (a := s.data.toList) (b := t.data.toList) h
  generalize diviP (fun x y : Int => x.tdiv y) s.data.toList t.data.toList = res at *
  generalize readZ s.data.toList = ra at *
  generalize readZ t.data.toList = rb at *
  have HNONE := Lib.hid hnone
  have HSOME := Lib.hid hsome
  have HNOUGHT := Lib.hid hnought
  clear hnought
  clear hnone hsome
  go_enter Tryd.func37, Tryd.ntmps37
  go_wp2_with fail
  refine CA1.out.mono ?_
  rintro _ _ ⟨⟨x, m, ok, rfl, hx⟩, rfl⟩
  have HX := Lib.hid hx
  clear hx CA1
  go_wp2_with fail
  refine (CA2.out _).mono ?_
  rintro _ _ ⟨⟨y, o, ok2, rfl, hy⟩, rfl⟩
  have HY := Lib.hid hy
  clear hy CA2
  cases ra with
  | none =>
    have HE := Lib.hid (end_arg (HNONE.out (.inl rfl)))
    clear HNONE HSOME HX HY
    go_wp2_with fail
    refine (CR1.out _).mono ?_
    rintro _ w1 ⟨rfl, hb⟩
    have HB1 := Lib.hid hb
    clear hb CR1
    go_wp2
    go_ret2
    exact ⟨HE.out, HB1.out⟩
  | some zx =>
  go_wp2_with fail
  refine (CR1.out _).mono ?_
  rintro _ w1 ⟨rfl, hb⟩
  have HB1 := Lib.hid hb
  clear hb CR1
  cases rb with
  | none =>
    have HE := Lib.hid (end_arg (HNONE.out (.inr rfl)))
    clear HNONE HSOME HX HY
    go_wp2_with fail
    refine (CR2.out _).mono ?_
    rintro _ w3 ⟨rfl, hb⟩
    have HB3 := Lib.hid (HB1.out.trans (hb.mono HB1.out.size))
    clear hb CR2
    go_wp2
    go_ret2
    exact ⟨HE.out, HB3.out⟩
  | some zy =>
  go_wp2_with fail
  refine (CR2.out _).mono ?_
  rintro _ w3 ⟨rfl, hb⟩
  have HB3 := Lib.hid (HB1.out.trans (hb.mono HB1.out.size))
  clear hb CR2 HB1
  obtain ⟨rfl, a, hxa, hxs, hza⟩ := amt_open HX.out
  obtain ⟨rfl, b, hyb, hys, hzb⟩ := amt_open HY.out
  by_cases hb0 : b = 0
  · have HE := Lib.hid (end_arg (HNOUGHT.out (by rw [hzb, hb0]; cases o <;> rfl)))
    have g : (y.toList == [48]) = true := by rw [nought_list y b hyb, decide_eq_true hb0]
    clear HNONE HSOME HX HY HNOUGHT hza hzb hb0 hxa hyb
    go_wp2
    go_ret2
    exact ⟨HE.out, HB3.out⟩
  have g : (y.toList == [48]) = false := by rw [nought_list y b hyb, decide_eq_false hb0]
  have hzy : zy ≠ 0 := fun h => hb0 (by
    rw [h] at hzb
    cases o
    · exact (Int.ofNat.inj hzb).symm
    · have : (0 : Int) = -(b : Int) := hzb
      omega)
  obtain ⟨ZZ, hZZ⟩ : ∃ ZZ, ZZ = (fun x y : Int => x.tdiv y) zx zy := ⟨_, rfl⟩
  have HRES : Hid (res = resZ ZZ) := Lib.hid (by rw [hZZ]; exact HSOME.out zx zy rfl rfl hzy)
  clear hzy
  have HZ : Hid (ZZ = (fun x y : Int => x.tdiv y) (sgnI m a) (sgnI o b)) := Lib.hid (by rw [hZZ, hza, hzb])
  obtain ⟨U, hU⟩ : ∃ U : ByteArray, U = ⟨(Lib.itoa ZZ).toArray⟩ := ⟨_, rfl⟩
  have HU := Lib.hid hU
  have hpa := pw_nd hxa hxs
  have hpb := pw_nd hyb hys
  have hpw := pw_two hpa hpb
  have hpw2 := pw_two hpb hpa
  clear hza hzb hZZ hU HNONE HSOME HX HY hpa hpb
  clear HNOUGHT
  cases m with
  | false =>
    cases o with
    | false =>
      have hdd : a / b < Ten.pw 320 := hpw.2.2 _ (Nat.div_le_self _ _)
      have hZZ : (if false then -((a / b : Nat) : Int) else ((a / b : Nat) : Int)) = ZZ := by rw [HZ.out]; exact sgnI_quo false false a b
      obtain ⟨D, hDD⟩ : ∃ D : ByteArray, D = ⟨(Lib.decDigits (a / b)).toArray⟩ := ⟨_, rfl⟩
      have hD : D.data.toList = Lib.decDigits (a / b) := by rw [hDD]
      obtain ⟨D2, hD2⟩ : ∃ D : ByteArray, D = ⟨(Lib.decDigits (a % b)).toArray⟩ := ⟨_, rfl⟩
      have CD := Lib.hid (fun W => refDivide_any x y a b hxa hyb hb0 (by omega) (by omega) W)
      rw [← hDD, ← hD2] at CD
      clear hDD hD2
      have CS := Lib.hid (fun W => signed_to (D := D) (U := U) hD hZZ HU.out hdd W)
      have CZ := Lib.hid (fun W => right_to (U := U) hZZ HU.out hdd W)
      clear hD hZZ hdd
      clear hpw hpw2 hxa hyb hb0
      go_wp2_with fail
      refine (CD.out _).mono ?_
      rintro _ w4 ⟨rfl, hb⟩
      have HB4 := Lib.hid (HB3.out.trans (hb.mono HB3.out.size))
      clear hb CD
      go_wp2_with fail
      refine (CS.out _).mono ?_
      rintro _ _ ⟨rfl, rfl⟩
      clear CS
      go_wp2_with fail
      refine (CZ.out _).mono ?_
      rintro _ w5 ⟨rfl, hb⟩
      have HB5 := Lib.hid (HB4.out.trans (hb.mono HB4.out.size))
      clear hb CZ
      by_cases hl : ZZ.natAbs < limN
      · have HE := Lib.hid (end_ok HRES.out HU.out hl)
        rw [decide_eq_true hl]
        clear hl
        go_wp2
        go_ret2
        exact ⟨HE.out, HB5.out⟩
      · have HE := Lib.hid (end_big HRES.out hl)
        rw [decide_eq_false hl]
        clear hl
        go_wp2
        go_ret2
        exact ⟨HE.out, HB5.out⟩
    | true =>
      have hdd : a / b < Ten.pw 320 := hpw.2.2 _ (Nat.div_le_self _ _)
      have hZZ : (if true then -((a / b : Nat) : Int) else ((a / b : Nat) : Int)) = ZZ := by rw [HZ.out]; exact sgnI_quo false true a b
      obtain ⟨D, hDD⟩ : ∃ D : ByteArray, D = ⟨(Lib.decDigits (a / b)).toArray⟩ := ⟨_, rfl⟩
      have hD : D.data.toList = Lib.decDigits (a / b) := by rw [hDD]
      obtain ⟨D2, hD2⟩ : ∃ D : ByteArray, D = ⟨(Lib.decDigits (a % b)).toArray⟩ := ⟨_, rfl⟩
      have CD := Lib.hid (fun W => refDivide_any x y a b hxa hyb hb0 (by omega) (by omega) W)
      rw [← hDD, ← hD2] at CD
      clear hDD hD2
      have CS := Lib.hid (fun W => signed_to (D := D) (U := U) hD hZZ HU.out hdd W)
      have CZ := Lib.hid (fun W => right_to (U := U) hZZ HU.out hdd W)
      clear hD hZZ hdd
      clear hpw hpw2 hxa hyb hb0
      go_wp2_with fail
      refine (CD.out _).mono ?_
      rintro _ w4 ⟨rfl, hb⟩
      have HB4 := Lib.hid (HB3.out.trans (hb.mono HB3.out.size))
      clear hb CD
      go_wp2_with fail
      refine (CS.out _).mono ?_
      rintro _ _ ⟨rfl, rfl⟩
      clear CS
      go_wp2_with fail
      refine (CZ.out _).mono ?_
      rintro _ w5 ⟨rfl, hb⟩
      have HB5 := Lib.hid (HB4.out.trans (hb.mono HB4.out.size))
      clear hb CZ
      by_cases hl : ZZ.natAbs < limN
      · have HE := Lib.hid (end_ok HRES.out HU.out hl)
        rw [decide_eq_true hl]
        clear hl
        go_wp2
        go_ret2
        exact ⟨HE.out, HB5.out⟩
      · have HE := Lib.hid (end_big HRES.out hl)
        rw [decide_eq_false hl]
        clear hl
        go_wp2
        go_ret2
        exact ⟨HE.out, HB5.out⟩
  | true =>
    cases o with
    | false =>
      have hdd : a / b < Ten.pw 320 := hpw.2.2 _ (Nat.div_le_self _ _)
      have hZZ : (if true then -((a / b : Nat) : Int) else ((a / b : Nat) : Int)) = ZZ := by rw [HZ.out]; exact sgnI_quo true false a b
      obtain ⟨D, hDD⟩ : ∃ D : ByteArray, D = ⟨(Lib.decDigits (a / b)).toArray⟩ := ⟨_, rfl⟩
      have hD : D.data.toList = Lib.decDigits (a / b) := by rw [hDD]
      obtain ⟨D2, hD2⟩ : ∃ D : ByteArray, D = ⟨(Lib.decDigits (a % b)).toArray⟩ := ⟨_, rfl⟩
      have CD := Lib.hid (fun W => refDivide_any x y a b hxa hyb hb0 (by omega) (by omega) W)
      rw [← hDD, ← hD2] at CD
      clear hDD hD2
      have CS := Lib.hid (fun W => signed_to (D := D) (U := U) hD hZZ HU.out hdd W)
      have CZ := Lib.hid (fun W => right_to (U := U) hZZ HU.out hdd W)
      clear hD hZZ hdd
      clear hpw hpw2 hxa hyb hb0
      go_wp2_with fail
      refine (CD.out _).mono ?_
      rintro _ w4 ⟨rfl, hb⟩
      have HB4 := Lib.hid (HB3.out.trans (hb.mono HB3.out.size))
      clear hb CD
      go_wp2_with fail
      refine (CS.out _).mono ?_
      rintro _ _ ⟨rfl, rfl⟩
      clear CS
      go_wp2_with fail
      refine (CZ.out _).mono ?_
      rintro _ w5 ⟨rfl, hb⟩
      have HB5 := Lib.hid (HB4.out.trans (hb.mono HB4.out.size))
      clear hb CZ
      by_cases hl : ZZ.natAbs < limN
      · have HE := Lib.hid (end_ok HRES.out HU.out hl)
        rw [decide_eq_true hl]
        clear hl
        go_wp2
        go_ret2
        exact ⟨HE.out, HB5.out⟩
      · have HE := Lib.hid (end_big HRES.out hl)
        rw [decide_eq_false hl]
        clear hl
        go_wp2
        go_ret2
        exact ⟨HE.out, HB5.out⟩
    | true =>
      have hdd : a / b < Ten.pw 320 := hpw.2.2 _ (Nat.div_le_self _ _)
      have hZZ : (if false then -((a / b : Nat) : Int) else ((a / b : Nat) : Int)) = ZZ := by rw [HZ.out]; exact sgnI_quo true true a b
      obtain ⟨D, hDD⟩ : ∃ D : ByteArray, D = ⟨(Lib.decDigits (a / b)).toArray⟩ := ⟨_, rfl⟩
      have hD : D.data.toList = Lib.decDigits (a / b) := by rw [hDD]
      obtain ⟨D2, hD2⟩ : ∃ D : ByteArray, D = ⟨(Lib.decDigits (a % b)).toArray⟩ := ⟨_, rfl⟩
      have CD := Lib.hid (fun W => refDivide_any x y a b hxa hyb hb0 (by omega) (by omega) W)
      rw [← hDD, ← hD2] at CD
      clear hDD hD2
      have CS := Lib.hid (fun W => signed_to (D := D) (U := U) hD hZZ HU.out hdd W)
      have CZ := Lib.hid (fun W => right_to (U := U) hZZ HU.out hdd W)
      clear hD hZZ hdd
      clear hpw hpw2 hxa hyb hb0
      go_wp2_with fail
      refine (CD.out _).mono ?_
      rintro _ w4 ⟨rfl, hb⟩
      have HB4 := Lib.hid (HB3.out.trans (hb.mono HB3.out.size))
      clear hb CD
      go_wp2_with fail
      refine (CS.out _).mono ?_
      rintro _ _ ⟨rfl, rfl⟩
      clear CS
      go_wp2_with fail
      refine (CZ.out _).mono ?_
      rintro _ w5 ⟨rfl, hb⟩
      have HB5 := Lib.hid (HB4.out.trans (hb.mono HB4.out.size))
      clear hb CZ
      by_cases hl : ZZ.natAbs < limN
      · have HE := Lib.hid (end_ok HRES.out HU.out hl)
        rw [decide_eq_true hl]
        clear hl
        go_wp2
        go_ret2
        exact ⟨HE.out, HB5.out⟩
      · have HE := Lib.hid (end_big HRES.out hl)
        rw [decide_eq_false hl]
        clear hl
        go_wp2
        go_ret2
        exact ⟨HE.out, HB5.out⟩

set_option maxHeartbeats 8000000 in
set_option maxRecDepth 100000 in
theorem refDoRst_any (s t : ByteArray) (h1 : s.size ≤ 200) (h2 : t.size ≤ 200) (w : World) :
    Calls Tryd.prog 37 #[.string ⟨#[37]⟩, .string s, .string t] w (ReckEnds w (diviP (fun x y : Int => x.tmod y) s.data.toList t.data.toList)) := by
  have CA1 := Lib.hid (refAmount_any s (by omega) w)
  have CA2 := Lib.hid (fun W => refAmount_any t (by omega) W)
  have CR1 := Lib.hid (fun W => refRight_any s (by omega) W)
  have CR2 := Lib.hid (fun W => refRight_any t (by omega) W)
  have hnone := fun h => divi_none (op := (fun x y : Int => x.tmod y)) (a := s.data.toList) (b := t.data.toList) h
  have hsome := fun x y hx hy => divi_some (op := (fun x y : Int => x.tmod y)) (a := s.data.toList) (b := t.data.toList) (x := x) (y := y) hx hy
  have hnought := fun h => divi_nought (op := (fun x y : Int => x.tmod y)) (a := s.data.toList) (b := t.data.toList) h
  generalize diviP (fun x y : Int => x.tmod y) s.data.toList t.data.toList = res at *
  generalize readZ s.data.toList = ra at *
  generalize readZ t.data.toList = rb at *
  have HNONE := Lib.hid hnone
  have HSOME := Lib.hid hsome
  have HNOUGHT := Lib.hid hnought
  clear hnought
  clear hnone hsome
  go_enter Tryd.func37, Tryd.ntmps37
  go_wp2_with fail
  refine CA1.out.mono ?_
  rintro _ _ ⟨⟨x, m, ok, rfl, hx⟩, rfl⟩
  have HX := Lib.hid hx
  clear hx CA1
  go_wp2_with fail
  refine (CA2.out _).mono ?_
  rintro _ _ ⟨⟨y, o, ok2, rfl, hy⟩, rfl⟩
  have HY := Lib.hid hy
  clear hy CA2
  cases ra with
  | none =>
    have HE := Lib.hid (end_arg (HNONE.out (.inl rfl)))
    clear HNONE HSOME HX HY
    go_wp2_with fail
    refine (CR1.out _).mono ?_
    rintro _ w1 ⟨rfl, hb⟩
    have HB1 := Lib.hid hb
    clear hb CR1
    go_wp2
    go_ret2
    exact ⟨HE.out, HB1.out⟩
  | some zx =>
  go_wp2_with fail
  refine (CR1.out _).mono ?_
  rintro _ w1 ⟨rfl, hb⟩
  have HB1 := Lib.hid hb
  clear hb CR1
  cases rb with
  | none =>
    have HE := Lib.hid (end_arg (HNONE.out (.inr rfl)))
    clear HNONE HSOME HX HY
    go_wp2_with fail
    refine (CR2.out _).mono ?_
    rintro _ w3 ⟨rfl, hb⟩
    have HB3 := Lib.hid (HB1.out.trans (hb.mono HB1.out.size))
    clear hb CR2
    go_wp2
    go_ret2
    exact ⟨HE.out, HB3.out⟩
  | some zy =>
  go_wp2_with fail
  refine (CR2.out _).mono ?_
  rintro _ w3 ⟨rfl, hb⟩
  have HB3 := Lib.hid (HB1.out.trans (hb.mono HB1.out.size))
  clear hb CR2 HB1
  obtain ⟨rfl, a, hxa, hxs, hza⟩ := amt_open HX.out
  obtain ⟨rfl, b, hyb, hys, hzb⟩ := amt_open HY.out
  by_cases hb0 : b = 0
  · have HE := Lib.hid (end_arg (HNOUGHT.out (by rw [hzb, hb0]; cases o <;> rfl)))
    have g : (y.toList == [48]) = true := by rw [nought_list y b hyb, decide_eq_true hb0]
    clear HNONE HSOME HX HY HNOUGHT hza hzb hb0 hxa hyb
    go_wp2
    go_ret2
    exact ⟨HE.out, HB3.out⟩
  have g : (y.toList == [48]) = false := by rw [nought_list y b hyb, decide_eq_false hb0]
  have hzy : zy ≠ 0 := fun h => hb0 (by
    rw [h] at hzb
    cases o
    · exact (Int.ofNat.inj hzb).symm
    · have : (0 : Int) = -(b : Int) := hzb
      omega)
  obtain ⟨ZZ, hZZ⟩ : ∃ ZZ, ZZ = (fun x y : Int => x.tmod y) zx zy := ⟨_, rfl⟩
  have HRES : Hid (res = resZ ZZ) := Lib.hid (by rw [hZZ]; exact HSOME.out zx zy rfl rfl hzy)
  clear hzy
  have HZ : Hid (ZZ = (fun x y : Int => x.tmod y) (sgnI m a) (sgnI o b)) := Lib.hid (by rw [hZZ, hza, hzb])
  obtain ⟨U, hU⟩ : ∃ U : ByteArray, U = ⟨(Lib.itoa ZZ).toArray⟩ := ⟨_, rfl⟩
  have HU := Lib.hid hU
  have hpa := pw_nd hxa hxs
  have hpb := pw_nd hyb hys
  have hpw := pw_two hpa hpb
  have hpw2 := pw_two hpb hpa
  clear hza hzb hZZ hU HNONE HSOME HX HY hpa hpb
  clear HNOUGHT
  cases m with
  | false =>
    cases o with
    | false =>
      have hdd : a % b < Ten.pw 320 := hpw.2.2 _ (Nat.mod_le _ _)
      have hZZ : (if false then -((a % b : Nat) : Int) else ((a % b : Nat) : Int)) = ZZ := by rw [HZ.out]; exact sgnI_rest false false a b
      obtain ⟨D, hDD⟩ : ∃ D : ByteArray, D = ⟨(Lib.decDigits (a % b)).toArray⟩ := ⟨_, rfl⟩
      have hD : D.data.toList = Lib.decDigits (a % b) := by rw [hDD]
      obtain ⟨D2, hD2⟩ : ∃ D : ByteArray, D = ⟨(Lib.decDigits (a / b)).toArray⟩ := ⟨_, rfl⟩
      have CD := Lib.hid (fun W => refDivide_any x y a b hxa hyb hb0 (by omega) (by omega) W)
      rw [← hDD, ← hD2] at CD
      clear hDD hD2
      have CS := Lib.hid (fun W => signed_to (D := D) (U := U) hD hZZ HU.out hdd W)
      have CZ := Lib.hid (fun W => right_to (U := U) hZZ HU.out hdd W)
      clear hD hZZ hdd
      clear hpw hpw2 hxa hyb hb0
      go_wp2_with fail
      refine (CD.out _).mono ?_
      rintro _ w4 ⟨rfl, hb⟩
      have HB4 := Lib.hid (HB3.out.trans (hb.mono HB3.out.size))
      clear hb CD
      go_wp2_with fail
      refine (CS.out _).mono ?_
      rintro _ _ ⟨rfl, rfl⟩
      clear CS
      go_wp2_with fail
      refine (CZ.out _).mono ?_
      rintro _ w5 ⟨rfl, hb⟩
      have HB5 := Lib.hid (HB4.out.trans (hb.mono HB4.out.size))
      clear hb CZ
      by_cases hl : ZZ.natAbs < limN
      · have HE := Lib.hid (end_ok HRES.out HU.out hl)
        rw [decide_eq_true hl]
        clear hl
        go_wp2
        go_ret2
        exact ⟨HE.out, HB5.out⟩
      · have HE := Lib.hid (end_big HRES.out hl)
        rw [decide_eq_false hl]
        clear hl
        go_wp2
        go_ret2
        exact ⟨HE.out, HB5.out⟩
    | true =>
      have hdd : a % b < Ten.pw 320 := hpw.2.2 _ (Nat.mod_le _ _)
      have hZZ : (if false then -((a % b : Nat) : Int) else ((a % b : Nat) : Int)) = ZZ := by rw [HZ.out]; exact sgnI_rest false true a b
      obtain ⟨D, hDD⟩ : ∃ D : ByteArray, D = ⟨(Lib.decDigits (a % b)).toArray⟩ := ⟨_, rfl⟩
      have hD : D.data.toList = Lib.decDigits (a % b) := by rw [hDD]
      obtain ⟨D2, hD2⟩ : ∃ D : ByteArray, D = ⟨(Lib.decDigits (a / b)).toArray⟩ := ⟨_, rfl⟩
      have CD := Lib.hid (fun W => refDivide_any x y a b hxa hyb hb0 (by omega) (by omega) W)
      rw [← hDD, ← hD2] at CD
      clear hDD hD2
      have CS := Lib.hid (fun W => signed_to (D := D) (U := U) hD hZZ HU.out hdd W)
      have CZ := Lib.hid (fun W => right_to (U := U) hZZ HU.out hdd W)
      clear hD hZZ hdd
      clear hpw hpw2 hxa hyb hb0
      go_wp2_with fail
      refine (CD.out _).mono ?_
      rintro _ w4 ⟨rfl, hb⟩
      have HB4 := Lib.hid (HB3.out.trans (hb.mono HB3.out.size))
      clear hb CD
      go_wp2_with fail
      refine (CS.out _).mono ?_
      rintro _ _ ⟨rfl, rfl⟩
      clear CS
      go_wp2_with fail
      refine (CZ.out _).mono ?_
      rintro _ w5 ⟨rfl, hb⟩
      have HB5 := Lib.hid (HB4.out.trans (hb.mono HB4.out.size))
      clear hb CZ
      by_cases hl : ZZ.natAbs < limN
      · have HE := Lib.hid (end_ok HRES.out HU.out hl)
        rw [decide_eq_true hl]
        clear hl
        go_wp2
        go_ret2
        exact ⟨HE.out, HB5.out⟩
      · have HE := Lib.hid (end_big HRES.out hl)
        rw [decide_eq_false hl]
        clear hl
        go_wp2
        go_ret2
        exact ⟨HE.out, HB5.out⟩
  | true =>
    cases o with
    | false =>
      have hdd : a % b < Ten.pw 320 := hpw.2.2 _ (Nat.mod_le _ _)
      have hZZ : (if true then -((a % b : Nat) : Int) else ((a % b : Nat) : Int)) = ZZ := by rw [HZ.out]; exact sgnI_rest true false a b
      obtain ⟨D, hDD⟩ : ∃ D : ByteArray, D = ⟨(Lib.decDigits (a % b)).toArray⟩ := ⟨_, rfl⟩
      have hD : D.data.toList = Lib.decDigits (a % b) := by rw [hDD]
      obtain ⟨D2, hD2⟩ : ∃ D : ByteArray, D = ⟨(Lib.decDigits (a / b)).toArray⟩ := ⟨_, rfl⟩
      have CD := Lib.hid (fun W => refDivide_any x y a b hxa hyb hb0 (by omega) (by omega) W)
      rw [← hDD, ← hD2] at CD
      clear hDD hD2
      have CS := Lib.hid (fun W => signed_to (D := D) (U := U) hD hZZ HU.out hdd W)
      have CZ := Lib.hid (fun W => right_to (U := U) hZZ HU.out hdd W)
      clear hD hZZ hdd
      clear hpw hpw2 hxa hyb hb0
      go_wp2_with fail
      refine (CD.out _).mono ?_
      rintro _ w4 ⟨rfl, hb⟩
      have HB4 := Lib.hid (HB3.out.trans (hb.mono HB3.out.size))
      clear hb CD
      go_wp2_with fail
      refine (CS.out _).mono ?_
      rintro _ _ ⟨rfl, rfl⟩
      clear CS
      go_wp2_with fail
      refine (CZ.out _).mono ?_
      rintro _ w5 ⟨rfl, hb⟩
      have HB5 := Lib.hid (HB4.out.trans (hb.mono HB4.out.size))
      clear hb CZ
      by_cases hl : ZZ.natAbs < limN
      · have HE := Lib.hid (end_ok HRES.out HU.out hl)
        rw [decide_eq_true hl]
        clear hl
        go_wp2
        go_ret2
        exact ⟨HE.out, HB5.out⟩
      · have HE := Lib.hid (end_big HRES.out hl)
        rw [decide_eq_false hl]
        clear hl
        go_wp2
        go_ret2
        exact ⟨HE.out, HB5.out⟩
    | true =>
      have hdd : a % b < Ten.pw 320 := hpw.2.2 _ (Nat.mod_le _ _)
      have hZZ : (if true then -((a % b : Nat) : Int) else ((a % b : Nat) : Int)) = ZZ := by rw [HZ.out]; exact sgnI_rest true true a b
      obtain ⟨D, hDD⟩ : ∃ D : ByteArray, D = ⟨(Lib.decDigits (a % b)).toArray⟩ := ⟨_, rfl⟩
      have hD : D.data.toList = Lib.decDigits (a % b) := by rw [hDD]
      obtain ⟨D2, hD2⟩ : ∃ D : ByteArray, D = ⟨(Lib.decDigits (a / b)).toArray⟩ := ⟨_, rfl⟩
      have CD := Lib.hid (fun W => refDivide_any x y a b hxa hyb hb0 (by omega) (by omega) W)
      rw [← hDD, ← hD2] at CD
      clear hDD hD2
      have CS := Lib.hid (fun W => signed_to (D := D) (U := U) hD hZZ HU.out hdd W)
      have CZ := Lib.hid (fun W => right_to (U := U) hZZ HU.out hdd W)
      clear hD hZZ hdd
      clear hpw hpw2 hxa hyb hb0
      go_wp2_with fail
      refine (CD.out _).mono ?_
      rintro _ w4 ⟨rfl, hb⟩
      have HB4 := Lib.hid (HB3.out.trans (hb.mono HB3.out.size))
      clear hb CD
      go_wp2_with fail
      refine (CS.out _).mono ?_
      rintro _ _ ⟨rfl, rfl⟩
      clear CS
      go_wp2_with fail
      refine (CZ.out _).mono ?_
      rintro _ w5 ⟨rfl, hb⟩
      have HB5 := Lib.hid (HB4.out.trans (hb.mono HB4.out.size))
      clear hb CZ
      by_cases hl : ZZ.natAbs < limN
      · have HE := Lib.hid (end_ok HRES.out HU.out hl)
        rw [decide_eq_true hl]
        clear hl
        go_wp2
        go_ret2
        exact ⟨HE.out, HB5.out⟩
      · have HE := Lib.hid (end_big HRES.out hl)
        rw [decide_eq_false hl]
        clear hl
        go_wp2
        go_ret2
        exact ⟨HE.out, HB5.out⟩

end Go.Proofs.YtpdkebljacmgfaaDoor
