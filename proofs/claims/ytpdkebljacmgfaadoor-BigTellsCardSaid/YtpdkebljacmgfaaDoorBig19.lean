/- package big: two held against one another; what the chapter's example says. -/
import Derived.Test.YtpdkebljacmgfaaDoorBig18
namespace Go.Proofs.YtpdkebljacmgfaaDoor
open Go.RowKit
set_option linter.unusedVariables false

/-- How two texts stand to one another. -/
def cmpP (a b : List UInt8) : Int := match readZ a, readZ b with
  | some x, some y => ordI x y
  | _, _ => 0
theorem ord_below {x y : Int} (hx : x < 0) (hy : y < 0) : ordI (y.natAbs : Nat) (x.natAbs : Nat) = ordI x y := by
  rcases ordI_cases x y with ⟨h, e⟩ | ⟨h, e⟩ | ⟨h, e⟩
  · rw [e, ordI_lt (by omega)]
  · rw [e, ordI_gt (by omega)]
  · subst h; rw [ordI_eq, ordI_eq]
theorem ord_above {x y : Int} (hx : ¬ x < 0) (hy : ¬ y < 0) : ordI (x.natAbs : Nat) (y.natAbs : Nat) = ordI x y := by
  rw [show ((x.natAbs : Nat) : Int) = x by omega, show ((y.natAbs : Nat) : Int) = y by omega]

set_option maxHeartbeats 2000000 in
set_option maxRecDepth 100000 in
theorem Compare_any (s t : ByteArray) (w : World) : Calls Tryd.prog 23 #[.string s, .string t] w fun e w' => e = .returned (.int .i64 (cmpP s.data.toList t.data.toList)) ∧ Below w.heap.size w w' := by
  have R1 := fun W => read_any s W
  have R2 := fun W => read_any t W
  have HP : Hid (cmpP s.data.toList t.data.toList = match readZ s.data.toList, readZ t.data.toList with
    | some x, some y => ordI x y
    | _, _ => 0) := Lib.hid rfl
  have hl1 : ∀ x, readZ s.data.toList = some x → (dgs x.natAbs).length ≤ 100 := fun x hx => lim_digs (itoa_read hx).2
  have hl2 : ∀ x, readZ t.data.toList = some x → (dgs x.natAbs).length ≤ 100 := fun x hx => lim_digs (itoa_read hx).2
  generalize cmpP s.data.toList t.data.toList = res at *
  generalize readZ s.data.toList = ra at *
  generalize readZ t.data.toList = rb at *
  have HR1 := Lib.hid R1
  have HR2 := Lib.hid R2
  have HL1 := Lib.hid hl1
  have HL2 := Lib.hid hl2
  clear R1 R2 hl1 hl2
  go_enter Tryd.func23, Tryd.ntmps23
  go_wp2_with fail
  refine (HR1.out _).mono ?_
  intro e w1 he
  obtain ⟨ba, ao, na, ca, rfl, hb1, hn1⟩ := read_open he
  have HB1 := Lib.hid hb1
  have HN1 := Lib.hid hn1
  clear he hb1 hn1 HR1
  go_wp2_with fail
  refine (HR2.out _).mono ?_
  intro e w2 he
  obtain ⟨bb, bo, nb, cb, rfl, hb2, hn2⟩ := read_open he
  have hw8 : w2.heap[w1.heap.size]? = some (.cells #[.bool ba, .slice ao na ca] 44 (0, 0)) := (hb2.block _ (by simp)).trans (heap_alloc_new _ _)
  have HW8 := Lib.hid hw8
  have hal := (Below.refl w1.heap.size w1).alloc (Nat.le_refl _) (.cells #[.bool ba, .slice ao na ca] 44)
  have hb12 : Below w1.heap.size w1 w2 := hal.trans (hb2.mono (by simp))
  have HB2 := Lib.hid (HB1.out.trans (hb12.mono HB1.out.size))
  have HNA := Lib.hid (HN1.out.below hb12)
  have HNB := Lib.hid hn2
  have hlt8 : w1.heap.size < w2.heap.size := lt_of_block hw8
  clear he hb2 hn2 HR2 hw8 hal hb12 HN1 HB1
  cases hra : ra.isSome
  · have hres : Hid (0 = res) := Lib.hid (by
      rw [HP.out]
      cases ra with
      | none => rfl
      | some x => cases hra)
    clear hra
    go_wp2
    go_ret
    exact ⟨ret_int hres.out, HB2.out.alloc HB2.out.size _⟩
  cases hrb : rb.isSome
  · have hres : Hid (0 = res) := Lib.hid (by
      rw [HP.out]
      cases ra with
      | none => rfl
      | some x =>
        cases rb with
        | none => rfl
        | some y => cases hrb)
    clear hra hrb
    go_wp2
    go_ret
    exact ⟨ret_int hres.out, HB2.out.alloc HB2.out.size _⟩
  obtain ⟨x, rfl⟩ := Option.isSome_iff_exists.1 hra
  obtain ⟨y, rfl⟩ := Option.isSome_iff_exists.1 hrb
  clear hra hrb
  obtain ⟨hx1, gx, hx2, hx3⟩ := HNA.out x rfl
  obtain ⟨hy1, gy, hy2, hy3⟩ := HNB.out y rfl
  injection hx2 with hx2 hx4 hx5
  injection hy2 with hy2 hy4 hy5
  subst hx1 hx2 hx4 hx5 hy1 hy2 hy4 hy5
  have hlx := HL1.out x rfl
  have hly := HL2.out y rfl
  have hres : res = ordI x y := HP.out
  have hal2 := (Below.refl w2.heap.size w2).alloc (Nat.le_refl _) (.cells #[.bool (decide (y < 0)), .slice (some ⟨gy, 0, none⟩) (dgs y.natAbs).length (dgs y.natAbs).length] 44)
  have HB3 := Lib.hid (HB2.out.trans (hal2.mono HB2.out.size))
  have c8 := (two_cells ((hal2.block _ hlt8).trans HW8.out)).1
  have HRES := Lib.hid hres
  obtain ⟨c80, c81⟩ := c8
  have KXY := Lib.hid (compare_any x.natAbs y.natAbs _ _ (dgs x.natAbs).length (dgs y.natAbs).length _ (hx3.below hal2) (hy3.below hal2) (by omega) (by omega))
  have KYX := Lib.hid (compare_any y.natAbs x.natAbs _ _ (dgs y.natAbs).length (dgs x.natAbs).length _ (hy3.below hal2) (hx3.below hal2) (by omega) (by omega))
  by_cases hx0 : x < 0
  · rw [decide_eq_true hx0] at c80 ⊢
    by_cases hy0 : y < 0
    · rw [decide_eq_true hy0] at KYX KXY c80 c81 HB3 ⊢
      rw [ord_below hx0 hy0] at KYX
      rw [← hres] at KYX
      clear HNA HNB HP hx3 hy3 hal2 hres HB2 HL1 HL2 hlx hly KXY hx0 hy0 HW8
      generalize (dgs x.natAbs).length = nx at *
      generalize (dgs y.natAbs).length = ny at *
      go_wp2_with fail
      refine KYX.out.mono ?_
      rintro e w3 ⟨rfl, hb⟩
      have HB := Lib.hid (HB3.out.trans (hb.mono HB3.out.size))
      clear hb
      go_wp2
      go_ret
      exact ⟨rfl, HB.out⟩
    · rw [decide_eq_false hy0] at c80 c81 HB3 ⊢
      have HR : Hid (-1 = res) := Lib.hid (by rw [hres, ordI_lt (by omega)])
      clear HNA HNB HP hx3 hy3 hal2 hres HB2 HL1 HL2 hlx hly KXY KYX hx0 hy0 HW8
      generalize (dgs x.natAbs).length = nx at *
      generalize (dgs y.natAbs).length = ny at *
      go_wp2
      go_ret
      exact ⟨ret_int HR.out, HB3.out⟩
  · rw [decide_eq_false hx0] at c80 ⊢
    by_cases hy0 : y < 0
    · rw [decide_eq_true hy0] at c80 c81 HB3 ⊢
      have HR : Hid (1 = res) := Lib.hid (by rw [hres, ordI_gt (by omega)])
      clear HNA HNB HP hx3 hy3 hal2 hres HB2 HL1 HL2 hlx hly KXY KYX hx0 hy0 HW8
      generalize (dgs x.natAbs).length = nx at *
      generalize (dgs y.natAbs).length = ny at *
      go_wp2
      go_ret
      exact ⟨ret_int HR.out, HB3.out⟩
    · rw [decide_eq_false hy0] at KYX KXY c80 c81 HB3 ⊢
      rw [ord_above hx0 hy0] at KXY
      rw [← hres] at KXY
      clear HNA HNB HP hx3 hy3 hal2 hres HB2 HL1 HL2 hlx hly KYX hx0 hy0 HW8
      generalize (dgs x.natAbs).length = nx at *
      generalize (dgs y.natAbs).length = ny at *
      go_wp2_with fail
      refine KXY.out.mono ?_
      rintro e w3 ⟨rfl, hb⟩
      have HB := Lib.hid (HB3.out.trans (hb.mono HB3.out.size))
      clear hb
      go_wp2
      go_ret
      exact ⟨rfl, HB.out⟩

/-! ### The example -/
theorem ex_times : reckP (fun x y : Int => x * y) [45, 49, 50] [49, 50] = ([45, 49, 52, 52], 0) := by
  unfold reckP
  rw [show readZ [45, 49, 50] = some (-12) by decide +kernel, show readZ [49, 50] = some 12 by decide +kernel]
  show (if ((-12 : Int) * 12).natAbs < limN then (Lib.itoa (-12 * 12), (0 : Int)) else ([], 10)) = _
  rw [if_pos (by decide +kernel), show ((-12 : Int) * 12) = -144 by decide, ← (itoa_read (show readZ [45, 49, 52, 52] = some (-144) by decide +kernel)).1]
theorem ex_quo : diviP (fun x y : Int => x.tdiv y) [45, 55] [50] = ([45, 51], 0) := by
  unfold diviP reckP
  rw [if_neg (by decide), show readZ [45, 55] = some (-7) by decide +kernel, show readZ [50] = some 2 by decide +kernel]
  show (if ((-7 : Int).tdiv 2).natAbs < limN then (Lib.itoa ((-7 : Int).tdiv 2), (0 : Int)) else ([], 10)) = _
  rw [if_pos (by decide +kernel), show ((-7 : Int).tdiv 2) = -3 by decide, ← (itoa_read (show readZ [45, 51] = some (-3) by decide +kernel)).1]
theorem ex_rest : diviP (fun x y : Int => x.tmod y) [45, 55] [50] = ([45, 49], 0) := by
  unfold diviP reckP
  rw [if_neg (by decide), show readZ [45, 55] = some (-7) by decide +kernel, show readZ [50] = some 2 by decide +kernel]
  show (if ((-7 : Int).tmod 2).natAbs < limN then (Lib.itoa ((-7 : Int).tmod 2), (0 : Int)) else ([], 10)) = _
  rw [if_pos (by decide +kernel), show ((-7 : Int).tmod 2) = -1 by decide, ← (itoa_read (show readZ [45, 49] = some (-1) by decide +kernel)).1]

set_option maxRecDepth 100000 in
theorem awake_any (w : World) (htab : Tab w) : Calls Tryd.prog 17 #[] w fun e w' => e = .returned (.bool true) ∧ Below w.heap.size w w' := by
  have C1 := Times_any ⟨#[45, 49, 50]⟩ ⟨#[49, 50]⟩ w htab
  rw [show (⟨#[45, 49, 50]⟩ : ByteArray).data.toList = [45, 49, 50] from rfl, show (⟨#[49, 50]⟩ : ByteArray).data.toList = [49, 50] from rfl, ex_times] at C1
  have C2 := fun (W : World) (h : Tab W) => Quotient_any ⟨#[45, 55]⟩ ⟨#[50]⟩ W h
  have C3 := fun (W : World) (h : Tab W) => Rest_any ⟨#[45, 55]⟩ ⟨#[50]⟩ W h
  rw [show (⟨#[45, 55]⟩ : ByteArray).data.toList = [45, 55] from rfl, show (⟨#[50]⟩ : ByteArray).data.toList = [50] from rfl, ex_quo] at C2
  rw [show (⟨#[45, 55]⟩ : ByteArray).data.toList = [45, 55] from rfl, show (⟨#[50]⟩ : ByteArray).data.toList = [50] from rfl, ex_rest] at C3
  have HC1 := Lib.hid C1
  have HC2 := Lib.hid C2
  have HC3 := Lib.hid C3
  have HT := Lib.hid htab
  clear C1 C2 C3 htab
  go_enter Tryd.func17, Tryd.ntmps17
  go_wp2_with fail
  refine HC1.out.mono ?_
  rintro e w1 ⟨rfl, hb⟩
  have HB1 := Lib.hid hb
  clear hb HC1
  go_wp2_with fail
  refine (HC2.out w1 (HT.out.below HB1.out)).mono ?_
  rintro e w2 ⟨rfl, hb⟩
  have HB2 := Lib.hid (HB1.out.trans (hb.mono HB1.out.size))
  clear hb HC2
  go_wp2_with fail
  refine (HC3.out w2 (HT.out.below HB2.out)).mono ?_
  rintro e w3 ⟨rfl, hb⟩
  have HB3 := Lib.hid (HB2.out.trans (hb.mono HB2.out.size))
  clear hb HC3
  go_wp2
  go_ret
  exact ⟨rfl, HB3.out⟩
end Go.Proofs.YtpdkebljacmgfaaDoor
