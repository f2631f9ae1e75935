/- package big: what comes of two texts. -/
import Derived.Test.YtpdkebljacmgfaaDoorBig16
namespace Go.Proofs.YtpdkebljacmgfaaDoor
open Go.RowKit
set_option linter.unusedVariables false

/-- What a text that was read is, in memory. -/
def NumOk (w : World) (r : Option Int) (b : Bool) (s : Value) : Prop := ∀ z, r = some z → b = decide (z < 0) ∧ ∃ g, s = .slice (some ⟨g, 0, none⟩) (dgs z.natAbs).length (dgs z.natAbs).length ∧ RowAt w (some ⟨g, 0, none⟩) (dgs z.natAbs)
theorem NumOk.below {w W : World} {r : Option Int} {b : Bool} {s : Value} (h : NumOk w r b s) (hb : Below w.heap.size w W) : NumOk W r b s := fun z hz => by
  obtain ⟨h1, g, h2, h3⟩ := h z hz
  exact ⟨h1, g, h2, h3.below hb⟩
theorem read_open {w w' : World} {r : Option Int} {e : Ending} (h : ReadEnds w r e w') : ∃ b ao n c, e = .returned (.tuple #[.agg #[.bool b, .slice ao n c], .bool r.isSome]) ∧ Below w.heap.size w w' ∧ NumOk w' r b (.slice ao n c) := by
  obtain ⟨hb, h⟩ := h
  cases r with
  | none => exact ⟨false, _, _, _, h, hb, fun z hz => by cases hz⟩
  | some z =>
    obtain ⟨g, rfl, hg, hr⟩ := h
    exact ⟨_, _, _, _, rfl, hb, fun z' hz => by
      injection hz with hz
      subst hz
      exact ⟨rfl, g, rfl, hr⟩⟩
theorem sgn_of (z : Int) : sgn (decide (z < 0)) z.natAbs = z := by
  unfold sgn
  by_cases h : z < 0
  · rw [decide_eq_true h]; simp; omega
  · rw [decide_eq_false h]; simp; omega
theorem lim_digs {z : Int} (h : z.natAbs < limN) : (dgs z.natAbs).length ≤ 100 := by
  have : z.natAbs < pw 100 := Nat.lt_trans h (by decide +kernel)
  have := dgs_len this
  omega

theorem sign_cat (T : ByteArray) : (⟨#[45]⟩ : ByteArray) ++ T = ⟨(45 :: T.data.toList).toArray⟩ := by
  apply ByteArray.ext
  rw [ByteArray.data_append]
  apply Array.toList_inj.1
  simp
/-- What comes of two texts. -/
def reckP (op : Int → Int → Int) (a b : List UInt8) : List UInt8 × Int := match readZ a, readZ b with
  | some x, some y => if (op x y).natAbs < limN then (Lib.itoa (op x y), 0) else ([], 10)
  | _, _ => ([], 1)
def ReckEnds (w : World) (r : List UInt8 × Int) (e : Ending) (w' : World) : Prop := e = .returned (.tuple #[.string ⟨r.1.toArray⟩, .int .i64 r.2]) ∧ Below w.heap.size w w'

set_option maxHeartbeats 4000000 in
set_option maxRecDepth 100000 in
theorem reckoned_any (op : Int → Int → Int) (F : FuncId) (ef : ∀ args W, (callFunc F args).run Tryd.prog W = .ok (.enter F args) W)
    (s t : ByteArray) (w : World) (htab : Tab w)
    (hop : ∀ x y, readZ s.data.toList = some x → readZ t.data.toList = some y → (dgs (op x y).natAbs).length ≤ 1000 ∧ ∀ (g1 g2 : Nat) (W : World), RowAt W (some ⟨g1, 0, none⟩) (dgs x.natAbs) → RowAt W (some ⟨g2, 0, none⟩) (dgs y.natAbs) →
      Calls Tryd.prog F #[.agg #[.bool (decide (x < 0)), .slice (some ⟨g1, 0, none⟩) (dgs x.natAbs).length (dgs x.natAbs).length], .agg #[.bool (decide (y < 0)), .slice (some ⟨g2, 0, none⟩) (dgs y.natAbs).length (dgs y.natAbs).length]] W (MadeNum W (op x y))) :
    Calls Tryd.prog 26 #[.string s, .string t, .func (.func F) #[] #[]] w (ReckEnds w (reckP op s.data.toList t.data.toList)) := by
  have R1 := fun W => read_any s W
  have R2 := fun W => read_any t W
  have HP : Hid (reckP op s.data.toList t.data.toList = match readZ s.data.toList, readZ t.data.toList with
    | some x, some y => if (op x y).natAbs < limN then (Lib.itoa (op x y), 0) else ([], 10)
    | _, _ => ([], 1)) := Lib.hid rfl
  generalize reckP op s.data.toList t.data.toList = res at *
  generalize readZ s.data.toList = ra at *
  generalize readZ t.data.toList = rb at *
  have HR1 := Lib.hid R1
  have HR2 := Lib.hid R2
  have HOP := Lib.hid hop
  have HT := Lib.hid htab
  clear R1 R2 hop htab
  go_enter Tryd.func26, Tryd.ntmps26
  go_wp2_with fail
  refine (HR1.out _).mono ?_
  intro e w1 he
  obtain ⟨ba, ao, na, ca, rfl, hb1, hn1⟩ := read_open he
  have HB1 := Lib.hid hb1
  have HN1 := Lib.hid hn1
  clear he hb1 hn1 HR1
  go_wp2_with fail
  refine (HR2.out _).mono ?_
  intro e w2 he
  obtain ⟨bb, bo, nb, cb, rfl, hb2, hn2⟩ := read_open he
  have hw8 : w2.heap[w1.heap.size]? = some (.cells #[.bool ba, .slice ao na ca] 44 (0, 0)) := (hb2.block _ (by simp)).trans (heap_alloc_new _ _)
  have HW8 := Lib.hid hw8
  have hal := (Below.refl w1.heap.size w1).alloc (Nat.le_refl _) (.cells #[.bool ba, .slice ao na ca] 44)
  have hb12 : Below w1.heap.size w1 w2 := hal.trans (hb2.mono (by simp))
  have HB2 := Lib.hid (HB1.out.trans (hb12.mono HB1.out.size))
  have HNA := Lib.hid (HN1.out.below hb12)
  have HNB := Lib.hid hn2
  have hlt8 : w1.heap.size < w2.heap.size := lt_of_block hw8
  clear he hb2 hn2 HR2 hw8 hal hb12 HN1 HB1
  cases hra : ra.isSome
  · have hres : Hid (res = ([], 1)) := Lib.hid (by
      rw [HP.out]
      cases ra with
      | none => rfl
      | some x => cases hra)
    clear hra
    go_wp2
    go_ret2
    exact ⟨by rw [hres.out]; rfl, HB2.out.alloc HB2.out.size _⟩
  cases hrb : rb.isSome
  · have hres : Hid (res = ([], 1)) := Lib.hid (by
      rw [HP.out]
      cases ra with
      | none => rfl
      | some x =>
        cases rb with
        | none => rfl
        | some y => cases hrb)
    clear hra hrb
    go_wp2
    go_ret2
    exact ⟨by rw [hres.out]; rfl, HB2.out.alloc HB2.out.size _⟩
  obtain ⟨x, rfl⟩ := Option.isSome_iff_exists.1 hra
  obtain ⟨y, rfl⟩ := Option.isSome_iff_exists.1 hrb
  clear hra hrb
  obtain ⟨hx1, gx, hx2, hx3⟩ := HNA.out x rfl
  obtain ⟨hy1, gy, hy2, hy3⟩ := HNB.out y rfl
  injection hx2 with hx2 hx4 hx5
  injection hy2 with hy2 hy4 hy5
  subst hx1 hx2 hx4 hx5 hy1 hy2 hy4 hy5
  obtain ⟨hlen, hcall⟩ := HOP.out x y rfl rfl
  have hres : res = if (op x y).natAbs < limN then (Lib.itoa (op x y), 0) else ([], 10) := HP.out
  generalize op x y = z at *
  have hal2 := (Below.refl w2.heap.size w2).alloc (Nat.le_refl _) (.cells #[.bool (decide (y < 0)), .slice (some ⟨gy, 0, none⟩) (dgs y.natAbs).length (dgs y.natAbs).length] 44)
  have CC := hcall gx gy _ (hx3.below hal2) (hy3.below hal2)
  have HB3 := Lib.hid (HB2.out.trans (hal2.mono HB2.out.size))
  have c8 := (two_cells ((hal2.block _ hlt8).trans HW8.out)).1
  have c10 := (two_cells (heap_alloc_new w2 (.cells #[.bool (decide (y < 0)), .slice (some ⟨gy, 0, none⟩) (dgs y.natAbs).length (dgs y.natAbs).length] 44))).1
  have HCC := Lib.hid CC
  have HRES := Lib.hid hres
  have HLEN := Lib.hid hlen
  obtain ⟨c80, c81⟩ := c8
  clear HNA HNB HP HOP hx3 hy3 hal2 hcall CC hres hlen c10 HB2
  generalize decide (x < 0) = bx at *
  generalize decide (y < 0) = by' at *
  generalize (dgs x.natAbs).length = nx at *
  generalize (dgs y.natAbs).length = ny at *
  go_wp2_with fail
  refine HCC.out.mono ?_
  rintro e w3 ⟨b, m, g, hz, rfl, hg, hr, hb3⟩
  have hm : z.natAbs = m := by rw [← hz]; unfold sgn; cases b <;> simp
  have hlen : (dgs m).length ≤ 1000 := by rw [← hm]; exact HLEN.out
  have hal3 := (Below.refl w3.heap.size w3).alloc (Nat.le_refl _) (.cells #[.bool b, .slice (some ⟨g, 0, none⟩) (dgs m).length (dgs m).length] 44)
  have HB4 := Lib.hid ((HB3.out.trans (hb3.mono HB3.out.size)).trans (hal3.mono (HB3.out.trans (hb3.mono HB3.out.size)).size))
  have c12 := (two_cells (heap_alloc_new w3 (.cells #[.bool b, .slice (some ⟨g, 0, none⟩) (dgs m).length (dgs m).length] 44))).1
  have CT := text_any m (some ⟨g, 0, none⟩) (dgs m).length _ (hr.below hal3) hlen (HT.out.below HB4.out)
  obtain ⟨T, hT⟩ : ∃ T : ByteArray, T = ⟨(Lib.decDigits m).toArray⟩ := ⟨_, rfl⟩
  have hTl : T.data.toList = Lib.decDigits m := by rw [hT]
  rw [← hT] at CT
  have CW := fun W => wide_any T m hTl W
  have hone := one_nought T m hTl
  have HCT := Lib.hid CT
  have HCW := Lib.hid CW
  have HTL := Lib.hid hTl
  have HTT := Lib.hid hT
  have HZ := Lib.hid hz
  have HMM := Lib.hid hm
  clear hlen hal3 CT CW hT hTl hz hm hr hg hb3 HCC HB3 c12 HW8 c80 c81
  generalize (dgs m).length = nm at *
  go_wp2_with fail
  refine HCT.out.mono ?_
  rintro e w4 ⟨rfl, hb4⟩
  have hq := (hb4.block w3.heap.size (by simp)).trans (heap_alloc_new w3 (.cells #[.bool b, .slice (some ⟨g, 0, none⟩) nm nm] 44))
  obtain ⟨⟨c12, c13⟩, _⟩ := two_cells hq
  have HB5 := Lib.hid (HB4.out.trans (hb4.mono HB4.out.size))
  clear hb4 hq HCT HB4
  by_cases hw : limN ≤ m
  · rw [decide_eq_true hw] at HCW
    have hres : Hid (res = ([], 10)) := Lib.hid (by rw [HRES.out, HMM.out, if_neg (by omega)])
    clear hone hw
    go_wp2_with (go_at_call 46; (with_reducible refine (HCW.out _).mono ?_); rintro e w' ⟨rfl, rfl⟩)
    go_ret2
    exact ⟨by rw [hres.out]; rfl, HB5.out⟩
  · rw [decide_eq_false hw] at HCW
    have hres : Hid (res = (Lib.itoa z, 0)) := Lib.hid (by rw [HRES.out, HMM.out, if_pos (by omega)])
    have hsz : T.size ≤ 160 := by
      have h1 : T.data.toList.length = T.size := by simp
      rw [HTL.out, Lib.decDigits_length] at h1
      have h2 : Lib.nDigits m ≤ 159 + 1 := nd_le (Nat.lt_trans (Nat.lt_of_not_le hw) (by decide +kernel))
      omega
    have KA := fun W => run_string_add_sum (P := Tryd.prog) W ⟨#[45]⟩ T (by show 1 + T.size ≤ _; omega)
    by_cases hcase : b = true ∧ m ≠ 0
    · obtain ⟨rfl, hm0⟩ := hcase
      have hit : Lib.itoa z = 45 :: Lib.decDigits m := by
        have : z = -(m : Int) := HZ.out.symm
        unfold Lib.itoa
        rw [if_pos (by omega), HMM.out]
      have hg0 : (T.toList == [48]) = false := by rw [hone]; exact decide_eq_false hm0
      have hg1 : (T.toList != [48]) = true := by rw [bne, hg0]; rfl
      have HIT := Lib.hid hit
      clear hone hw hit hm0
      go_wp2_with (go_at_call 46; (with_reducible refine (HCW.out _).mono ?_); rintro e w' ⟨rfl, rfl⟩)
      go_ret2
      refine ⟨?_, HB5.out⟩
      rw [hres.out, HIT.out, ← HTL.out]
      exact congrArg (fun x => Ending.returned (Value.tuple #[.string x, .int .i64 0])) (sign_cat T)
    · have hit : Lib.itoa z = Lib.decDigits m := by
        have h1 := HZ.out
        unfold sgn at h1
        unfold Lib.itoa
        cases b
        · rw [if_neg (by simp at h1; omega)]
          simp at h1
          rw [← h1, Int.toNat_natCast]
        · have : m = 0 := by
            rcases Nat.eq_zero_or_pos m with h | h
            · exact h
            · exact absurd ⟨rfl, by omega⟩ hcase
          subst this
          simp at h1
          subst h1
          rfl
      have hgg : b = false ∨ (b = true ∧ (T.toList == [48]) = true ∧ (T.toList != [48]) = false) := by
        cases b
        · exact .inl rfl
        · refine .inr ⟨rfl, ?_⟩
          have : m = 0 := by
            rcases Nat.eq_zero_or_pos m with h | h
            · exact h
            · exact absurd ⟨rfl, by omega⟩ hcase
          have h1 : (T.toList == [48]) = true := by rw [hone]; exact decide_eq_true this
          exact ⟨h1, by rw [bne, h1]; rfl⟩
      have HIT := Lib.hid hit
      clear hone hw hit hcase
      rcases hgg with rfl | ⟨rfl, hg0, hg1⟩
      all_goals
        go_wp2_with (go_at_call 46; (with_reducible refine (HCW.out _).mono ?_); rintro e w' ⟨rfl, rfl⟩)
        go_ret2
        exact ⟨by rw [hres.out, HIT.out, HTT.out]; rfl, HB5.out⟩
end Go.Proofs.YtpdkebljacmgfaaDoor
