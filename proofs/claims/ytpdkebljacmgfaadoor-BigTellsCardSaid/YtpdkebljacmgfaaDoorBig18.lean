/- package big: sums, differences, products, quotients, rests; numbers written; two compared. -/
import Derived.Test.YtpdkebljacmgfaaDoorBig17
namespace Go.Proofs.YtpdkebljacmgfaaDoor
open Go.RowKit
set_option linter.unusedVariables false

theorem lim_len1 {n : Nat} (h : n < limN * limN + limN) : (dgs n).length ≤ 1000 := by
  have h1 : limN * limN + limN < pw 100 := by decide +kernel
  have := dgs_len (Nat.lt_trans h h1)
  omega
theorem len_add {x y : Int} (hx : x.natAbs < limN) (hy : y.natAbs < limN) : (dgs (x + y).natAbs).length ≤ 1000 := lim_len1 (by
  have h1 : limN + limN ≤ limN * limN + limN := by decide +kernel
  have h2 := Int.natAbs_add_le x y
  omega)
theorem len_sub {x y : Int} (hx : x.natAbs < limN) (hy : y.natAbs < limN) : (dgs (x - y).natAbs).length ≤ 1000 := lim_len1 (by
  have h1 : limN + limN ≤ limN * limN + limN := by decide +kernel
  omega)
theorem len_mul {x y : Int} (hx : x.natAbs < limN) (hy : y.natAbs < limN) : (dgs (x * y).natAbs).length ≤ 1000 := lim_len1 (by
  rw [Int.natAbs_mul]
  have := Nat.mul_lt_mul'' hx hy
  exact Nat.lt_of_lt_of_le this (Nat.le_add_right _ _))
theorem len_quo {x y : Int} (hx : x.natAbs < limN) : (dgs (x.tdiv y).natAbs).length ≤ 1000 := lim_len1 (by
  rw [Int.natAbs_tdiv]
  show x.natAbs / y.natAbs < _
  have h1 : limN ≤ limN * limN + limN := by decide +kernel
  have := Nat.div_le_self x.natAbs y.natAbs
  omega)
theorem len_rest {x y : Int} (hx : x.natAbs < limN) : (dgs (x.tmod y).natAbs).length ≤ 1000 := lim_len1 (by
  rw [Int.natAbs_tmod]
  have h1 : limN ≤ limN * limN + limN := by decide +kernel
  have := Nat.mod_le x.natAbs y.natAbs
  omega)

theorem Sum_fits : ∀ args W, (callFunc 27 args).run Tryd.prog W = .ok (.enter 27 args) W := fun _ _ => by kernel_rfl
set_option maxRecDepth 100000 in
theorem Sum_any (s t : ByteArray) (w : World) (htab : Tab w) : Calls Tryd.prog 11 #[.string s, .string t] w (ReckEnds w (reckP (fun x y : Int => x + y) s.data.toList t.data.toList)) := by
  have C := reckoned_any (fun x y : Int => x + y) 27 Sum_fits s t w htab (fun x y hx hy => ⟨len_add (itoa_read hx).2 (itoa_read hy).2, fun g1 g2 W r1 r2 => by
    have := sum1_any (decide (x < 0)) (decide (y < 0)) x.natAbs y.natAbs g1 0 (dgs x.natAbs).length g2 0 (dgs y.natAbs).length W r1 r2 (lim_digs (itoa_read hx).2) (lim_digs (itoa_read hy).2)
    rwa [sgn_of, sgn_of] at this⟩)
  have HC := Lib.hid C
  clear C htab
  generalize reckP (fun x y : Int => x + y) s.data.toList t.data.toList = r at *
  go_enter Tryd.func11, Tryd.ntmps11
  go_wp2_with fail
  refine HC.out.mono ?_
  rintro e w1 ⟨rfl, hb⟩
  have HB := Lib.hid hb
  clear hb HC
  go_wp2
  go_ret2
  exact ⟨rfl, HB.out⟩
theorem Less_fits : ∀ args W, (callFunc 29 args).run Tryd.prog W = .ok (.enter 29 args) W := fun _ _ => by kernel_rfl
set_option maxRecDepth 100000 in
theorem Less_any (s t : ByteArray) (w : World) (htab : Tab w) : Calls Tryd.prog 12 #[.string s, .string t] w (ReckEnds w (reckP (fun x y : Int => x - y) s.data.toList t.data.toList)) := by
  have C := reckoned_any (fun x y : Int => x - y) 29 Less_fits s t w htab (fun x y hx hy => ⟨len_sub (itoa_read hx).2 (itoa_read hy).2, fun g1 g2 W r1 r2 => by
    have := less1_any (decide (x < 0)) (decide (y < 0)) x.natAbs y.natAbs g1 0 (dgs x.natAbs).length g2 0 (dgs y.natAbs).length W r1 r2 (lim_digs (itoa_read hx).2) (lim_digs (itoa_read hy).2)
    rwa [sgn_of, sgn_of] at this⟩)
  have HC := Lib.hid C
  clear C htab
  generalize reckP (fun x y : Int => x - y) s.data.toList t.data.toList = r at *
  go_enter Tryd.func12, Tryd.ntmps12
  go_wp2_with fail
  refine HC.out.mono ?_
  rintro e w1 ⟨rfl, hb⟩
  have HB := Lib.hid hb
  clear hb HC
  go_wp2
  go_ret2
  exact ⟨rfl, HB.out⟩
theorem Times_fits : ∀ args W, (callFunc 30 args).run Tryd.prog W = .ok (.enter 30 args) W := fun _ _ => by kernel_rfl
set_option maxRecDepth 100000 in
theorem Times_any (s t : ByteArray) (w : World) (htab : Tab w) : Calls Tryd.prog 13 #[.string s, .string t] w (ReckEnds w (reckP (fun x y : Int => x * y) s.data.toList t.data.toList)) := by
  have C := reckoned_any (fun x y : Int => x * y) 30 Times_fits s t w htab (fun x y hx hy => ⟨len_mul (itoa_read hx).2 (itoa_read hy).2, fun g1 g2 W r1 r2 => by
    have := times1_any (decide (x < 0)) (decide (y < 0)) x.natAbs y.natAbs g1 0 (dgs x.natAbs).length g2 0 (dgs y.natAbs).length W r1 r2 (lim_digs (itoa_read hx).2) (lim_digs (itoa_read hy).2)
    rwa [sgn_of, sgn_of] at this⟩)
  have HC := Lib.hid C
  clear C htab
  generalize reckP (fun x y : Int => x * y) s.data.toList t.data.toList = r at *
  go_enter Tryd.func13, Tryd.ntmps13
  go_wp2_with fail
  refine HC.out.mono ?_
  rintro e w1 ⟨rfl, hb⟩
  have HB := Lib.hid hb
  clear hb HC
  go_wp2
  go_ret2
  exact ⟨rfl, HB.out⟩
/-- What comes of two texts, of which the second one may not be 0. -/
def diviP (op : Int → Int → Int) (a b : List UInt8) : List UInt8 × Int := if b = [48] then ([], 1) else reckP op a b
theorem Quotient_fits : ∀ args W, (callFunc 33 args).run Tryd.prog W = .ok (.enter 33 args) W := fun _ _ => by kernel_rfl
set_option maxRecDepth 100000 in
theorem Quotient_div (s t : ByteArray) (w : World) (htab : Tab w) : Calls Tryd.prog 32 #[.string s, .string t, .func (.func 33) #[] #[]] w (ReckEnds w (diviP (fun x y : Int => x.tdiv y) s.data.toList t.data.toList)) := by
  by_cases h0 : t.data.toList = [48]
  · have g : (t.toList == [48]) = true := by rw [Lib.toList_data, h0]; rfl
    have hr : diviP (fun x y : Int => x.tdiv y) s.data.toList t.data.toList = ([], 1) := by unfold diviP; rw [if_pos h0]
    rw [hr]
    clear h0 hr htab
    go_enter Tryd.func32, Tryd.ntmps32
    go_wp2
    go_ret2
    exact ⟨rfl, Below.refl _ _⟩
  · have g : (t.toList == [48]) = false := by rw [Lib.toList_data]; exact beq_eq_false_iff_ne.2 h0
    have hr : diviP (fun x y : Int => x.tdiv y) s.data.toList t.data.toList = reckP (fun x y : Int => x.tdiv y) s.data.toList t.data.toList := by unfold diviP; rw [if_neg h0]
    rw [hr]
    have C := reckoned_any (fun x y : Int => x.tdiv y) 33 Quotient_fits s t w htab (fun x y hx hy => ⟨len_quo (itoa_read hx).2, fun g1 g2 W r1 r2 => by
      have hy0 : 0 < y.natAbs := by
        rcases Nat.eq_zero_or_pos y.natAbs with h | h
        · have h2 : y = 0 := by omega
          rw [(itoa_read hy).1, h2] at h0
          exact absurd (Lib.decDigits_one (show (0 : Nat) < 10 by omega)) h0
        · exact h
      have := quotient1_any (decide (x < 0)) (decide (y < 0)) x.natAbs y.natAbs g1 0 (dgs x.natAbs).length g2 0 (dgs y.natAbs).length W r1 r2 (lim_digs (itoa_read hx).2) (lim_digs (itoa_read hy).2) hy0
      rwa [sgn_of, sgn_of] at this⟩)
    have HC := Lib.hid C
    clear C htab h0 hr
    generalize reckP (fun x y : Int => x.tdiv y) s.data.toList t.data.toList = r at *
    go_enter Tryd.func32, Tryd.ntmps32
    go_wp2_with fail
    refine HC.out.mono ?_
    rintro e w1 ⟨rfl, hb⟩
    have HB := Lib.hid hb
    clear hb HC
    go_wp2
    go_ret2
    exact ⟨rfl, HB.out⟩
set_option maxRecDepth 100000 in
theorem Quotient_any (s t : ByteArray) (w : World) (htab : Tab w) : Calls Tryd.prog 14 #[.string s, .string t] w (ReckEnds w (diviP (fun x y : Int => x.tdiv y) s.data.toList t.data.toList)) := by
  have HC := Lib.hid (Quotient_div s t w htab)
  clear htab
  generalize diviP (fun x y : Int => x.tdiv y) s.data.toList t.data.toList = r at *
  go_enter Tryd.func14, Tryd.ntmps14
  go_wp2_with fail
  refine HC.out.mono ?_
  rintro e w1 ⟨rfl, hb⟩
  have HB := Lib.hid hb
  clear hb HC
  go_wp2
  go_ret2
  exact ⟨rfl, HB.out⟩
theorem Rest_fits : ∀ args W, (callFunc 35 args).run Tryd.prog W = .ok (.enter 35 args) W := fun _ _ => by kernel_rfl
set_option maxRecDepth 100000 in
theorem Rest_div (s t : ByteArray) (w : World) (htab : Tab w) : Calls Tryd.prog 32 #[.string s, .string t, .func (.func 35) #[] #[]] w (ReckEnds w (diviP (fun x y : Int => x.tmod y) s.data.toList t.data.toList)) := by
  by_cases h0 : t.data.toList = [48]
  · have g : (t.toList == [48]) = true := by rw [Lib.toList_data, h0]; rfl
    have hr : diviP (fun x y : Int => x.tmod y) s.data.toList t.data.toList = ([], 1) := by unfold diviP; rw [if_pos h0]
    rw [hr]
    clear h0 hr htab
    go_enter Tryd.func32, Tryd.ntmps32
    go_wp2
    go_ret2
    exact ⟨rfl, Below.refl _ _⟩
  · have g : (t.toList == [48]) = false := by rw [Lib.toList_data]; exact beq_eq_false_iff_ne.2 h0
    have hr : diviP (fun x y : Int => x.tmod y) s.data.toList t.data.toList = reckP (fun x y : Int => x.tmod y) s.data.toList t.data.toList := by unfold diviP; rw [if_neg h0]
    rw [hr]
    have C := reckoned_any (fun x y : Int => x.tmod y) 35 Rest_fits s t w htab (fun x y hx hy => ⟨len_rest (itoa_read hx).2, fun g1 g2 W r1 r2 => by
      have hy0 : 0 < y.natAbs := by
        rcases Nat.eq_zero_or_pos y.natAbs with h | h
        · have h2 : y = 0 := by omega
          rw [(itoa_read hy).1, h2] at h0
          exact absurd (Lib.decDigits_one (show (0 : Nat) < 10 by omega)) h0
        · exact h
      have := rest1_any (decide (x < 0)) (decide (y < 0)) x.natAbs y.natAbs g1 0 (dgs x.natAbs).length g2 0 (dgs y.natAbs).length W r1 r2 (lim_digs (itoa_read hx).2) (lim_digs (itoa_read hy).2) hy0
      rwa [sgn_of, sgn_of] at this⟩)
    have HC := Lib.hid C
    clear C htab h0 hr
    generalize reckP (fun x y : Int => x.tmod y) s.data.toList t.data.toList = r at *
    go_enter Tryd.func32, Tryd.ntmps32
    go_wp2_with fail
    refine HC.out.mono ?_
    rintro e w1 ⟨rfl, hb⟩
    have HB := Lib.hid hb
    clear hb HC
    go_wp2
    go_ret2
    exact ⟨rfl, HB.out⟩
set_option maxRecDepth 100000 in
theorem Rest_any (s t : ByteArray) (w : World) (htab : Tab w) : Calls Tryd.prog 15 #[.string s, .string t] w (ReckEnds w (diviP (fun x y : Int => x.tmod y) s.data.toList t.data.toList)) := by
  have HC := Lib.hid (Rest_div s t w htab)
  clear htab
  generalize diviP (fun x y : Int => x.tmod y) s.data.toList t.data.toList = r at *
  go_enter Tryd.func15, Tryd.ntmps15
  go_wp2_with fail
  refine HC.out.mono ?_
  rintro e w1 ⟨rfl, hb⟩
  have HB := Lib.hid hb
  clear hb HC
  go_wp2
  go_ret2
  exact ⟨rfl, HB.out⟩

/-! ### Right, Text -/
set_option maxRecDepth 100000 in
theorem right_any (s : ByteArray) (w : World) : Calls Tryd.prog 21 #[.string s] w fun e w' => e = .returned (.bool (readZ s.data.toList).isSome) ∧ Below w.heap.size w w' := by
  have HR := Lib.hid (read_any s w)
  generalize readZ s.data.toList = r at *
  go_enter Tryd.func21, Tryd.ntmps21
  go_wp2_with fail
  refine HR.out.mono ?_
  intro e w1 he
  obtain ⟨ba, ao, na, ca, rfl, hb1, _⟩ := read_open he
  have HB := Lib.hid hb1
  clear he hb1 HR
  go_wp2
  go_ret
  exact ⟨rfl, HB.out.alloc HB.out.size _⟩
theorem below_grown (w : World) (os : Array Obj) (k : Nat) : Below w.heap.size w (Go.Sort.grow (w.drewN k) os) :=
  ⟨rfl, rfl, rfl, by show w.heap.size ≤ (w.heap ++ os).size; simp, fun i hi => by show (w.heap ++ os)[i]? = _; exact Array.getElem?_append_left hi⟩
theorem written_any (n : Int) (h0 : -9223372036854775808 ≤ n) (h1 : n ≤ 9223372036854775807) (w : World) (htab : Tab w) : Calls Tryd.prog 20 #[.int .i64 n] w fun e w' => e = .returned (.string ⟨(Lib.itoa n).toArray⟩) ∧ Below w.heap.size w w' := by
  have HC := Lib.hid (Go.Proofs.Tryd.strconv_Itoa n h0 h1 w htab)
  clear htab
  generalize Lib.itoa n = r at *
  go_enter Tryd.func20, Tryd.ntmps20
  go_wp2_with fail
  refine HC.out.mono ?_
  rintro e w1 ⟨rfl, k, os, rfl⟩
  have HB := Lib.hid (below_grown w os k)
  clear HC
  go_wp2
  go_ret
  exact ⟨rfl, HB.out⟩
end Go.Proofs.YtpdkebljacmgfaaDoor
