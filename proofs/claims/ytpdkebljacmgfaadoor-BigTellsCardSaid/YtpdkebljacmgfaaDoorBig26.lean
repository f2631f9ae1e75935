/- package big: Int. -/
import Derived.Test.YtpdkebljacmgfaaDoorBig20
import Derived.Test.YtpdkebljacmgfaaDoorIdxB
namespace Go.Proofs.YtpdkebljacmgfaaDoor
open Go.RowKit
set_option linter.unusedVariables false

namespace Atoi
open Go.Lib
theorem parse_fig : ∀ (l : List UInt8) (acc : Nat), l.all figB = true → acc < 18446744073709551616 → parseUint10 acc l = if acc * 10 ^ l.length + numL l < 18446744073709551616 then .ok (acc * 10 ^ l.length + numL l) else .range
  | [], acc, h, ha => by
    have e : acc * 10 ^ ([] : List UInt8).length + numL [] = acc := by
      show acc * 1 + 0 = acc
      omega
    rw [e, if_pos ha]
    rfl
  | c :: r, acc, h, ha => by
    rw [List.all_cons, Bool.and_eq_true] at h
    have hc : 48 ≤ c.toNat ∧ c.toNat ≤ 57 := of_decide_eq_true h.1
    have e : acc * 10 ^ (c :: r).length + numL (c :: r) = (acc * 10 + (c.toNat - 48)) * 10 ^ r.length + numL r := by
      rw [numL_cons, List.length_cons, Nat.pow_succ, Nat.add_mul, Nat.mul_assoc acc 10, Nat.mul_comm 10]
      omega
    rw [e]
    obtain ⟨d, hd⟩ : ∃ d, d = c.toNat - 48 := ⟨_, rfl⟩
    have hp : 1 ≤ 10 ^ r.length := Nat.one_le_pow _ _ (by decide)
    rw [parseUint10, if_pos hc, ← hd]
    have hmul : acc * 10 + d ≤ (acc * 10 + d) * 10 ^ r.length := Nat.le_mul_of_pos_right _ hp
    by_cases h1 : 1844674407370955162 ≤ acc
    · rw [if_pos h1, if_neg (by omega)]
    · rw [if_neg h1]
      by_cases h2 : 18446744073709551616 ≤ acc * 10 + d
      · rw [if_pos h2, if_neg (by omega)]
      · rw [if_neg h2, parse_fig r _ h.2 (by omega)]
theorem mag_dec (n : Nat) : parseMag (decDigits n) = if n < 18446744073709551616 then .ok n else .range := by
  unfold parseMag
  rw [if_neg (dec_ne n), parse_fig _ 0 (dec_all n) (by omega), numL_dec, Nat.zero_mul, Nat.zero_add]
theorem atoi_itoa (z : Int) : atoiAll (itoa z) = if -9223372036854775808 ≤ z ∧ z ≤ 9223372036854775807 then .ok z else .range := by
  unfold itoa
  by_cases h : z < 0
  · rw [if_pos h, atoiAll_minus, mag_dec]
    by_cases h1 : z.natAbs < 18446744073709551616
    · rw [if_pos h1]
      unfold signed
      by_cases h2 : 9223372036854775808 < z.natAbs
      · show (if 9223372036854775808 < z.natAbs then NumEnd.range else _) = _
        rw [if_pos h2, if_neg (by omega)]
      · show (if 9223372036854775808 < z.natAbs then NumEnd.range else _) = _
        rw [if_neg h2, if_pos (by omega), show (-(z.natAbs : Int)) = z by omega]
    · rw [if_neg h1, if_neg (by omega)]
      rfl
  · rw [if_neg h]
    have hne := dec_ne z.toNat
    have hall := dec_all z.toNat
    have hm := mag_dec z.toNat
    cases e : decDigits z.toNat with
    | nil => exact absurd e hne
    | cons c r =>
      rw [e] at hall hm
      rw [List.all_cons, Bool.and_eq_true] at hall
      have hc : 48 ≤ c.toNat ∧ c.toNat ≤ 57 := of_decide_eq_true hall.1
      rw [atoiAll_plain c r (by omega) (by omega), hm]
      by_cases h1 : z.toNat < 18446744073709551616
      · rw [if_pos h1]
        unfold signless
        by_cases h2 : 9223372036854775808 ≤ z.toNat
        · show (if 9223372036854775808 ≤ z.toNat then NumEnd.range else _) = _
          rw [if_pos h2, if_neg (by omega)]
        · show (if 9223372036854775808 ≤ z.toNat then NumEnd.range else _) = _
          rw [if_neg h2, if_pos (by omega), show ((z.toNat : Nat) : Int) = z by omega]
      · rw [if_neg h1, if_neg (by omega)]
        rfl
end Atoi

/-- A text's number of 64 bits. -/
def intP (l : List UInt8) : Int × Int := match readZ l with
  | none => (0, 1)
  | some z => if -9223372036854775808 ≤ z ∧ z ≤ 9223372036854775807 then (z, 0) else (0, 10)

/-- The error's variable. -/
def ErrIs (w : World) : Prop := ∃ tp p, w.var? Tryd.prog "strconv.ErrRange" = some #[.iface tp p]
theorem ErrIs.below {w W : World} (h : ErrIs w) (hb : Below w.heap.size w W) : ErrIs W := by
  obtain ⟨tp, p, h⟩ := h
  refine ⟨tp, p, ?_⟩
  unfold World.var? at *
  cases hg : Tryd.prog.globalNamed "strconv.ErrRange" with
  | none => simp [hg] at h
  | some g =>
    simp only [hg, Option.bind_some] at h ⊢
    have hlt : g < w.heap.size := by
      rcases Nat.lt_or_ge g w.heap.size with h' | h'
      · exact h'
      · simp [Array.getElem?_eq_none h'] at h
    rw [hb.block g hlt]
    exact h

set_option maxHeartbeats 2000000 in
set_option maxRecDepth 100000 in
theorem bigInt_any (s : ByteArray) (hs : s.size ≤ 100000) (w : World) (herr : ErrIs w) : Calls Tryd.prog 18 #[.string s] w fun e w' => e = .returned (.tuple #[.int .i64 (intP s.data.toList).1, .int .i64 (intP s.data.toList).2]) ∧ Below w.heap.size w w' := by
  have HE := Lib.hid herr
  have CR := Lib.hid (right_any s w)
  have HP : Hid (intP s.data.toList = match readZ s.data.toList with
    | none => (0, 1)
    | some z => if -9223372036854775808 ≤ z ∧ z ≤ 9223372036854775807 then (z, 0) else (0, 10)) := Lib.hid rfl
  have hat : ∀ z, readZ s.data.toList = some z → Lib.atoiAll s.data.toList = if -9223372036854775808 ≤ z ∧ z ≤ 9223372036854775807 then .ok z else .range := fun z hz => by
    rw [(itoa_read hz).1, Atoi.atoi_itoa]
  have HAT := Lib.hid hat
  clear herr hat
  generalize intP s.data.toList = res at *
  cases hr : readZ s.data.toList with
  | none =>
    rw [hr] at CR HP
    have hres : Hid ((1 : Int) = res.2 ∧ (0 : Int) = res.1) := Lib.hid (by rw [HP.out]; exact ⟨rfl, rfl⟩)
    clear HAT HP hr
    go_enter Tryd.func18, Tryd.ntmps18
    go_wp2_with fail
    refine CR.out.mono ?_
    rintro _ w1 ⟨rfl, hb⟩
    have HB := Lib.hid hb
    clear hb CR
    go_wp2
    go_ret2
    rw [← hres.out.1, ← hres.out.2]
    exact ⟨rfl, HB.out⟩
  | some z =>
    have ha := HAT.out z hr
    rw [hr] at CR HP
    clear HAT hr
    by_cases hz : -9223372036854775808 ≤ z ∧ z ≤ 9223372036854775807
    · rw [if_pos hz] at ha
      have hres : Hid ((0 : Int) = res.2 ∧ z = res.1) := Lib.hid (by rw [HP.out]; simp only []; rw [if_pos hz]; exact ⟨rfl, rfl⟩)
      have CA := Lib.hid (fun W => Go.Proofs.Tryd.strconv_Atoi_ok s (by omega) z ha W)
      clear HP ha hz
      go_enter Tryd.func18, Tryd.ntmps18
      go_wp2_with fail
      refine CR.out.mono ?_
      rintro _ w1 ⟨rfl, hb⟩
      have HB := Lib.hid hb
      clear hb CR
      go_wp2_with fail
      refine (CA.out w1).mono ?_
      rintro _ w2 ⟨rfl, hw⟩
      have HB2 := Lib.hid (HB.out.trans ((show Below w1.heap.size w1 w2 by
        rcases hw with rfl | ⟨t, rfl⟩
        · exact Below.refl _ _
        · exact Lib.bytesWorld_below _ _ _).mono HB.out.size))
      clear hw CA
      go_wp2
      go_ret2
      rw [← hres.out.1, ← hres.out.2]
      exact ⟨rfl, HB2.out⟩
    · rw [if_neg hz] at ha
      have hres : Hid ((10 : Int) = res.2 ∧ (0 : Int) = res.1) := Lib.hid (by rw [HP.out]; simp only []; rw [if_neg hz]; exact ⟨rfl, rfl⟩)
      have CA := Lib.hid (fun W tp p h => Go.Proofs.Tryd.strconv_Atoi_range_var s (by omega) ha tp p W h)
      obtain ⟨sat, hsat⟩ : ∃ sat, sat = Lib.atoiSat s.data.toList := ⟨_, rfl⟩
      rw [← hsat] at CA
      clear HP ha hz hsat
      go_enter Tryd.func18, Tryd.ntmps18
      go_wp2_with fail
      refine CR.out.mono ?_
      rintro _ w1 ⟨rfl, hb⟩
      have HB := Lib.hid hb
      obtain ⟨tp, p, hv⟩ := HE.out.below hb
      have CA2 := Lib.hid (CA.out w1 tp p hv)
      clear hb CR hv CA
      go_wp2_with fail
      refine CA2.out.mono ?_
      rintro _ w2 ⟨N, rfl, _, _, hb⟩
      have HB2 := Lib.hid (HB.out.trans (hb.mono HB.out.size))
      clear hb CA2
      go_wp2
      go_ret2
      rw [← hres.out.1, ← hres.out.2]
      exact ⟨rfl, HB2.out⟩
end Go.Proofs.YtpdkebljacmgfaaDoor
