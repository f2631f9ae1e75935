/- demoticlaw09: BigSigns. -/
import Derived.Test.YtpdkebljacmgfaaDoorBig19
namespace Go.Proofs.YtpdkebljacmgfaaDoor
open Go.RowKit
set_option linter.unusedVariables false

theorem bytes_of {s : ByteArray} {l : List UInt8} (h : s.data.toList = l) : s = ⟨l.toArray⟩ := by
  apply ByteArray.ext
  apply Array.toList_inj.1
  rw [h]
/-- A call of two numbers that tells one. -/
theorem ends_ok {w w' : World} {op : Int → Int → Int} {a b : List UInt8} {e : Ending} (h : ReckEnds w (reckP op a b) e w') {x y z : Int} (hx : readZ a = some x) (hy : readZ b = some y) (hz : op x y = z) (hl : z.natAbs < limN) {u : ByteArray} (hu : u.data.toList = Lib.itoa z) :
    e = .returned (.tuple #[.string u, .int .i64 0]) ∧ Below w.heap.size w w' := by
  obtain ⟨h1, h2⟩ := h
  refine ⟨?_, h2⟩
  rw [h1, show reckP op a b = (Lib.itoa z, 0) by unfold reckP; rw [hx, hy]; show (if (op x y).natAbs < limN then _ else _) = _; rw [hz, if_pos hl], bytes_of hu]
theorem ends_div {w w' : World} {op : Int → Int → Int} {a b : List UInt8} {e : Ending} (h : ReckEnds w (diviP op a b) e w') {x y z : Int} (hx : readZ a = some x) (hy : readZ b = some y) (hy0 : y ≠ 0) (hz : op x y = z) (hl : z.natAbs < limN) {u : ByteArray} (hu : u.data.toList = Lib.itoa z) :
    e = .returned (.tuple #[.string u, .int .i64 0]) ∧ Below w.heap.size w w' := by
  refine ends_ok (op := op) (a := a) (b := b) ?_ hx hy hz hl hu
  unfold diviP at h
  rw [if_neg] at h
  · exact h
  · intro hb
    rw [(itoa_read hy).1] at hb
    exact hy0 (itoa_inj (hb.trans (Lib.decDigits_one (show (0 : Nat) < 10 by omega)).symm))
theorem text_of (z : Int) : ∃ u : ByteArray, u.data.toList = Lib.itoa z := ⟨⟨(Lib.itoa z).toArray⟩, rfl⟩
theorem read_back {u : ByteArray} {z : Int} (hu : u.data.toList = Lib.itoa z) (hl : z.natAbs < limN) : readZ u.data.toList = some z := by rw [hu, readZ_itoa, if_pos hl]
theorem nought_text : ([48] : List UInt8) = Lib.itoa 0 := (Lib.decDigits_one (show (0 : Nat) < 10 by omega)).symm

set_option maxHeartbeats 2000000 in
set_option maxRecDepth 1000000 in
theorem signs_walk (s : ByteArray) (w : World) (htab : Tab w) : Calls Tryd.prog 9 #[.string s] w fun e w' => e = .returned (.bool true) ∧ Below w.heap.size w w' := by
  have HT := Lib.hid htab
  clear htab
  have R := Lib.hid (right_any s w)
  cases hr : readZ s.data.toList with
  | none =>
    have HR := Lib.hid hr
    have R2 : Hid (Calls Tryd.prog 21 #[.string s] w fun e w' => e = .returned (.bool false) ∧ Below w.heap.size w w') := Lib.hid (by have := R.out; rw [hr] at this; exact this)
    clear hr R
    go_enter Tryd.func9, Tryd.ntmps9
    go_wp2_with fail
    refine R2.out.mono ?_
    rintro e w1 ⟨rfl, hb⟩
    have HB1 := Lib.hid hb
    clear hb R2
    go_wp2_with fail
    refine (Sum_any s ⟨#[48]⟩ w1 (HT.out.below HB1.out)).mono ?_
    rintro e w2 ⟨rfl, hb⟩
    have hv : reckP (fun x y : Int => x + y) s.data.toList (⟨#[48]⟩ : ByteArray).data.toList = ([], 1) := by unfold reckP; rw [HR.out]
    rw [hv]
    have HB2 := Lib.hid (HB1.out.trans (hb.mono HB1.out.size))
    clear hb hv HB1
    go_wp2_with fail
    refine (awake_any w2 (HT.out.below HB2.out)).mono ?_
    rintro e w3 ⟨rfl, hb⟩
    have HB3 := Lib.hid (HB2.out.trans (hb.mono HB2.out.size))
    clear hb HB2
    go_wp2
    go_ret
    exact ⟨rfl, HB3.out⟩
  | some z =>
    have HR := Lib.hid hr
    have R2 : Hid (Calls Tryd.prog 21 #[.string s] w fun e w' => e = .returned (.bool true) ∧ Below w.heap.size w w') := Lib.hid (by have := R.out; rw [hr] at this; exact this)
    obtain ⟨h1, h2⟩ := itoa_read hr
    obtain ⟨X, hX⟩ := text_of (-z)
    have HX := Lib.hid hX
    have HXR := Lib.hid (read_back hX (by omega))
    have HS := Lib.hid h1
    have HL := Lib.hid h2
    clear hr R h1 h2 hX
    go_enter Tryd.func9, Tryd.ntmps9
    go_wp2_with fail
    refine R2.out.mono ?_
    rintro e w1 ⟨rfl, hb⟩
    have HB1 := Lib.hid hb
    clear hb R2
    go_wp2_with fail
    refine (Less_any ⟨#[48]⟩ s w1 (HT.out.below HB1.out)).mono ?_
    intro e w2 he
    obtain ⟨rfl, hb⟩ := ends_ok (u := X) he (show readZ [48] = some 0 by decide +kernel) HR.out (show (0 : Int) - z = -z by omega) (by have := HL.out; omega) HX.out
    have HB2 := Lib.hid (HB1.out.trans (hb.mono HB1.out.size))
    clear he hb HB1
    go_wp2_with fail
    refine (Less_any ⟨#[48]⟩ X w2 (HT.out.below HB2.out)).mono ?_
    intro e w3 he
    obtain ⟨rfl, hb⟩ := ends_ok (u := s) he (show readZ [48] = some 0 by decide +kernel) HXR.out (show (0 : Int) - -z = z by omega) HL.out HS.out
    have HB3 := Lib.hid (HB2.out.trans (hb.mono HB2.out.size))
    clear he hb HB2
    go_wp2_with fail
    refine (Times_any ⟨#[45, 49]⟩ s w3 (HT.out.below HB3.out)).mono ?_
    intro e w4 he
    obtain ⟨rfl, hb⟩ := ends_ok (u := X) he (show readZ [45, 49] = some (-1) by decide +kernel) HR.out (show (-1 : Int) * z = -z by omega) (by have := HL.out; omega) HX.out
    have HB4 := Lib.hid (HB3.out.trans (hb.mono HB3.out.size))
    clear he hb HB3
    go_wp2_with fail
    refine (Times_any ⟨#[48]⟩ s w4 (HT.out.below HB4.out)).mono ?_
    intro e w5 he
    obtain ⟨rfl, hb⟩ := ends_ok (u := ⟨#[48]⟩) he (show readZ [48] = some 0 by decide +kernel) HR.out (show (0 : Int) * z = 0 by omega) (by decide +kernel) nought_text
    have HB5 := Lib.hid (HB4.out.trans (hb.mono HB4.out.size))
    clear he hb HB4
    go_wp2_with fail
    refine (Times_any ⟨#[49]⟩ s w5 (HT.out.below HB5.out)).mono ?_
    intro e w6 he
    obtain ⟨rfl, hb⟩ := ends_ok (u := s) he (show readZ [49] = some 1 by decide +kernel) HR.out (show (1 : Int) * z = z by omega) HL.out HS.out
    have HB6 := Lib.hid (HB5.out.trans (hb.mono HB5.out.size))
    clear he hb HB5
    go_wp2_with fail
    refine (Sum_any s X w6 (HT.out.below HB6.out)).mono ?_
    intro e w7 he
    obtain ⟨rfl, hb⟩ := ends_ok (u := ⟨#[48]⟩) he HR.out HXR.out (show z + -z = 0 by omega) (by decide +kernel) nought_text
    have HB7 := Lib.hid (HB6.out.trans (hb.mono HB6.out.size))
    clear he hb HB6
    go_wp2_with fail
    refine (awake_any w7 (HT.out.below HB7.out)).mono ?_
    rintro e w8 ⟨rfl, hb⟩
    have HB8 := Lib.hid (HB7.out.trans (hb.mono HB7.out.size))
    clear hb HB7
    go_wp2
    go_ret
    exact ⟨rfl, HB8.out⟩
end Go.Proofs.YtpdkebljacmgfaaDoor
