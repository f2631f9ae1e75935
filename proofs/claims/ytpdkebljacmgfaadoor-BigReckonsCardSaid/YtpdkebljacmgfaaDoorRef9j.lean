/- demoticlaw09: BigReckons. -/
import Derived.Test.YtpdkebljacmgfaaDoorRef9i
namespace Go.Proofs.YtpdkebljacmgfaaDoor
open Go.RowKit
set_option linter.unusedVariables false

set_option maxRecDepth 100000 in
theorem told_any (o s t : ByteArray) (res : List UInt8 × Int) (hdo : ∀ W, Calls Tryd.prog 37 #[.string o, .string s, .string t] W (ReckEnds W res)) (w : World) :
    Calls Tryd.prog 16 #[.string ⟨res.1.toArray⟩, .int .i64 res.2, .string o, .string s, .string t] w fun e w' => e = .returned (.bool true) ∧ Below w.heap.size w w' := by
  have CD := Lib.hid (hdo w)
  unfold ReckEnds at CD
  clear hdo
  obtain ⟨l, z⟩ := res
  obtain ⟨U, hU⟩ : ∃ U : ByteArray, U = ⟨l.toArray⟩ := ⟨_, rfl⟩
  simp only [← hU] at CD ⊢
  clear hU
  go_enter Tryd.func16, Tryd.ntmps16
  go_wp2_with fail
  refine CD.out.mono ?_
  rintro _ w1 ⟨rfl, hb⟩
  have HB := Lib.hid hb
  clear hb CD
  go_wp2
  go_ret
  exact ⟨rfl, HB.out⟩

set_option maxHeartbeats 4000000 in
set_option maxRecDepth 1000000 in
theorem reckons_walk (s t : ByteArray) (w : World) (htab : Tab w) : Calls Tryd.prog 3 #[.string s, .string t] w fun e w' => e = .returned (.bool true) ∧ Below w.heap.size w w' := by
  have HT := Lib.hid htab
  clear htab
  by_cases h1 : 200 < s.size
  · have g1 : decide ((200 : Int) < (s.size : Int)) = true := decide_eq_true (by omega)
    clear h1
    go_enter Tryd.func3, Tryd.ntmps3
    go_wp2
    go_ret
    exact ⟨rfl, Below.refl _ _⟩
  have g1 : decide ((200 : Int) < (s.size : Int)) = false := decide_eq_false (by omega)
  by_cases h2 : 200 < t.size
  · have g2 : decide ((200 : Int) < (t.size : Int)) = true := decide_eq_true (by omega)
    clear h1 h2
    go_enter Tryd.func3, Tryd.ntmps3
    go_wp2
    go_ret
    exact ⟨rfl, Below.refl _ _⟩
  have g2 : decide ((200 : Int) < (t.size : Int)) = false := decide_eq_false (by omega)
  have C1 := fun (W : World) (h : Tab W) => Sum_any s t W h
  have C2 := fun (W : World) (h : Tab W) => Less_any s t W h
  have C3 := fun (W : World) (h : Tab W) => Times_any s t W h
  have C4 := fun (W : World) (h : Tab W) => Quotient_any s t W h
  have C5 := fun (W : World) (h : Tab W) => Rest_any s t W h
  have D1 := fun W => told_any ⟨#[43]⟩ s t _ (fun W => refDoAdd_any s t (by omega) (by omega) W) W
  have D2 := fun W => told_any ⟨#[45]⟩ s t _ (fun W => refDoSub_any s t (by omega) (by omega) W) W
  have D3 := fun W => told_any ⟨#[42]⟩ s t _ (fun W => refDoMul_any s t (by omega) (by omega) W) W
  have D4 := fun W => told_any ⟨#[47]⟩ s t _ (fun W => refDoQuo_any s t (by omega) (by omega) W) W
  have D5 := fun W => told_any ⟨#[37]⟩ s t _ (fun W => refDoRst_any s t (by omega) (by omega) W) W
  unfold ReckEnds at C1 C2 C3 C4 C5
  generalize reckP (fun x y : Int => x + y) s.data.toList t.data.toList = r1 at *
  generalize reckP (fun x y : Int => x - y) s.data.toList t.data.toList = r2 at *
  generalize reckP (fun x y : Int => x * y) s.data.toList t.data.toList = r3 at *
  generalize diviP (fun x y : Int => x.tdiv y) s.data.toList t.data.toList = r4 at *
  generalize diviP (fun x y : Int => x.tmod y) s.data.toList t.data.toList = r5 at *
  have CH1 := Lib.hid C1
  have CH2 := Lib.hid C2
  have CH3 := Lib.hid C3
  have CH4 := Lib.hid C4
  have CH5 := Lib.hid C5
  have DH1 := Lib.hid D1
  have DH2 := Lib.hid D2
  have DH3 := Lib.hid D3
  have DH4 := Lib.hid D4
  have DH5 := Lib.hid D5
  clear C1 C2 C3 C4 C5 D1 D2 D3 D4 D5 h1 h2
  obtain ⟨l1, z1⟩ := r1
  obtain ⟨l2, z2⟩ := r2
  obtain ⟨l3, z3⟩ := r3
  obtain ⟨l4, z4⟩ := r4
  obtain ⟨l5, z5⟩ := r5
  have HB0 := Lib.hid (Below.refl w.heap.size w)
  go_enter Tryd.func3, Tryd.ntmps3
  go_wp2_with fail
  refine (CH1.out _ HT.out).mono ?_
  rintro _ w1 ⟨rfl, hb⟩
  have HB1 := Lib.hid hb
  clear hb CH1
  go_wp2_with fail
  refine (CH2.out _ (HT.out.below HB1.out)).mono ?_
  rintro _ w2 ⟨rfl, hb⟩
  have HB2 := Lib.hid (HB1.out.trans (hb.mono HB1.out.size))
  clear hb CH2
  go_wp2_with fail
  refine (CH3.out _ (HT.out.below HB2.out)).mono ?_
  rintro _ w3 ⟨rfl, hb⟩
  have HB3 := Lib.hid (HB2.out.trans (hb.mono HB2.out.size))
  clear hb CH3
  go_wp2_with fail
  refine (CH4.out _ (HT.out.below HB3.out)).mono ?_
  rintro _ w4 ⟨rfl, hb⟩
  have HB4 := Lib.hid (HB3.out.trans (hb.mono HB3.out.size))
  clear hb CH4
  go_wp2_with fail
  refine (CH5.out _ (HT.out.below HB4.out)).mono ?_
  rintro _ w5 ⟨rfl, hb⟩
  have HB5 := Lib.hid (HB4.out.trans (hb.mono HB4.out.size))
  clear hb CH5
  go_wp2_with fail
  refine (DH1.out _).mono ?_
  rintro _ w6 ⟨rfl, hb⟩
  have HB6 := Lib.hid (HB5.out.trans (hb.mono HB5.out.size))
  clear hb DH1
  go_wp2_with fail
  refine (DH2.out _).mono ?_
  rintro _ w7 ⟨rfl, hb⟩
  have HB7 := Lib.hid (HB6.out.trans (hb.mono HB6.out.size))
  clear hb DH2
  go_wp2_with fail
  refine (DH3.out _).mono ?_
  rintro _ w8 ⟨rfl, hb⟩
  have HB8 := Lib.hid (HB7.out.trans (hb.mono HB7.out.size))
  clear hb DH3
  go_wp2_with fail
  refine (DH4.out _).mono ?_
  rintro _ w9 ⟨rfl, hb⟩
  have HB9 := Lib.hid (HB8.out.trans (hb.mono HB8.out.size))
  clear hb DH4
  go_wp2_with fail
  refine (DH5.out _).mono ?_
  rintro _ w10 ⟨rfl, hb⟩
  have HB10 := Lib.hid (HB9.out.trans (hb.mono HB9.out.size))
  clear hb DH5
  go_wp2_with fail
  refine (awake_any w10 (HT.out.below HB10.out)).mono ?_
  rintro _ w11 ⟨rfl, hb⟩
  have HB11 := Lib.hid (HB10.out.trans (hb.mono HB10.out.size))
  clear hb
  go_wp2
  go_ret
  exact ⟨rfl, HB11.out⟩
end Go.Proofs.YtpdkebljacmgfaaDoor
