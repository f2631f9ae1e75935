/- demoticref09: Amount, Right. -/
import Derived.Test.YtpdkebljacmgfaaDoorRef9d
namespace Go.Proofs.YtpdkebljacmgfaaDoor
open Go.RowKit
set_option linter.unusedVariables false

/-- What an amount is told to be. -/
def AmtIs (r : Option Int) (x : ByteArray) (m ok : Bool) : Prop := (ok = false ∧ r = none) ∨ (ok = true ∧ ∃ n : Nat, x.data.toList = Lib.decDigits n ∧ x.size ≤ 160 ∧ (m = true → n ≠ 0) ∧ r = if limN ≤ n then none else some (if m then -(n : Int) else n))
def Sgnd (s f : ByteArray) (b : Bool) : Prop := (s.data.toList.head? = some 45 ∧ f.data.toList = s.data.toList.drop 1 ∧ b = true) ∨ (s.data.toList.head? ≠ some 45 ∧ f.data.toList = s.data.toList ∧ b = false)
theorem amt_no_plain {s f : ByteArray} {b : Bool} (h : Sgnd s f b) (hp : plainB f = false) : AmtIs (readZ s.data.toList) ⟨#[]⟩ false false := by
  refine .inl ⟨rfl, read_none h ?_⟩
  rw [plain_row] at hp
  rw [← hp]
  simp
theorem amt_long {s f : ByteArray} {b : Bool} (h : Sgnd s f b) (hp : plainB f = true) (hl : 160 < f.size) : AmtIs (readZ s.data.toList) ⟨#[]⟩ false false := by
  refine .inl ⟨rfl, ?_⟩
  rw [plain_row, Bool.and_eq_true] at hp
  obtain ⟨n, hn⟩ := (plain_iff _).1 hp.2
  rw [read_some h n hn]
  split
  · rfl
  · rw [if_pos]
    have h1 := text_size hn
    rcases Nat.lt_or_ge n limN with h2 | h2
    · have := nd_le (n := n) (k := 154) (Nat.lt_trans h2 (by decide +kernel))
      omega
    · exact h2
theorem amt_nought {s f : ByteArray} {b : Bool} (h : Sgnd s f b) (hb : b = true) (hp : plainB f = true) (h0 : (f.toList == [48]) = true) : AmtIs (readZ s.data.toList) ⟨#[]⟩ false false := by
  refine .inl ⟨rfl, ?_⟩
  rw [plain_row, Bool.and_eq_true] at hp
  obtain ⟨n, hn⟩ := (plain_iff _).1 hp.2
  rw [nought_list f n hn, decide_eq_true_eq] at h0
  rw [read_some h n hn, if_pos ⟨hb, h0⟩]
theorem amt_some {s f : ByteArray} {b : Bool} (h : Sgnd s f b) (hp : plainB f = true) (hl : f.size ≤ 160) (h0 : b = true → (f.toList == [48]) = false) : AmtIs (readZ s.data.toList) f b true := by
  rw [plain_row, Bool.and_eq_true] at hp
  obtain ⟨n, hn⟩ := (plain_iff _).1 hp.2
  rw [nought_list f n hn, decide_eq_false_iff_not] at h0
  exact .inr ⟨rfl, n, hn, hl, h0, by rw [read_some h n hn, if_neg (fun h => h0 h.1 h.2)]⟩

set_option maxHeartbeats 2000000 in
set_option maxRecDepth 100000 in
theorem refAmount_any (s : ByteArray) (hs : s.size ≤ 4000) (w : World) : Calls Tryd.prog 39 #[.string s] w fun e w' => (∃ (x : ByteArray) (m ok : Bool), e = .returned (.tuple #[.string x, .bool m, .bool ok]) ∧ AmtIs (readZ s.data.toList) x m ok) ∧ w = w' := by
  obtain ⟨R, hR⟩ : ∃ R, R = AmtIs (readZ s.data.toList) := ⟨_, rfl⟩
  have HEND : Hid (∀ x m ok, AmtIs (readZ s.data.toList) x m ok → (∃ (x' : ByteArray) (m' ok' : Bool), Ending.returned (.tuple #[.string x, .bool m, .bool ok]) = .returned (.tuple #[.string x', .bool m', .bool ok']) ∧ R x' m' ok')) := Lib.hid (fun x m ok h => ⟨x, m, ok, rfl, by rw [hR]; exact h⟩)
  rw [← hR]
  clear hR
  have hbl := fun h => bt_list s 0 h
  have hel := empty_list s
  by_cases hz : s.size = 0
  · have HSGP : Sgnd s s false := .inr ⟨by
      have : s.data.toList = [] := List.eq_nil_of_length_eq_zero (by simpa using hz)
      rw [this]; simp, rfl, rfl⟩
    have HFZP := hs
    have g0 : decide (0 < s.size) = false := decide_eq_false (by omega)
    clear hz hbl hel
    have HSG : Hid (Sgnd s s false) := Lib.hid HSGP
    have HFZ : s.size ≤ 4000 := HFZP
    have C := Lib.hid (fun W => ref3Plain_any s (by omega) W)
    clear HSGP HFZP
    by_cases hp : plainB s = true
    · have HP := Lib.hid hp
      rw [hp] at C
      by_cases hl : 160 < s.size
      · have HE := Lib.hid (HEND.out _ _ _ (amt_long HSG.out hp hl))
        clear hp HEND
        have g : decide ((160 : Int) < ((s.size : Nat) : Int)) = true := decide_eq_true (by omega)
        go_enter Tryd.func39, Tryd.ntmps39
        go_wp2_with fail
        refine (C.out _).mono ?_
        rintro _ _ ⟨rfl, rfl⟩
        go_wp2
        go_ret3
        exact ⟨HE.out, rfl⟩
      · have g : decide ((160 : Int) < ((s.size : Nat) : Int)) = false := decide_eq_false (by omega)
        have HE := Lib.hid (HEND.out _ _ _ (amt_some HSG.out hp (by omega) (fun h => by cases h)))
        clear hp HEND
        go_enter Tryd.func39, Tryd.ntmps39
        go_wp2_with fail
        refine (C.out _).mono ?_
        rintro _ _ ⟨rfl, rfl⟩
        go_wp2
        go_ret3
        exact ⟨HE.out, rfl⟩
    · have hp := Bool.not_eq_true _ |>.mp hp
      have HE := Lib.hid (HEND.out _ _ _ (amt_no_plain HSG.out hp))
      rw [hp] at C
      clear hp HEND
      go_enter Tryd.func39, Tryd.ntmps39
      go_wp2_with fail
      refine (C.out _).mono ?_
      rintro _ _ ⟨rfl, rfl⟩
      go_wp2
      go_ret3
      exact ⟨HE.out, rfl⟩
  have hz0 : 0 < s.size := by omega
  have hb0 := hbl hz0
  have g0 : decide (0 < s.size) = true := decide_eq_true hz0
  have eb := bt_eq s 0 hz0
  have hlt := bt_lt s 0
  have hhead : s.data.toList.head? = some (UInt8.ofNat (bt s 0)) := by
    rw [List.head?_eq_getElem?]; exact hb0
  clear hbl hel hb0
  by_cases h45 : bt s 0 = 45
  · have g1 : (((s[0].toNat : Nat) : Int) == 45) = true := by rw [← eb, h45]; rfl
    have HSGP : Sgnd s (s.extract 1 s.size) true := .inl ⟨by rw [hhead, h45]; rfl, Lib.extract_to_end s 1, rfl⟩
    have HFZP : (s.extract 1 s.size).size ≤ 4000 := by rw [ByteArray.size_extract]; omega
    clear hhead h45 eb hlt hz
    have HSG : Hid (Sgnd s (s.extract 1 s.size) true) := Lib.hid HSGP
    have HFZ : (s.extract 1 s.size).size ≤ 4000 := HFZP
    have C := Lib.hid (fun W => ref3Plain_any (s.extract 1 s.size) (by omega) W)
    clear HSGP HFZP
    by_cases hp : plainB (s.extract 1 s.size) = true
    · have HP := Lib.hid hp
      rw [hp] at C
      by_cases hl : 160 < (s.extract 1 s.size).size
      · have HE := Lib.hid (HEND.out _ _ _ (amt_long HSG.out hp hl))
        clear hp HEND
        have g : decide ((160 : Int) < (((s.size - 1) : Nat) : Int)) = true := decide_eq_true (by rw [ByteArray.size_extract] at hl; omega)
        go_enter Tryd.func39, Tryd.ntmps39
        go_wp2_with fail
        refine (C.out _).mono ?_
        rintro _ _ ⟨rfl, rfl⟩
        go_wp2
        go_ret3
        exact ⟨HE.out, rfl⟩
      · have g : decide ((160 : Int) < (((s.size - 1) : Nat) : Int)) = false := decide_eq_false (by rw [ByteArray.size_extract] at hl; omega)
        by_cases h0 : ((s.extract 1 s.size).toList == [48]) = true
        · have HE := Lib.hid (HEND.out _ _ _ (amt_nought HSG.out rfl hp h0))
          clear hp HEND
          go_enter Tryd.func39, Tryd.ntmps39
          go_wp2_with fail
          refine (C.out _).mono ?_
          rintro _ _ ⟨rfl, rfl⟩
          go_wp2
          go_ret3
          exact ⟨HE.out, rfl⟩
        · have h0 := Bool.not_eq_true _ |>.mp h0
          have HE := Lib.hid (HEND.out _ _ _ (amt_some HSG.out hp (by omega) (fun _ => h0)))
          clear hp HEND
          go_enter Tryd.func39, Tryd.ntmps39
          go_wp2_with fail
          refine (C.out _).mono ?_
          rintro _ _ ⟨rfl, rfl⟩
          go_wp2
          go_ret3
          exact ⟨HE.out, rfl⟩
    · have hp := Bool.not_eq_true _ |>.mp hp
      have HE := Lib.hid (HEND.out _ _ _ (amt_no_plain HSG.out hp))
      rw [hp] at C
      clear hp HEND
      go_enter Tryd.func39, Tryd.ntmps39
      go_wp2_with fail
      refine (C.out _).mono ?_
      rintro _ _ ⟨rfl, rfl⟩
      go_wp2
      go_ret3
      exact ⟨HE.out, rfl⟩
  · have g1 : (((s[0].toNat : Nat) : Int) == 45) = false := beq_eq_false_iff_ne.2 (by rw [← eb]; omega)
    have HSGP : Sgnd s s false := .inr ⟨by
      rw [hhead]
      intro h
      have := congrArg UInt8.toNat (Option.some.inj h)
      have h45' : (45 : UInt8).toNat = 45 := rfl
      simp at this
      omega, rfl, rfl⟩
    have HFZP := hs
    clear hhead h45 eb hlt hz
    have HSG : Hid (Sgnd s s false) := Lib.hid HSGP
    have HFZ : s.size ≤ 4000 := HFZP
    have C := Lib.hid (fun W => ref3Plain_any s (by omega) W)
    clear HSGP HFZP
    by_cases hp : plainB s = true
    · have HP := Lib.hid hp
      rw [hp] at C
      by_cases hl : 160 < s.size
      · have HE := Lib.hid (HEND.out _ _ _ (amt_long HSG.out hp hl))
        clear hp HEND
        have g : decide ((160 : Int) < ((s.size : Nat) : Int)) = true := decide_eq_true (by omega)
        go_enter Tryd.func39, Tryd.ntmps39
        go_wp2_with fail
        refine (C.out _).mono ?_
        rintro _ _ ⟨rfl, rfl⟩
        go_wp2
        go_ret3
        exact ⟨HE.out, rfl⟩
      · have g : decide ((160 : Int) < ((s.size : Nat) : Int)) = false := decide_eq_false (by omega)
        have HE := Lib.hid (HEND.out _ _ _ (amt_some HSG.out hp (by omega) (fun h => by cases h)))
        clear hp HEND
        go_enter Tryd.func39, Tryd.ntmps39
        go_wp2_with fail
        refine (C.out _).mono ?_
        rintro _ _ ⟨rfl, rfl⟩
        go_wp2
        go_ret3
        exact ⟨HE.out, rfl⟩
    · have hp := Bool.not_eq_true _ |>.mp hp
      have HE := Lib.hid (HEND.out _ _ _ (amt_no_plain HSG.out hp))
      rw [hp] at C
      clear hp HEND
      go_enter Tryd.func39, Tryd.ntmps39
      go_wp2_with fail
      refine (C.out _).mono ?_
      rintro _ _ ⟨rfl, rfl⟩
      go_wp2
      go_ret3
      exact ⟨HE.out, rfl⟩

/-! ### Right -/
theorem right_some {r : Option Int} {x : ByteArray} {m : Bool} {n : Nat} (h : r = if limN ≤ n then none else some (if m then -(n : Int) else n)) : decide (n < limN) = r.isSome := by
  rw [h]
  by_cases h1 : limN ≤ n
  · rw [if_pos h1, decide_eq_false (by omega)]; rfl
  · rw [if_neg h1, decide_eq_true (by omega)]; rfl
set_option maxHeartbeats 2000000 in
set_option maxRecDepth 100000 in
theorem refRight_any (s : ByteArray) (hs : s.size ≤ 4000) (w : World) : Calls Tryd.prog 22 #[.string s] w fun e w' => e = .returned (.bool (readZ s.data.toList).isSome) ∧ Below w.heap.size w w' := by
  have CA := Lib.hid (refAmount_any s hs w)
  generalize readZ s.data.toList = r at *
  go_enter Tryd.func22, Tryd.ntmps22
  go_wp2_with fail
  refine CA.out.mono ?_
  rintro _ _ ⟨⟨x, m, ok, rfl, hx⟩, rfl⟩
  clear CA
  rcases hx with ⟨rfl, rfl⟩ | ⟨rfl, n, hx, hxl, hm, hr⟩
  · go_wp2
    go_ret
    exact ⟨rfl, Below.refl _ _⟩
  · have HR := Lib.hid (right_some (x := x) hr)
    have HX := Lib.hid hx
    have CL := Lib.hid (refLimit_any w)
    clear hx hr hm
    go_wp2_with fail
    refine CL.out.mono ?_
    rintro _ w1 ⟨rfl, hb⟩
    have HB := Lib.hid hb
    have CB := Lib.hid (refBelow_any x ⟨(Lib.decDigits limN).toArray⟩ n limN HX.out rfl w1)
    clear hb CL
    go_wp2_with fail
    refine CB.out.mono ?_
    rintro _ _ ⟨rfl, rfl⟩
    go_wp2
    go_ret
    exact ⟨congrArg (fun b => Ending.returned (Value.bool b)) HR.out, HB.out⟩
end Go.Proofs.YtpdkebljacmgfaaDoor
