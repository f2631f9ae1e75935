/- The document's texts: part. -/
import Derived.Test.YtijinpnbhnfiiaaDoorLit36
import Derived.Test.YtijinpnbhnfiiaaDoorLit37
namespace Go.Proofs.YtijinpnbhnfiiaaDoor
open Go.RowKit
set_option linter.unusedVariables false

def fromL : List Nat := [97, 98, 102, 110, 114, 116, 118, 92, 34]
def toL : List UInt8 := [7, 8, 12, 10, 13, 9, 11, 92, 34]
def fromT : ByteArray := ⟨#[97, 98, 102, 110, 114, 116, 118, 92, 34]⟩
/-- What a sign behind a stroke stands for. -/
def stkB (c : Nat) : Option UInt8 := if c = 97 then some 7 else if c = 98 then some 8 else if c = 102 then some 12 else if c = 110 then some 10 else if c = 114 then some 13 else if c = 116 then some 9 else if c = 118 then some 11 else if c = 92 then some 92 else if c = 34 then some 34 else none
def oneB (o : Option Nat) : ByteArray × Nat := match o with
  | some v => if v < 256 then (⟨#[UInt8.ofNat v]⟩, 3) else (⟨#[]⟩, 0)
  | none => (⟨#[]⟩, 0)
def uniB (n : Nat) (o : Option Nat) : ByteArray × Nat := match o with
  | some v => if (signB v).size = 0 then (⟨#[]⟩, 0) else (signB v, n + 1)
  | none => (⟨#[]⟩, 0)
/-- A part behind a stroke: its bytes, its length. -/
def partB (s : ByteArray) (p : Nat) : ByteArray × Nat :=
  if p = s.size then (⟨#[]⟩, 0)
  else match stkB (bt s p) with
    | some d => (⟨#[d]⟩, 1)
    | none => if bt s p = 120 then oneB (valO s 16 (p + 1) 2)
      else if bt s p = 117 then uniB 4 (valO s 16 (p + 1) 4)
      else if bt s p = 85 then uniB 8 (valO s 16 (p + 1) 8)
      else oneB (valO s 8 p 3)
theorem stroke_at : ∀ i : Fin 9, stkB (fromL.getD i.val 0) = some (toL.getD i.val 0) := by decide
theorem stroke_none (c : Nat) (h : ∀ i, i < 9 → fromL.getD i 0 ≠ c) : stkB c = none := by
  have a0 := h 0 (by omega)
  have a1 := h 1 (by omega)
  have a2 := h 2 (by omega)
  have a3 := h 3 (by omega)
  have a4 := h 4 (by omega)
  have a5 := h 5 (by omega)
  have a6 := h 6 (by omega)
  have a7 := h 7 (by omega)
  have a8 := h 8 (by omega)
  simp [fromL] at a0 a1 a2 a3 a4 a5 a6 a7 a8
  unfold stkB
  rw [if_neg (by omega), if_neg (by omega), if_neg (by omega), if_neg (by omega), if_neg (by omega), if_neg (by omega), if_neg (by omega), if_neg (by omega), if_neg (by omega)]
def PartEnd (w : World) (r : ByteArray × Nat) (e : Ending) (w' : World) : Prop := ∃ a cap, e = .returned (.tuple #[.slice a r.1.size cap, .int .i64 r.2]) ∧ Text w' a r.1 ∧ Below w.heap.size w w'
theorem part_nil {w w' : World} (h : Below w.heap.size w w') : PartEnd w (⟨#[]⟩, 0) (.returned (.tuple #[.slice none 0 0, .int .i64 0])) w' := ⟨none, 0, rfl, .inl rfl, h⟩
theorem from_byte (i : Nat) (h : i < fromT.size) : (fromT[i]).toNat = fromL.getD i 0 := by
  have : ∀ k : Fin 9, (fromT.data.getD k.val 0).toNat = fromL.getD k.val 0 := by decide
  rw [← this ⟨i, h⟩]
  show (fromT.data[i]).toNat = _
  rw [Array.getD_eq_getD_getElem?, Array.getElem?_eq_getElem (show i < fromT.data.size from h)]
  rfl

theorem to_byte (i : Nat) (h : i < (ByteArray.mk toL.toArray).size) : (ByteArray.mk toL.toArray)[i] = toL.getD i 0 := by
  have h2 : i < toL.length := h
  show toL.toArray[i] = _
  rw [List.getElem_toArray, List.getD_eq_getElem?_getD, List.getElem?_eq_getElem h2]
  rfl
theorem part_one {w wr : World} (h : Below w.heap.size w wr) (v : Nat) (hv : v < 256) (T : TypeId) : PartEnd w (⟨#[UInt8.ofNat v]⟩, 3) (.returned (.tuple #[.slice (some ⟨wr.heap.size, 0, none⟩) 1 1, .int .i64 3])) (wr.alloc (.cells #[.int .u8 v] T)) := by
  refine ⟨_, 1, rfl, text_fresh wr [UInt8.ofNat v] _ T ?_, h.alloc h.size _⟩
  show _ = #[_]
  dsimp only
  rw [byte_val v hv]
theorem part_stroke {w wr : World} (h : Below w.heap.size w wr) (hz : w.heap.size < wr.heap.size) (ht : Text wr (some ⟨w.heap.size, 0, none⟩) ⟨toL.toArray⟩) (i nq : Nat) (hi : i < 9) : PartEnd w (⟨#[toL.getD i 0]⟩, 1) (.returned (.tuple #[.slice (some ⟨w.heap.size, i, none⟩) 1 (9 - i), .int .i64 1])) (wr.drewN nq) := by
  refine ⟨some ⟨w.heap.size, i, none⟩, 9 - i, rfl, .inr ⟨w.heap.size, i, rfl, hz, fun k hk => ?_⟩, Go.Proofs.YtijinpnbhnfiiaaDoor.Below.drewN h nq⟩
  obtain rfl : k = 0 := by
    have : k < 1 := hk
    omega
  rcases ht with h | ⟨b, o, e, hlt, hb⟩
  · exact absurd h (by decide)
  injection e with e
  injection e with e1 e2
  subst e1 e2
  have hc := hb i hi
  rw [to_byte i hi, Nat.zero_add] at hc
  exact hc

set_option maxHeartbeats 2000000 in
set_option maxRecDepth 1000000 in
theorem refPart_any (s : ByteArray) (p : Nat) (hs : s.size ≤ 500) (hp : p ≤ s.size) (w : World) : Calls Tryd.prog 23 #[.string s, .int .i64 p] w fun e w' => PartEnd w (partB s p) e w' := by
  have HP : Hid (partB s p = if p = s.size then (⟨#[]⟩, 0)
  else match stkB (bt s p) with
    | some d => (⟨#[d]⟩, 1)
    | none => if bt s p = 120 then oneB (valO s 16 (p + 1) 2)
      else if bt s p = 117 then uniB 4 (valO s 16 (p + 1) 4)
      else if bt s p = 85 then uniB 8 (valO s 16 (p + 1) 8)
      else oneB (valO s 8 p 3)) := rfl
  by_cases h0 : p = s.size
  · have HE : Hid (partB s p = (⟨#[]⟩, 0)) := by show _ = _; rw [HP.out, if_pos h0]
    have g0 : ((p : Int) == (s.size : Int)) = true := by rw [h0]; exact beq_self_eq_true _
    clear h0
    go_enter Tryd.func23, Tryd.ntmps23
    go_wp2
    go_ret2
    rw [HE.out]
    exact part_nil (Below.refl _ w)
  have g0 : ((p : Int) == (s.size : Int)) = false := beq_eq_false_iff_ne.2 (by omega)
  have hlt : p < s.size := by omega
  have eb := bt_eq s p hlt
  have lb := bt_lt s p
  have lu : s[p].toNat < 256 := by rw [← eb]; exact lb
  have HQ : Hid (partB s p = match stkB (bt s p) with
    | some d => (⟨#[d]⟩, 1)
    | none => if bt s p = 120 then oneB (valO s 16 (p + 1) 2)
      else if bt s p = 117 then uniB 4 (valO s 16 (p + 1) 4)
      else if bt s p = 85 then uniB 8 (valO s 16 (p + 1) 8)
      else oneB (valO s 8 p 3)) := by show _ = _; rw [HP.out, if_neg h0]
  have HEB := Lib.hid eb
  clear HP h0 eb
  go_enter Tryd.func23, Tryd.ntmps23
  go_wp2
  have HT := Lib.hid (text_fresh w toL _ 5 rfl)
  have HB := Lib.hid ((Below.refl _ w).alloc (Nat.le_refl _) (.cells (toL.map fun b => Value.int .u8 (b.toNat : Int)).toArray 5))
  have hz : w.heap.size < (w.alloc (.cells (toL.map fun b => Value.int .u8 (b.toNat : Int)).toArray 5)).heap.size := by simp
  go_loopw [8] (fun v wr => ∃ i : Nat, v = .int .i64 i ∧ i ≤ 9 ∧ w.heap.size < wr.heap.size ∧ Hid (∀ j, j < i → fromL.getD j 0 ≠ bt s p) ∧ Hid (Text wr (some ⟨w.heap.size, 0, none⟩) ⟨toL.toArray⟩) ∧ Hid (Below w.heap.size w wr)) (fun v _ => 9 - (intOf v).toNat)
  case atStart => exact ⟨0, rfl, by omega, hz, fun j hj => absurd hj (by omega), HT.out, HB.out⟩
  case round =>
    obtain ⟨i, rfl, hi, hzr, HN, HTr, HBr⟩ := hrel
    clear HT HB hz
    by_cases hi9 : i < 9
    · have gi : decide (i < 9) = true := decide_eq_true hi9
      go_wp2_with fail
      go_quiet (fail)
      go_wp2
      · rename_i hq
        have e : ((s[p].toNat : Nat) : Int) = ((fromT[i]'hi9 : UInt8).toNat : Int) := eq_of_beq hq
        rw [from_byte i hi9, ← HEB.out] at e
        have st := stroke_at ⟨i, hi9⟩
        have HE : Hid (partB s p = (⟨#[toL.getD i 0]⟩, 1)) := by
          show _ = _
          rw [HQ.out, show bt s p = fromL.getD i 0 from by omega, st]
        clear st e hq
        go_ret2
        rw [HE.out]
        exact part_stroke HBr.out hzr HTr.out i nq hi9
      · rename_i hq
        have e : ¬ ((s[p].toNat : Nat) : Int) = ((fromT[i]'hi9 : UInt8).toNat : Int) := ne_of_beq_false hq
        rw [from_byte i hi9, ← HEB.out] at e
        go_roundw
        case rel =>
          refine ⟨i + 1, by go_num, hi9, hzr, fun j hj => ?_, HTr.out.below (below_drewN _ nq), Go.Proofs.YtijinpnbhnfiiaaDoor.Below.drewN HBr.out nq⟩
          by_cases hji : j = i
          · subst hji; omega
          · exact HN.out j (by omega)
        case measure => simp [intOf]; omega
    · have gi : decide (i < 9) = false := decide_eq_false hi9
      have hN : Hid (stkB (bt s p) = none) := stroke_none _ fun j hj => HN.out j (by omega)
      by_cases h120 : bt s p = 120
      · have HF : Hid (partB s p = oneB (valO s 16 (p + 1) 2)) := by show _ = _; rw [HQ.out, hN.out]; show (if _ then _ else _) = _; rw [if_pos h120]
        have q1 : (((s[p].toNat : Nat) : Int) == 120) = true := by rw [← HEB.out, h120]; rfl
        clear h120
        have hV := fun W => refValue_any s (p + 1) 2 16 (.inr rfl) (by omega) (by omega) hs W
        clear HQ HN hN lb
        rcases ho : valO s 16 (p + 1) 2 with _ | v
        · have HE : Hid (partB s p = (⟨#[]⟩, 0)) := by show _ = _; rw [HF.out, ho]; rfl
          have HV : Hid (∀ W, Calls Tryd.prog 39 #[.string s, .int .i64 ((p : Int) + 1), .int .i64 2, .int .i64 16] W fun e w' => e = .returned (.int .i64 (-1)) ∧ W = w') := fun W => by
            have := hV W
            rw [ho] at this
            exact this
          clear hV HF
          go_wp2_with fail
          refine (HV.out _).mono ?_
          rintro e w1 ⟨rfl, rfl⟩
          go_wp2
          go_ret2
          rw [HE.out]
          exact part_nil HBr.out
        · have HV : Hid (∀ W, Calls Tryd.prog 39 #[.string s, .int .i64 ((p : Int) + 1), .int .i64 2, .int .i64 16] W fun e w' => e = .returned (.int .i64 v) ∧ W = w') := fun W => by
            have := hV W
            rw [ho] at this
            exact this
          have HF2 : Hid (partB s p = if v < 256 then (⟨#[UInt8.ofNat v]⟩, 3) else (⟨#[]⟩, 0)) := by show _ = _; rw [HF.out, ho]; rfl
          have hv : v < 4294967296 := by
            rw [valO] at ho
            by_cases h : s.size < p + 1 + 2
            · rw [if_pos h] at ho; exact absurd ho (by simp)
            · rw [if_neg h] at ho
              exact Nat.lt_of_lt_of_le (valF_lt s 16 (by omega) 2 (p + 1) 0 0 (by decide) v ho) (by decide)
          have hv2 : v < 256 := by
            rw [valO] at ho
            by_cases h : s.size < p + 1 + 2
            · rw [if_pos h] at ho; exact absurd ho (by simp)
            · rw [if_neg h] at ho
              exact valF_lt s 16 (by omega) 2 (p + 1) 0 0 (by decide) v ho
          clear hV HF ho
          by_cases hvb : v < 256
          · have HE : Hid (partB s p = (⟨#[UInt8.ofNat v]⟩, 3)) := by show _ = _; rw [HF2.out, if_pos hvb]
            clear HF2
            go_wp2_with fail
            refine (HV.out _).mono ?_
            rintro e w1 ⟨rfl, rfl⟩
            go_wp2
            go_ret2
            rw [HE.out]
            exact part_one HBr.out v hvb _
          · exact absurd hv2 hvb
      by_cases hc117 : bt s p = 117
      · have HF : Hid (partB s p = uniB 4 (valO s 16 (p + 1) 4)) := by show _ = _; rw [HQ.out, hN.out]; show (if _ then _ else _) = _; rw [if_neg (by omega), if_pos hc117]
        have q1 : (((s[p].toNat : Nat) : Int) == 120) = false := by rw [← HEB.out, hc117]; rfl
        have q2 : (((s[p].toNat : Nat) : Int) == 117) = true := by rw [← HEB.out, hc117]; rfl
        have q3 : (((s[p].toNat : Nat) : Int) == 85) = false := by rw [← HEB.out, hc117]; rfl
        have hV := fun W => refValue_any s (p + 1) 4 16 (.inr rfl) (by omega) (by omega) hs W
        clear HQ HN hN h120 hc117 lb
        rcases ho : valO s 16 (p + 1) 4 with _ | v
        · have HE : Hid (partB s p = (⟨#[]⟩, 0)) := by show _ = _; rw [HF.out, ho]; rfl
          have HV : Hid (∀ W, Calls Tryd.prog 39 #[.string s, .int .i64 ((p : Int) + 1), .int .i64 4, .int .i64 16] W fun e w' => e = .returned (.int .i64 (-1)) ∧ W = w') := fun W => by
            have := hV W
            rw [ho] at this
            exact this
          clear hV HF
          go_wp2_with fail
          refine (HV.out _).mono ?_
          rintro e w1 ⟨rfl, rfl⟩
          go_wp2_with fail
          refine (refSign_none wr).mono ?_
          rintro e w1 ⟨rfl, rfl⟩
          go_wp2
          go_ret2
          rw [HE.out]
          exact part_nil HBr.out
        · have hv : v < 4294967296 := by
            rw [valO] at ho
            by_cases h : s.size < p + 1 + 4
            · rw [if_pos h] at ho; exact absurd ho (by simp)
            · rw [if_neg h] at ho
              exact Nat.lt_of_lt_of_le (valF_lt s 16 (by omega) 4 (p + 1) 0 0 (by decide) v ho) (by decide)
          have HV : Hid (∀ W, Calls Tryd.prog 39 #[.string s, .int .i64 ((p : Int) + 1), .int .i64 4, .int .i64 16] W fun e w' => e = .returned (.int .i64 v) ∧ W = w') := fun W => by
            have := hV W
            rw [ho] at this
            exact this
          have HS := Lib.hid (fun W => refSign_any v hv W)
          have HF2 : Hid (partB s p = if (signB v).size = 0 then (⟨#[]⟩, 0) else (signB v, 4 + 1)) := by show _ = _; rw [HF.out, ho]; rfl
          clear hV HF ho
          generalize signB v = b at *
          by_cases hb : b.size = 0
          · have HE : Hid (partB s p = (⟨#[]⟩, 0)) := by show _ = _; rw [HF2.out, if_pos hb]
            have gb : decide (0 < b.size) = false := decide_eq_false (by omega)
            clear HF2 hb
            go_wp2_with fail
            refine (HV.out _).mono ?_
            rintro e w1 ⟨rfl, rfl⟩
            go_wp2_with fail
            refine (HS.out wr).mono ?_
            rintro e w2 ⟨a, cap, rfl, ht, hb2⟩
            have HB2 := Lib.hid (HBr.out.trans (hb2.mono HBr.out.size))
            clear hb2 ht
            go_wp2
            go_ret2
            rw [HE.out]
            exact part_nil HB2.out
          · have HE : Hid (partB s p = (b, 4 + 1)) := by show _ = _; rw [HF2.out, if_neg hb]
            have gb : decide (0 < b.size) = true := decide_eq_true (by omega)
            clear HF2 hb
            go_wp2_with fail
            refine (HV.out _).mono ?_
            rintro e w1 ⟨rfl, rfl⟩
            go_wp2_with fail
            refine (HS.out wr).mono ?_
            rintro e w2 ⟨a, cap, rfl, ht, hb2⟩
            have HB2 := Lib.hid (HBr.out.trans (hb2.mono HBr.out.size))
            have HT2 := Lib.hid ht
            clear hb2 ht
            go_wp2
            go_ret2
            rw [HE.out]
            exact ⟨a, cap, rfl, HT2.out, HB2.out⟩
      by_cases hc85 : bt s p = 85
      · have HF : Hid (partB s p = uniB 8 (valO s 16 (p + 1) 8)) := by show _ = _; rw [HQ.out, hN.out]; show (if _ then _ else _) = _; rw [if_neg (by omega), if_neg (by omega), if_pos hc85]
        have q1 : (((s[p].toNat : Nat) : Int) == 120) = false := by rw [← HEB.out, hc85]; rfl
        have q2 : (((s[p].toNat : Nat) : Int) == 117) = false := by rw [← HEB.out, hc85]; rfl
        have q3 : (((s[p].toNat : Nat) : Int) == 85) = true := by rw [← HEB.out, hc85]; rfl
        have hV := fun W => refValue_any s (p + 1) 8 16 (.inr rfl) (by omega) (by omega) hs W
        clear HQ HN hN h120 hc117 hc85 lb
        rcases ho : valO s 16 (p + 1) 8 with _ | v
        · have HE : Hid (partB s p = (⟨#[]⟩, 0)) := by show _ = _; rw [HF.out, ho]; rfl
          have HV : Hid (∀ W, Calls Tryd.prog 39 #[.string s, .int .i64 ((p : Int) + 1), .int .i64 8, .int .i64 16] W fun e w' => e = .returned (.int .i64 (-1)) ∧ W = w') := fun W => by
            have := hV W
            rw [ho] at this
            exact this
          clear hV HF
          go_wp2_with fail
          refine (HV.out _).mono ?_
          rintro e w1 ⟨rfl, rfl⟩
          go_wp2_with fail
          refine (refSign_none wr).mono ?_
          rintro e w1 ⟨rfl, rfl⟩
          go_wp2
          go_ret2
          rw [HE.out]
          exact part_nil HBr.out
        · have hv : v < 4294967296 := by
            rw [valO] at ho
            by_cases h : s.size < p + 1 + 8
            · rw [if_pos h] at ho; exact absurd ho (by simp)
            · rw [if_neg h] at ho
              exact Nat.lt_of_lt_of_le (valF_lt s 16 (by omega) 8 (p + 1) 0 0 (by decide) v ho) (by decide)
          have HV : Hid (∀ W, Calls Tryd.prog 39 #[.string s, .int .i64 ((p : Int) + 1), .int .i64 8, .int .i64 16] W fun e w' => e = .returned (.int .i64 v) ∧ W = w') := fun W => by
            have := hV W
            rw [ho] at this
            exact this
          have HS := Lib.hid (fun W => refSign_any v hv W)
          have HF2 : Hid (partB s p = if (signB v).size = 0 then (⟨#[]⟩, 0) else (signB v, 8 + 1)) := by show _ = _; rw [HF.out, ho]; rfl
          clear hV HF ho
          generalize signB v = b at *
          by_cases hb : b.size = 0
          · have HE : Hid (partB s p = (⟨#[]⟩, 0)) := by show _ = _; rw [HF2.out, if_pos hb]
            have gb : decide (0 < b.size) = false := decide_eq_false (by omega)
            clear HF2 hb
            go_wp2_with fail
            refine (HV.out _).mono ?_
            rintro e w1 ⟨rfl, rfl⟩
            go_wp2_with fail
            refine (HS.out wr).mono ?_
            rintro e w2 ⟨a, cap, rfl, ht, hb2⟩
            have HB2 := Lib.hid (HBr.out.trans (hb2.mono HBr.out.size))
            clear hb2 ht
            go_wp2
            go_ret2
            rw [HE.out]
            exact part_nil HB2.out
          · have HE : Hid (partB s p = (b, 8 + 1)) := by show _ = _; rw [HF2.out, if_neg hb]
            have gb : decide (0 < b.size) = true := decide_eq_true (by omega)
            clear HF2 hb
            go_wp2_with fail
            refine (HV.out _).mono ?_
            rintro e w1 ⟨rfl, rfl⟩
            go_wp2_with fail
            refine (HS.out wr).mono ?_
            rintro e w2 ⟨a, cap, rfl, ht, hb2⟩
            have HB2 := Lib.hid (HBr.out.trans (hb2.mono HBr.out.size))
            have HT2 := Lib.hid ht
            clear hb2 ht
            go_wp2
            go_ret2
            rw [HE.out]
            exact ⟨a, cap, rfl, HT2.out, HB2.out⟩
      · have HF : Hid (partB s p = oneB (valO s 8 p 3)) := by show _ = _; rw [HQ.out, hN.out]; show (if _ then _ else _) = _; rw [if_neg h120, if_neg hc117, if_neg hc85]
        have q1 : (((s[p].toNat : Nat) : Int) == 120) = false := by rw [← HEB.out]; exact beq_eq_false_iff_ne.2 (by omega)
        have q2 : (((s[p].toNat : Nat) : Int) == 117) = false := by rw [← HEB.out]; exact beq_eq_false_iff_ne.2 (by omega)
        have q3 : (((s[p].toNat : Nat) : Int) == 85) = false := by rw [← HEB.out]; exact beq_eq_false_iff_ne.2 (by omega)
        clear h120 hc117 hc85
        have hV := fun W => refValue_any s (p) 3 8 (.inl rfl) (by omega) (by omega) hs W
        clear HQ HN hN lb
        rcases ho : valO s 8 (p) 3 with _ | v
        · have HE : Hid (partB s p = (⟨#[]⟩, 0)) := by show _ = _; rw [HF.out, ho]; rfl
          have HV : Hid (∀ W, Calls Tryd.prog 39 #[.string s, .int .i64 ((p : Int)), .int .i64 3, .int .i64 8] W fun e w' => e = .returned (.int .i64 (-1)) ∧ W = w') := fun W => by
            have := hV W
            rw [ho] at this
            exact this
          clear hV HF
          go_wp2_with fail
          refine (HV.out _).mono ?_
          rintro e w1 ⟨rfl, rfl⟩
          go_wp2
          go_ret2
          rw [HE.out]
          exact part_nil HBr.out
        · have HV : Hid (∀ W, Calls Tryd.prog 39 #[.string s, .int .i64 ((p : Int)), .int .i64 3, .int .i64 8] W fun e w' => e = .returned (.int .i64 v) ∧ W = w') := fun W => by
            have := hV W
            rw [ho] at this
            exact this
          have HF2 : Hid (partB s p = if v < 256 then (⟨#[UInt8.ofNat v]⟩, 3) else (⟨#[]⟩, 0)) := by show _ = _; rw [HF.out, ho]; rfl
          have hv : v < 4294967296 := by
            rw [valO] at ho
            by_cases h : s.size < p + 3
            · rw [if_pos h] at ho; exact absurd ho (by simp)
            · rw [if_neg h] at ho
              exact Nat.lt_of_lt_of_le (valF_lt s 8 (by omega) 3 (p) 0 0 (by decide) v ho) (by decide)
          clear hV HF ho
          by_cases hvb : v < 256
          · have HE : Hid (partB s p = (⟨#[UInt8.ofNat v]⟩, 3)) := by show _ = _; rw [HF2.out, if_pos hvb]
            clear HF2
            go_wp2_with fail
            refine (HV.out _).mono ?_
            rintro e w1 ⟨rfl, rfl⟩
            go_wp2
            go_ret2
            rw [HE.out]
            exact part_one HBr.out v hvb _
          · have HE : Hid (partB s p = (⟨#[]⟩, 0)) := by show _ = _; rw [HF2.out, if_neg hvb]
            clear HF2
            go_wp2_with fail
            refine (HV.out _).mono ?_
            rintro e w1 ⟨rfl, rfl⟩
            go_wp2
            go_ret2
            rw [HE.out]
            exact part_nil HBr.out
end Go.Proofs.YtijinpnbhnfiiaaDoor
