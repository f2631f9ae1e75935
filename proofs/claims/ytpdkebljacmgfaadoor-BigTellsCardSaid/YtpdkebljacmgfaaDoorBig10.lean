/- package big: an amount's figures. -/
import Derived.Test.YtpdkebljacmgfaaDoorBig9
import Derived.Lib.IndexBytes
namespace Go.Proofs.YtpdkebljacmgfaaDoor
open Go.RowKit
set_option linter.unusedVariables false

theorem Bld.below {B b : Nat} {bs : List Value} {w W : World} (h : Bld B b bs w) (hb : Below w.heap.size w W) : Bld B b bs W := by
  have key : ∀ p, Lib.BuilderAt 77 5 B b p bs w → Lib.BuilderAt 77 5 B b p bs W := fun p ⟨h1, v, h2, h3, h4⟩ => by
    refine ⟨h1, v, (hb.block b (lt_of_block h2)).trans h2, ⟨h3.1, ?_⟩, h4⟩
    rcases h3.2 with e | ⟨g, cap, cur, e, hg, hh, r⟩
    · exact .inl e
    · exact .inr ⟨g, cap, cur, e, hg, (hb.block g (lt_of_block hh)).trans hh, r⟩
  rcases h with h | h
  · exact .inl (key _ h)
  · exact .inr (key _ h)
theorem bytes_app (l m : List UInt8) : Lib.byteCells (l ++ m) = Lib.byteCells l ++ Lib.byteCells m := List.map_append
theorem str_bytes (s : ByteArray) : Lib.strCells s = Lib.byteCells s.data.toList := rfl
abbrev nought9 : ByteArray := ⟨#[48, 48, 48, 48, 48, 48, 48, 48, 48]⟩
theorem nought_from (k : Nat) (h : k ≤ 9) : (nought9.extract k 9).data.toList = List.replicate (9 - k) 48 ∧ (nought9.extract k 9).size = 9 - k := by
  have e : (nought9.extract k 9).data.toList = (nought9.data.toList.drop k).take (9 - k) := by
    have := Lib.extract_to_end nought9 k
    rw [show nought9.size = 9 from rfl] at this
    rw [this, List.take_of_length_le]
    rw [List.length_drop]
    exact Nat.le_refl _
  have e2 : nought9.data.toList = List.replicate 9 48 := rfl
  rw [e2, List.drop_replicate, List.take_replicate, Nat.min_self] at e
  refine ⟨e, ?_⟩
  have := congrArg List.length e
  rw [List.length_replicate] at this
  exact this

set_option maxHeartbeats 2000000 in
set_option maxRecDepth 100000 in
theorem text_any (n : Nat) (a : Option Addr) (cap : Nat) (w : World) (hr : RowAt w a (dgs n)) (hn : (dgs n).length ≤ 1000) (htab : Tab w) :
    Calls Tryd.prog 45 #[.slice a (dgs n).length cap] w fun e w' => e = .returned (.string ⟨(Lib.decDigits n).toArray⟩) ∧ Below w.heap.size w w' := by
  obtain ⟨m, hm⟩ : ∃ m, m = (dgs n).length := ⟨_, rfl⟩
  rw [← hm] at hn ⊢
  by_cases h0 : m = 0
  · have : n = 0 := dgs_nil (by omega)
    subst this
    subst h0
    have e : Lib.decDigits 0 = [48] := Lib.decDigits_one (by omega)
    rw [e]
    clear e hm
    go_enter Tryd.func45, Tryd.ntmps45
    go_wp2
    go_ret
    exact ⟨rfl, Below.refl _ _⟩
  have hm0 : 0 < m := by omega
  have HM := Lib.hid hm
  have HR := Lib.hid hr
  have HT := Lib.hid htab
  clear hm hr htab
  have hf : Bld w.heap.size w.heap.size (Lib.byteCells (figsTop (dgs n) 0)) (w.alloc (.cells #[.pointer none, .slice none 0 0] 77)) := Lib.fresh_isBuilder 77 5 w
  have HF := Lib.hid hf
  have HB := Lib.hid ((Below.refl w.heap.size w).alloc (Nat.le_refl _) (.cells #[.pointer none, .slice none 0 0] 77))
  clear hf
  have g0 : (((m : Nat) : Int) == 0) = false := beq_eq_false_iff_ne.2 (by omega)
  go_enter Tryd.func45, Tryd.ntmps45
  go_wp2_with fail
  obtain ⟨b, hb⟩ : ∃ b, b = w.heap.size := ⟨_, rfl⟩
  rw [← hb] at HF
  have HBE := Lib.hid hb
  rw [← hb]
  clear hb
  generalize w.alloc (.cells #[.pointer none, .slice none 0 0] 77) = w1 at *
  go_loopw [4, 5, 11] (fun _ _ iv wr => ∃ t : Nat, iv = .int .i64 t ∧ t ≤ m ∧ Hid (Bld b b (Lib.byteCells (figsTop (dgs n) t)) wr) ∧ Hid (Below w.heap.size w wr)) (fun _ _ iv _ => m - (intOf iv).toNat)
  case atStart => exact ⟨0, rfl, Nat.zero_le _, HF, HB⟩
  case round =>
    clear HF HB
    obtain ⟨t, rfl, ht, HF, HB⟩ := hrel
    by_cases hlt : t < m
    · obtain ⟨low, hlow⟩ : ∃ low, m = t + 1 + low := ⟨m - 1 - t, by omega⟩
      obtain ⟨gb, o, rfl, q1⟩ := (HR.out.below HB.out).cellAt low (by rw [← HM.out]; omega)
      have hd := (dgs_ok n).get low
      have hl1 : (m : Int) - 1 - t = low := by omega
      have hlm : (dgs n).length - 1 - t = low := by rw [← HM.out]; omega
      have hf1 := figs_first (dgs n) (by rw [← HM.out]; omega)
      have hlast : t = 0 → figsTop (dgs n) 1 = Lib.decDigits ((dgs n).getD low 0) := fun h => by
        subst h
        rw [hf1, show (dgs n).length - 1 = low by omega]
      have hnext : 1 ≤ t → Lib.nDigits ((dgs n).getD low 0) ≤ 9 ∧ figsTop (dgs n) (t + 1) = figsTop (dgs n) t ++ (List.replicate (9 - Lib.nDigits ((dgs n).getD low 0)) 48 ++ Lib.decDigits ((dgs n).getD low 0)) := fun h => by
        have := figs_next (dgs_ok n) (dgs_top n) t h (by rw [← HM.out]; omega)
        rwa [hlm] at this
      have C := fun (W : World) (hw : Tab W) => fmt_any ((dgs n).getD low 0) (by omega) W hw
      have hlen : (figsTop (dgs n) t).length ≤ 9 * t := by
        unfold figsTop
        by_cases h : t = 0
        · subst h; simp
        · rw [if_neg h, Lib.decDigits_length]
          have h1 := val_lt ((dgs_ok n).drop ((dgs n).length - t))
          rw [List.length_drop, ← HM.out, show m - (m - t) = t by omega] at h1
          have h2 : pw t = 10 ^ (9 * t) := by unfold pw; rw [Nat.pow_mul]
          rw [← HM.out]
          obtain ⟨k, hk⟩ : ∃ k, 9 * t = k + 1 := ⟨9 * t - 1, by omega⟩
          rw [h2, hk] at h1
          rw [hk]
          exact nd_le h1
      have hfig9 : Lib.nDigits ((dgs n).getD low 0) ≤ 9 := nd_le (k := 8) (by simpa using hd)
      obtain ⟨D, hD⟩ : ∃ D : ByteArray, D = ⟨(Lib.decDigits ((dgs n).getD low 0)).toArray⟩ := ⟨_, rfl⟩
      have hDl : D.data.toList = Lib.decDigits ((dgs n).getD low 0) := by rw [hD]
      have hDs : D.size = Lib.nDigits ((dgs n).getD low 0) := by
        rw [hD]
        show (Lib.decDigits _).toArray.size = _
        rw [List.size_toArray, Lib.decDigits_length]
      rw [← hD] at C
      have hD9 : D.size ≤ 9 := by rw [hDs]; exact hfig9
      have HDL := Lib.hid hDl
      have HDS := Lib.hid hDs
      have HC := Lib.hid (C wr (HT.out.below HB.out))
      have HLAST := Lib.hid hlast
      have HNEXT := Lib.hid hnext
      generalize (dgs n).getD low 0 = d at *
      clear hD hDl hDs C hlm hf1 hlast hnext hlow hfig9
      go_wp2_with fail
      refine HC.out.mono ?_
      rintro e w2 ⟨rfl, hb2⟩
      have HF2 := Lib.hid (HF.out.below hb2)
      have HB2 := Lib.hid (HB.out.trans (hb2.mono HB.out.size))
      have hbw : b ≤ w2.heap.size := by have := HB2.out.size; have := HBE.out; omega
      clear hb2 HF HB HC q1
      by_cases ht0 : t = 0
      · have g1 : decide (0 < t) = false := decide_eq_false (by omega)
        have hfig : Lib.byteCells (figsTop (dgs n) t) ++ Lib.strCells D = Lib.byteCells (figsTop (dgs n) (t + 1)) := by
          subst ht0
          rw [show figsTop (dgs n) 0 = [] from rfl, str_bytes, HDL.out, ← HLAST.out rfl]
          rfl
        have HFIG := Lib.hid hfig
        have CW := wstring_any b b _ D w2 HF2.out (by simp [Lib.byteCells]; omega) hbw
        rw [hfig] at CW
        have HCW := Lib.hid CW
        have HT0 := Lib.hid ht0
        clear CW hfig ht0
        go_wp2_with fail
        (with_reducible refine HCW.out.mono ?_)
        rintro e w3 ⟨rfl, hf3, hb3⟩
        have HF3 := Lib.hid hf3
        have HB3 := Lib.hid (HB2.out.trans (by rw [HBE.out] at hb3; exact hb3))
        clear hf3 hb3 HCW HF2 HB2
        go_wp2
        go_roundw
        case rel => exact ⟨t + 1, by go_num, by omega, HF3, HB3⟩
        case measure => simp [intOf]; omega
      · have g1 : decide (0 < t) = true := decide_eq_true (by omega)
        obtain ⟨hn9, hnx⟩ := HNEXT.out (by omega)
        have hk := nought_from D.size hD9
        have CW1 := wstring_any b b _ (nought9.extract D.size 9) w2 HF2.out (by rw [hk.2]; simp [Lib.byteCells]; omega) hbw
        have hfig : (Lib.byteCells (figsTop (dgs n) t) ++ Lib.strCells (nought9.extract D.size 9)) ++ Lib.strCells D = Lib.byteCells (figsTop (dgs n) (t + 1)) := by
          rw [str_bytes, str_bytes, hk.1, HDL.out, HDS.out, hnx, bytes_app, bytes_app, List.append_assoc]
        have hlen2 : (Lib.byteCells (figsTop (dgs n) t) ++ Lib.strCells (nought9.extract D.size 9)).length + D.size ≤ 1000000 := by
          rw [List.length_append, Lib.strCells_length, hk.2]
          simp [Lib.byteCells]
          omega
        have HCW1 := Lib.hid CW1
        have HFIG := Lib.hid hfig
        have HL2 := Lib.hid hlen2
        generalize Lib.byteCells (figsTop (dgs n) t) ++ Lib.strCells (nought9.extract D.size 9) = bs1 at *
        clear CW1 hfig hlen2 hn9 hnx hk ht0
        go_wp2_with fail
        (with_reducible refine HCW1.out.mono ?_)
        rintro e w3 ⟨rfl, hf3, hb3⟩
        have CW := wstring_any b b _ D w3 hf3 HL2.out (Nat.le_trans hbw hb3.size)
        rw [HFIG.out] at CW
        have HCW := Lib.hid CW
        have HB3 := Lib.hid (HB2.out.trans (by rw [HBE.out] at hb3; exact hb3))
        clear hf3 hb3 HCW1 HF2 HB2 CW
        go_wp2_with fail
        (with_reducible refine HCW.out.mono ?_)
        rintro e w4 ⟨rfl, hf4, hb4⟩
        have HF4 := Lib.hid hf4
        have HB4 := Lib.hid (HB3.out.trans (by rw [HBE.out] at hb4; exact hb4))
        clear hf4 hb4 HCW HB3
        go_wp2
        go_roundw
        case rel => exact ⟨t + 1, by go_num, by omega, HF4, HB4⟩
        case measure => simp [intOf]; omega
    · obtain rfl : t = m := by omega
      have hfin := figs_all (dgs n) (by rw [← HM.out]; omega)
      rw [← HM.out, val_dgs] at hfin
      have C := Go.Proofs.Tryd.Builder_String_any b b (figsTop (dgs n) t) wr HF.out (by have := HB.out.size; have := HBE.out; omega)
      rw [hfin] at C
      have HC := Lib.hid C
      clear C hfin HF
      go_wp2_with fail
      refine HC.out.mono ?_
      rintro e w3 ⟨rfl, hb3⟩
      have HB3 := Lib.hid (HB.out.trans (by rw [HBE.out] at hb3; exact hb3))
      clear hb3 HB HC
      go_wp2
      go_ret
      exact ⟨rfl, HB3.out⟩
end Go.Proofs.YtpdkebljacmgfaaDoor
