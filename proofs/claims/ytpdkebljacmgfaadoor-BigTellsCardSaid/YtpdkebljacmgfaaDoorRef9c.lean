/- demoticref09: a product. -/
import Derived.Test.YtpdkebljacmgfaaDoorRef9b
namespace Go.Proofs.YtpdkebljacmgfaaDoor
open Go.RowKit
set_option linter.unusedVariables false

namespace Ten
/-- The product so far. -/
structure MulAt (n m la lb low : Nat) (l : List Nat) : Prop where
  len : l.length = la + lb + 1
  ok : Dgs l
  prod : val l = val ((dgs n).take low) * m
  rest : ∀ i, low + lb ≤ i → l.getD i 0 = 0
theorem MulAt.start (n m la lb : Nat) : MulAt n m la lb 0 (List.replicate (la + lb + 1) 0) := ⟨by simp, Dgs.rep _, by rw [val_rep]; simp [val], fun i _ => by
  rw [List.getD_eq_getElem?_getD, List.getElem?_replicate]; split <;> rfl⟩
theorem MulAt.step {n m la lb low c : Nat} {r0 l : List Nat} (h : MulAt n m la lb low r0) (hm : m < pw lb) (hi : TimesIn r0 (dgs m) l low ((dgs n).getD low 0) (lb + 1) c) : MulAt n m la lb (low + 1) l := by
  have hb := dgs_len hm
  have e := hi.prod
  rw [List.take_of_length_le (by omega), val_dgs, h.prod] at e
  have e2 : val ((dgs n).take low) * m + pw low * ((dgs n).getD low 0 * m) = val ((dgs n).take (low + 1)) * m := by rw [val_take, Nat.add_mul, Nat.mul_assoc]
  rw [e2] at e
  have hlt := val_lt ((dgs_ok n).take (low + 1))
  have hpw : pw ((dgs n).take (low + 1)).length ≤ pw (low + 1) := pw_le (by rw [List.length_take]; omega)
  have hprod := Nat.mul_lt_mul'' (Nat.lt_of_lt_of_le hlt hpw) hm
  rw [← pw_add] at hprod
  have hc : c = 0 := by
    rcases Nat.eq_zero_or_pos c with h' | h'
    · exact h'
    · have := Nat.mul_le_mul_left (pw (low + (lb + 1))) h'
      rw [show low + 1 + lb = low + (lb + 1) by omega] at hprod
      omega
  subst hc
  refine ⟨hi.len.trans h.len, hi.ok, by omega, fun i hj => ?_⟩
  rw [hi.rest i (by omega)]
  exact h.rest i (by omega)
theorem MulAt.fin {n m la lb : Nat} {l : List Nat} (h : MulAt n m la lb la l) (hn : n < pw la) : val l = n * m := by
  have := h.prod
  have hd := dgs_len hn
  rwa [List.take_of_length_le (by omega), val_dgs] at this
end Ten

theorem Ints.stored {w : World} {B g cap m : Nat} {l : List Nat} (h : Ints w B (.slice (some ⟨g, 0, none⟩) m cap) l) (hm : m = l.length) (j d : Nat) (v : Value) (hv : v = .int .i64 d) : Ints (w.setCell ⟨g, j, none⟩ v) B (.slice (some ⟨g, 0, none⟩) m cap) (l.set j d) := by
  subst hm hv
  have := (World.ownsRow.stored h j (.int .i64 (d : Int))).1
  unfold Ints
  rw [List.length_set, show ivals (l.set j d) = (ivals l).set j (Value.int .i64 (d : Int)) from List.map_set]
  exact this
theorem Ints.free {w : World} {B g cap m : Nat} {l : List Nat} (h : Ints w B (.slice (some ⟨g, 0, none⟩) m cap) l) (j : Nat) : w.frozen? ⟨g, j, none⟩ = false := by
  rcases h.2 with ⟨e, _⟩ | ⟨g', cap', cur, e, _, hh, _⟩
  · cases e
  · injection e with e1
    injection e1 with e1
    injection e1 with e1 _
    subst e1
    simp [World.frozen?, hh]
theorem made_ints {w w' : World} {n : Nat} (h : w'.ownsRow w.heap.size 3 1 (.slice (some ⟨w.heap.size, 0, none⟩) n n) n (madeCells (Value.int .i64 0).cells (n * 1)).toList) : Ints w' w.heap.size (.slice (some ⟨w.heap.size, 0, none⟩) n n) (List.replicate n 0) := by
  unfold Ints
  rw [List.length_replicate, show ivals (List.replicate n 0) = (madeCells (Value.int .i64 0).cells (n * 1)).toList by
    apply List.ext_getElem?
    intro i
    unfold ivals
    rw [List.getElem?_map, List.getElem?_replicate, Array.getElem?_toList]
    by_cases hi : i < n
    · rw [if_pos hi]; simp [madeCells, Value.cells, hi, Nat.mod_one]
    · rw [if_neg hi]; simp [madeCells, Value.cells, hi]]
  exact h

set_option maxHeartbeats 4000000 in
set_option maxRecDepth 100000 in
theorem refTimes_any (s t : ByteArray) (n m : Nat) (hs : s.data.toList = Lib.decDigits n) (ht : t.data.toList = Lib.decDigits m) (h1 : s.size ≤ 1000) (h2 : t.size ≤ 1000) (w : World) :
    Calls Tryd.prog 55 #[.string s, .string t] w fun e w' => e = .returned (.string ⟨(Lib.decDigits (n * m)).toArray⟩) ∧ Below w.heap.size w w' := by
  obtain ⟨i0, hi, hz0, hz1, hz2⟩ := info_parts int_info
  have z1 := text_size hs
  have z2 := text_size ht
  have A1 := Lib.hid (fun i W => refAt_any s n hs (by omega) i W)
  have A2 := Lib.hid (fun i W => refAt_any t m ht (by omega) i W)
  have Z1 : Hid (n < Ten.pw s.size) := Lib.hid (by rw [z1]; exact Lib.lt_pow_nDigits n)
  have Z2 : Hid (m < Ten.pw t.size) := Lib.hid (by rw [z2]; exact Lib.lt_pow_nDigits m)
  clear z1 z2 hs ht
  obtain ⟨S, hS⟩ : ∃ S, S = s.size + t.size + 1 := ⟨_, rfl⟩
  have HS := Lib.hid hS
  have hS1 : S ≤ 2001 := by omega
  clear hS
  go_enter Tryd.func55, Tryd.ntmps55
  go_wp2_with (at_make; refine wpList_make_full _ rfl (.tmp 15) (.tmp 15) 80 rfl w.heap.size 3 i0 (.int .i64 0) 1 Tryd.underlying80 hi hz0 hz1 .i64 .i64 _ _ S rfl rfl (by have := HS.out; omega) (by have := HS.out; omega) (by rw [hz2]; omega) (by unfold maxLen; omega) (Nat.le_refl _) ?_; intro w1 hown hgr; have HXX := Lib.hid (show _ ∧ _ from ⟨hown, hgr⟩); clear hown hgr)
  obtain ⟨hown, hgr⟩ := HXX.out
  have HI0 := Lib.hid (made_ints hown)
  have HB0 := Lib.hid ((Below.refl w.heap.size w).grown hgr (Nat.le_refl _) (by simp))
  have HST : Hid (Ten.MulAt n m s.size t.size 0 (List.replicate S 0)) := Lib.hid (by rw [HS.out]; exact Ten.MulAt.start _ _ _ _)
  clear HXX hown hgr hi hz0 hz1 hz2 i0
  obtain ⟨B, hB⟩ : ∃ B, B = w.heap.size := ⟨_, rfl⟩
  have HBE := Lib.hid hB
  rw [← hB] at HI0 ⊢
  clear hB
  go_loopw [6, 7, 8, 9] (fun iv _ _ _ wr => ∃ (k : Nat) (l : List Nat), iv = .int .i64 k ∧ k ≤ s.size ∧ Hid (Ten.MulAt n m s.size t.size k l) ∧ Hid (Ints wr B (.slice (some ⟨B, 0, none⟩) S S) l) ∧ Hid (Below w.heap.size w wr)) (fun iv _ _ _ _ => s.size - (intOf iv).toNat)
  case atStart => exact ⟨0, _, rfl, Nat.zero_le _, HST, HI0, HB0⟩
  case round =>
    clear HST HI0 HB0
    obtain ⟨k, l0, rfl, hk, HM, HI, HB⟩ := hrel
    by_cases hlt : k < s.size
    · have HT0 : Hid (Ten.TimesIn l0 (Ten.dgs m) l0 k ((Ten.dgs n).getD k 0) 0 0) := Lib.hid (Ten.TimesIn.start _ _ _ HM.out.ok)
      have HL0 := Lib.hid HM.out.len
      generalize wr = wx at *
      go_wp2_with fail
      go_loopw [7, 8, 9] (fun cv jv _ wq => ∃ (j c : Nat) (l : List Nat), cv = .int .i64 c ∧ jv = .int .i64 j ∧ j ≤ t.size + 1 ∧ c < 10 ∧ Hid (Ten.TimesIn l0 (Ten.dgs m) l k ((Ten.dgs n).getD k 0) j c) ∧ Hid (Ints wq B (.slice (some ⟨B, 0, none⟩) S S) l) ∧ Hid (Below w.heap.size w wq)) (fun _ jv _ _ => t.size + 1 - (intOf jv).toNat)
      case atStart => exact ⟨0, 0, l0, rfl, rfl, by omega, by omega, HT0, HI, HB⟩
      case round =>
        clear HT0 HI HB
        obtain ⟨j, c, l, rfl, rfl, hj, hc, HW, HI, HB⟩ := hrel
        have hlen : l.length = S := by rw [HW.out.len, HL0.out, HS.out]
        by_cases hjm : j ≤ t.size
        · have b1 := (Ten.dgs_ok n).get k
          have b2 := (Ten.dgs_ok m).get j
          have b3 := HW.out.ok.get (k + j)
          have hkj : k + j < S := by have := HS.out; omega
          have q := HW.out.step b1 (Ten.dgs_ok m) (by rw [hlen]; exact hkj)
          have C1 : ∀ z : Kept wr, Calls Tryd.prog 70 #[.string s, .int .i64 k] z.W fun e w'' => e = .returned (.int .i64 ((Ten.dgs n).getD k 0)) ∧ ∃ u : Kept wr, w'' = u.W := fun z => kept_same (A1.out k z.W)
          have C2 : ∀ z : Kept wr, Calls Tryd.prog 70 #[.string t, .int .i64 j] z.W fun e w'' => e = .returned (.int .i64 ((Ten.dgs m).getD j 0)) ∧ ∃ u : Kept wr, w'' = u.W := fun z => kept_same (A2.out j z.W)
          have q3 := HI.out.cellAt (k + j) (by rw [hlen]; exact hkj)
          have hst := fun (z : Kept wr) v hv => (HI.out.below z.h).stored hlen.symm (k + j) ((l.getD (k + j) 0 + (Ten.dgs n).getD k 0 * (Ten.dgs m).getD j 0 + c) % 10) v hv
          have hfz : ∀ z : Kept wr, z.W.frozen? ⟨B, k + j, none⟩ = false := fun z => (HI.out.below z.h).free (k + j)
          generalize l.getD (k + j) 0 = d0 at *
          generalize (Ten.dgs n).getD k 0 = d1 at *
          generalize (Ten.dgs m).getD j 0 = d2 at *
          have Q3 : ∀ z : Kept wr, z.W.cell? ⟨B, k + j, none⟩ = some (.int .i64 d0) := fun z => z.cell q3
          have hpb := Ten.digit_bound b3 b1 b2 hc
          obtain ⟨p, hp⟩ : ∃ p, p = d1 * d2 := ⟨_, rfl⟩
          rw [← hp] at hpb q hst
          have hp2 : (d1 : Int) * (d2 : Int) = (p : Int) := by rw [hp]; simp
          have hpb1 := hpb.1
          have hpb2 := hpb.2.1
          have hpb3 := hpb.2.2
          have HQ := Lib.hid q
          have HSTO := Lib.hid hst
          clear hp hpb q q3 HW hst hlen
          go_wp2_with fail
          refine wp_region_kept (by kernel_rfl) (by kernel_rfl) ?_
          iterate 8 (go_big_quiet_step (fail))
          go_big_quiet_step ((go_at_call 70; exact C1 _))
          iterate 2 (go_big_quiet_step (fail))
          go_big_quiet_step ((go_at_call 70; exact C2 _))
          repeat (go_big_quiet_step (fail))
          refine wpQuiet_nil ?_
          rintro _ ⟨z, rfl⟩
          have hfz2 := hfz z
          have hq3 := Q3 z
          have HI2 := Lib.hid (HSTO.out z (.int .i64 (((d0 : Int) + p + c) % 10)) (by rw [show (((d0 + p + c) % 10 : Nat) : Int) = ((d0 : Int) + p + c) % 10 by omega]))
          have HB2 := Lib.hid ((HB.out.trans (z.h.mono HB.out.size)).setCell (p := ⟨B, k + j, none⟩) (by show w.heap.size ≤ B; rw [HBE.out]; exact Nat.le_refl _) (.int .i64 (((d0 : Int) + p + c) % 10)))
          clear Q3 hfz hp2 C1 C2 HSTO
          go_wp2
          go_roundw
          case rel => exact ⟨j + 1, (d0 + p + c) / 10, _, by go_num, by go_num, by omega, by omega, HQ, HI2, HB2⟩
          case measure => simp [intOf]; omega
        · obtain rfl : j = t.size + 1 := by omega
          have HM2 := Lib.hid (HM.out.step Z2.out HW.out)
          clear HW hlen
          go_wp2
          go_roundw
          case rel => exact ⟨k + 1, l, by go_num, by omega, HM2, HI, HB⟩
          case measure => simp [intOf]; omega
    · obtain rfl : k = s.size := by omega
      have hv := HM.out.fin Z1.out
      have hlen := HM.out.len
      have CP := refPlain_any B _ l0 HM.out.ok (by omega) (by omega) wr HI.out
      rw [hv] at CP
      have HC := Lib.hid CP
      clear CP hv hlen
      go_wp2_with fail
      refine HC.out.mono ?_
      rintro e w2 ⟨rfl, hb⟩
      have HB2 := Lib.hid (HB.out.trans (hb.mono HB.out.size))
      clear hb
      go_wp2
      go_ret
      exact ⟨rfl, HB2.out⟩
end Go.Proofs.YtpdkebljacmgfaaDoor
