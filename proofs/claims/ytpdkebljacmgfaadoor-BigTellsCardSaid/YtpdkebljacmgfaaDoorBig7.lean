/- package big: over. -/
import Derived.Test.YtpdkebljacmgfaaDoorBig6
import Derived.ArgAppend
namespace Go.Proofs.YtpdkebljacmgfaaDoor
open Go.RowKit
set_option linter.unusedVariables false

theorem DigsIn.app {cur : Array Value} {o : Nat} {l m : List Nat} (h : DigsIn cur o l) (h' : DigsIn cur (o + l.length) m) : DigsIn cur o (l ++ m) := fun i hi => by
  rw [List.length_append] at hi
  rcases Nat.lt_or_ge i l.length with g | g
  · rw [h i g, List.getD_eq_getElem?_getD, List.getD_eq_getElem?_getD, List.getElem?_append_left g]
  · have := h' (i - l.length) (by omega)
    rw [show o + l.length + (i - l.length) = o + i by omega] at this
    rw [this, List.getD_eq_getElem?_getD, List.getD_eq_getElem?_getD, List.getElem?_append_right g]
theorem DigsIn.drop {cur : Array Value} {o : Nat} {l : List Nat} (h : DigsIn cur o l) (k : Nat) : DigsIn cur (o + k) (l.drop k) := fun i hi => by
  rw [List.length_drop] at hi
  have := h (k + i) (by omega)
  rw [← Nat.add_assoc] at this
  rw [this, List.getD_eq_getElem?_getD, List.getD_eq_getElem?_getD, List.getElem?_drop]
theorem DigsIn.same {cur cur' : Array Value} {o : Nat} {l : List Nat} (h : DigsIn cur o l) (he : ∀ i, i < l.length → cur'[o + i]? = cur[o + i]?) : DigsIn cur' o l := fun i hi => (he i hi).trans (h i hi)
/-- A part of a row, changed. -/
theorem DigsIn.mid {cur cur' : Array Value} {l p : List Nat} {low n : Nat} (h : DigsIn cur 0 l) (hl : low + n ≤ l.length) (hp : p.length = n) (hd : DigsIn cur' low p) (ho : ∀ j, j < low ∨ low + n ≤ j → cur'[j]? = cur[j]?) :
    DigsIn cur' 0 (l.take low ++ p ++ l.drop (low + n)) := by
  have e1 : (l.take low).length = low := by rw [List.length_take]; omega
  have q1 : DigsIn cur' 0 (l.take low) := (h.take low).same fun i hi => ho _ (by omega)
  have q2 : DigsIn cur' 0 (l.take low ++ p) := q1.app (by rw [e1, Nat.zero_add]; exact hd)
  have q3 : DigsIn cur' (0 + (low + n)) (l.drop (low + n)) := (h.drop (low + n)).same fun i hi => ho _ (by omega)
  refine q2.app ?_
  rw [List.length_append, e1, hp]
  exact q3
theorem DigsIn.part {cur : Array Value} {l : List Nat} (h : DigsIn cur 0 l) (low n : Nat) : DigsIn cur low ((l.drop low).take n) := by
  have := (h.drop low).take n
  rwa [Nat.zero_add] at this

theorem RowAt.lt {w : World} {b o : Nat} {l : List Nat} (h : RowAt w (some ⟨b, o, none⟩) l) (hne : l ≠ []) : b < w.heap.size := by
  rcases h with h | ⟨g, o', cur, e, h1, _⟩
  · exact absurd h hne
  · injection e with e
    injection e with e _
    subst e
    exact h1.lt
theorem own_new {w : World} {B n : Nat} {v : Value} {l : List Nat} (hn : n + 1 = l.length) (h : w.ownsRow B 59 1 v (n + 1) (dvals l)) : ∃ g cap cur, v = .slice (some ⟨g, 0, none⟩) (n + 1) cap ∧ B ≤ g ∧ Held w g cur ∧ DigsIn cur 0 l ∧ n + 1 ≤ cap ∧ cap ≤ maxLen ∧ cur.size = cap :=
  own_row hn h (fun e => by
    rcases h.2 with ⟨_, h0⟩ | ⟨g, cap, cur, e', _⟩
    · cases h0
    · rw [e] at e'; cases e')
theorem dvals_app (l m : List Nat) : dvals (l ++ m) = dvals l ++ dvals m := List.map_append

/-- What lies in memory: what is left, the quotient, what is divided by. -/
structure OverM (ys gr gq gb : Nat) (w wr : World) (R Q : List Nat) (cr cq : Array Value) : Prop where
  rheld : Held wr gr cr
  rdigs : DigsIn cr 0 R
  qheld : Held wr gq cq
  qdigs : DigsIn cq 0 Q
  brow : RowAt wr (some ⟨gb, 0, none⟩) (dgs ys)
  below : Below w.heap.size w wr
  apart : gr ≠ gq ∧ gb ≠ gr ∧ gb ≠ gq ∧ w.heap.size ≤ gr ∧ w.heap.size ≤ gq
theorem OverM.kept {ys gr gq gb : Nat} {w wr W : World} {R Q : List Nat} {cr cq : Array Value} (h : OverM ys gr gq gb w wr R Q cr cq) (hb : Below wr.heap.size wr W) : OverM ys gr gq gb w W R Q cr cq :=
  ⟨h.rheld.below hb h.rheld.lt, h.rdigs, h.qheld.below hb h.qheld.lt, h.qdigs, h.brow.below hb, h.below.trans (hb.mono h.below.size), h.apart⟩
theorem OverM.boff {ys gr gq gb : Nat} {w wr : World} {R Q : List Nat} {cr cq : Array Value} (h : OverM ys gr gq gb w wr R Q cr cq) : Off gr (some ⟨gb, 0, none⟩) (dgs ys) ∧ Off gq (some ⟨gb, 0, none⟩) (dgs ys) :=
  ⟨.inr ⟨gb, 0, rfl, h.apart.2.1⟩, .inr ⟨gb, 0, rfl, h.apart.2.2.1⟩⟩
theorem OverM.store {ys gr gq gb : Nat} {w wr : World} {R Q : List Nat} {cr cq : Array Value} (h : OverM ys gr gq gb w wr R Q cr cq) (low q : Nat) (hl : low < Q.length) (v : Value) (hv : v = .int .u64 q) :
    OverM ys gr gq gb w (wr.setCell ⟨gq, low, none⟩ v) R (Q.set low q) cr (cq.set! low v) := by
  have hb := But.set (w := wr) gq low v
  have d := h.qdigs.set low q v hv hl
  rw [Nat.zero_add] at d
  exact ⟨h.rheld.but hb h.apart.1, h.rdigs, h.qheld.set low v, d, h.brow.but hb h.boff.2, h.below.trans (hb.below h.apart.2.2.2.2 h.below.size), h.apart⟩
theorem OverM.take {ys gr gq gb : Nat} {w wr W : World} {R Q : List Nat} {cr cq cr' : Array Value} (h : OverM ys gr gq gb w wr R Q cr cq) (hb : But gr wr W) {low n : Nat} {p : List Nat} (hh : Held W gr cr') (hl : low + n ≤ R.length) (hp : p.length = n) (hd : DigsIn cr' low p) (ho : ∀ j, j < low ∨ low + n ≤ j → cr'[j]? = cr[j]?) :
    OverM ys gr gq gb w W (R.take low ++ p ++ R.drop (low + n)) Q cr' cq :=
  ⟨hh, h.rdigs.mid hl hp hd ho, h.qheld.but hb (fun e => h.apart.1 e.symm), h.qdigs, h.brow.but hb h.boff.1, h.below.trans (hb.below h.apart.2.2.2.1 h.below.size), h.apart⟩
/-- The quotient so far, in memory. -/
structure OverW (ys V n gr gq gb : Nat) (w wr : World) (m : Nat) (R Q : List Nat) (cr cq : Array Value) : Prop where
  inv : OverAt (dgs ys) V m R Q
  rlen : 0 < n → R.length = n + (dgs ys).length
  qlen : Q.length = n
  mem : OverM ys gr gq gb w wr R Q cr cq

def scaleN (y k : Nat) : Nat := 1000000000 / ((dgs y).getD k 0 + 1)
theorem scale_ok (y k : Nat) (hy : (dgs y).length = k + 1) : 1 ≤ scaleN y k ∧ scaleN y k < 1000000000 := by
  have h1 := dgs_top y k hy
  have h2 := (dgs_ok y).get k
  unfold scaleN
  generalize (dgs y).getD k 0 = d at *
  refine ⟨(Nat.le_div_iff_mul_le (by omega)).2 (by omega), (Nat.div_lt_iff_lt_mul (by omega)).2 (by omega)⟩
theorem scaled (x y s : Nat) (hs : 1 ≤ s) : (x * s) / (y * s) = x / y := Nat.mul_div_mul_right x y hs
theorem scaled_len (x s : Nat) (hs : s < 1000000000) : (dgs (x * s)).length ≤ (dgs x).length + 1 := by
  refine dgs_len ?_
  have := lt_dgs x
  rw [pw_succ, Nat.mul_comm 1000000000]
  exact Nat.mul_lt_mul'' this hs

set_option maxHeartbeats 4000000 in
set_option maxRecDepth 100000 in
theorem over_any (x y : Nat) (a1 a2 : Option Addr) (c1 c2 : Nat) (w : World) (hy0 : 0 < y) (h1 : RowAt w a1 (dgs x)) (h2 : RowAt w a2 (dgs y)) (hx : (dgs x).length ≤ 500) (hy : (dgs y).length ≤ 500) :
    Calls Tryd.prog 34 #[.slice a1 (dgs x).length c1, .slice a2 (dgs y).length c2] w (MadeRow w (x / y)) := by
  obtain ⟨i0, hi, hz0, hz1, hz2⟩ := info_parts u64_info
  obtain ⟨k, hk⟩ : ∃ k, (dgs y).length = k + 1 := ⟨(dgs y).length - 1, by
    have : (dgs y).length ≠ 0 := fun h => by have := dgs_nil h; omega
    omega⟩
  obtain ⟨b2, o2, rfl, q2⟩ := h2.cellAt k (by omega)
  have hd2 := (dgs_ok y).get k
  have hsc := scale_ok y k hk
  have HSC : Hid (scaleN y k = 1000000000 / ((dgs y).getD k 0 + 1)) := Lib.hid rfl
  have hsl := scaled_len x (scaleN y k) hsc.2
  have hsl2 := scaled_len y (scaleN y k) hsc.2
  have HV := Lib.hid (scaled x y (scaleN y k) hsc.1)
  generalize scaleN y k = s at *
  generalize (dgs y).getD k 0 = d2 at *
  have e0 : (1000000000 : Int) / ((d2 : Int) + 1) = (s : Int) := by
    rw [HSC.out, Int.natCast_ediv]
    congr 1
  have hrow1 : RowAt (w.alloc (.cells #[.int .u64 s] 59)) (some ⟨w.heap.size, 0, none⟩) [s] := .inr ⟨_, _, _, rfl, heap_alloc_new _ _, fun i hi => by
      have : i = 0 := by simpa using hi
      subst this
      rfl⟩
  have hal := (Below.refl w.heap.size w).alloc (Nat.le_refl _) (.cells #[.int .u64 s] 59)
  have C1 := times_gen (dgs y) [s] (dgs_ok y) (fun d hd => by simp at hd; omega) _ _ c2 1 _ (h2.below hal) hrow1 (by omega) (by simp)
  rw [hk, val_dgs, show val [s] = s by simp [val]] at C1
  have C2 := fun (W : World) (r1 : RowAt W a1 (dgs x)) (r2 : RowAt W (some ⟨w.heap.size, 0, none⟩) [s]) => times_gen (dgs x) [s] (dgs_ok x) (fun d hd => by simp at hd; omega) _ _ c1 1 W r1 r2 (by omega) (by simp)
  rw [val_dgs, show val [s] = s by simp [val]] at C2
  have H1 := Lib.hid (h1.below hal)
  have HAL := Lib.hid hal
  have HR1 := Lib.hid hrow1
  have HC1 := Lib.hid C1
  have HC2 := Lib.hid C2
  have HY := Lib.hid hk
  have hk500 : k < 500 := by omega
  rw [hk]
  obtain ⟨n0, hn0⟩ : ∃ n0, n0 = (dgs x).length := ⟨_, rfl⟩
  rw [← hn0] at HC2 ⊢
  clear hn0 h1 h2 hal hrow1 C1 C2 hk HSC
  go_enter Tryd.func34, Tryd.ntmps34
  go_wp2_with fail
  refine HC1.out.mono ?_
  rintro e w1 ⟨gb, rfl, hgb, hrb, hb1⟩
  have C2 := HC2.out w1 (H1.out.below hb1) (HR1.out.below hb1)
  have HC := Lib.hid C2
  have HB1 := Lib.hid (HAL.out.trans (hb1.mono (by simp)))
  have HRB := Lib.hid hrb
  have HGB := Lib.hid hgb
  have hys : 0 < y * s := Nat.mul_pos hy0 hsc.1
  obtain ⟨nb, hnb⟩ : ∃ nb, (dgs (y * s)).length = nb + 1 := ⟨(dgs (y * s)).length - 1, by
    have : (dgs (y * s)).length ≠ 0 := fun h => by have := dgs_nil h; omega
    omega⟩
  have hnb1 : nb ≤ 501 := by omega
  have hgb1 : gb < w1.heap.size := hrb.lt (fun h => by rw [h] at hnb; cases hnb)
  rw [hnb]
  have HNB := Lib.hid hnb
  clear hnb
  have HGB1 := Lib.hid hgb1
  clear C2 HC1 HC2 hrb hgb hb1 H1 HR1 hgb1
  go_wp2_with fail
  refine HC.out.mono ?_
  rintro e w2 ⟨ga, rfl, hga, hra, hb2⟩
  have hcs := (hra.below ((Below.refl w2.heap.size w2).alloc (Nat.le_refl _) (.cells #[.int .u64 0] 59))).cells
  have hnew : ∀ j u, [Value.int .u64 0][j]? = some u → (w2.alloc (.cells #[.int .u64 0] 59)).cell? ((⟨w2.heap.size, 0, none⟩ : Addr).add j) = some u := by
    intro j u hj
    match j, hj with
    | 0, hj => simp at hj; subst hj; simp [Addr.add]
    | j + 1, hj => simp at hj
  have HCS := Lib.hid hcs
  have HNW := Lib.hid hnew
  have HB2 := Lib.hid (HB1.out.trans (hb2.mono HB1.out.size))
  have HRB2 := Lib.hid (HRB.out.below hb2)
  have HL12 := Lib.hid hb2.size
  obtain ⟨la, hla⟩ : ∃ la, la = (dgs (x * s)).length := ⟨_, rfl⟩
  have hla1 : la ≤ 501 := by omega
  have HLA := Lib.hid hla
  rw [← hla]
  have HGA := Lib.hid hga
  clear hcs hnew hra hb2 hla hga HC HRB
  obtain ⟨n, hn⟩ : ∃ n, n = la - nb := ⟨_, rfl⟩
  have hn1 : n ≤ 501 := by omega
  have HN := Lib.hid hn
  clear hn
  go_wp2_with (first | (at_builtin; refine wpList_append_grows _ rfl (.tmp 26) (.tmp 27) 42 rfl 59 i0 (.int .u64 0) 1 8 Tryd.underlying42 hi hz0 hz1 hz2 rfl (by decide) (some ⟨ga, 0, none⟩) la la (dvals (dgs (x * s))) rfl (fun h => by cases h) (by unfold dvals; rw [List.length_map, ← HLA.out, Nat.mul_one]) (fun b hb => by injection hb with hb; subst hb; exact HCS.out) ⟨w2.heap.size, 0, none⟩ 1 1 [.int .u64 0] rfl rfl HNW.out (fun u hu => by simp at hu; subst hu; rfl) (by omega) (by unfold maxLen; omega) (by omega) ?_; intro v' w3 hown hgr; obtain ⟨gr, capR, cr, rfl, hgr1, hhr, hdr, hcr, hcrm, _⟩ := own_new (l := dgs (x * s) ++ [0]) (n := la) (by rw [List.length_append, ← HLA.out]; rfl) (by rw [dvals_app]; exact hown); have HXX := Lib.hid (show _ ∧ _ ∧ _ ∧ _ from ⟨hgr1, hhr, hdr, hgr⟩); clear hown hgr1 hhr hdr hgr) | (at_make; refine wpList_make_full _ rfl (.tmp 34) (.tmp 34) 42 rfl w3.heap.size 59 i0 (.int .u64 0) 1 Tryd.underlying42 hi hz0 hz1 .i64 .i64 _ _ n rfl rfl (by have := HN.out; omega) (by have := HN.out; omega) (by rw [hz2]; omega) (by unfold maxLen; omega) (Nat.le_refl _) ?_; intro w4 hown4 hgr4; have HYY := Lib.hid (show _ ∧ _ from ⟨hown4, hgr4⟩); clear hown4 hgr4))
  obtain ⟨hgr1, hhr, hdr, hgr⟩ := HXX.out
  have hsz2 : (w2.alloc (.cells #[.int .u64 0] 59)).heap.size = w2.heap.size + 1 := by simp
  have hb23 : Below w2.heap.size w2 w3 := ((Below.refl w2.heap.size w2).alloc (Nat.le_refl _) _).grown hgr (by simp) (by simp)
  have HRB3 := Lib.hid (HRB2.out.below hb23)
  have HB3 := Lib.hid (HB2.out.trans (hb23.mono HB2.out.size))
  have hgblt : gb < gr := by have := HGB1.out; have := HL12.out; omega
  have hgrw : w.heap.size ≤ gr := by have := HB2.out.size; omega
  have hgrlt : gr < w3.heap.size := hhr.lt
  have HHR := Lib.hid hhr
  have HDR := Lib.hid hdr
  clear HXX hgr hgr1 hhr hdr hsz2 hb23 HRB2 HB2 HCS HNW HB1 HGA HGB HAL q2 e0
  obtain ⟨hown4, hgr4⟩ := HYY.out
  obtain ⟨cq, hhq, hcq, hdq⟩ := made_held hown4
  have hb34 : Below w3.heap.size w3 w4 := (Below.refl w3.heap.size w3).grown hgr4 (Nat.le_refl _) (by simp)
  have HST : Hid (OverW (y * s) (x * s) n gr w3.heap.size gb w w4 n (dgs (x * s) ++ [0]) (List.replicate n 0) cr cq) := by
    have hst := OverAt.start (x * s) (y * s) hys
    have hl : (dgs (x * s) ++ [0]).length = la + 1 := by rw [List.length_append, ← HLA.out]; rfl
    have hnn : la + 1 - (nb + 1) = n := by rw [HN.out]; omega
    rw [hl, HNB.out, hnn] at hst
    exact Lib.hid ⟨hst, fun h0 => by rw [hl, HNB.out]; have := HN.out; omega, by simp, ⟨HHR.out.below hb34 hgrlt, HDR.out, hhq, hdq, HRB3.out.below hb34, HB3.out.trans (hb34.mono HB3.out.size), ⟨by omega, by omega, by omega, hgrw, HB3.out.size⟩⟩⟩
  have hgq := hhq.lt
  obtain ⟨gq, hgqe⟩ : ∃ gq, gq = w3.heap.size := ⟨_, rfl⟩
  rw [← hgqe] at HST hgq ⊢
  have HGQ := Lib.hid hgqe
  have hRL : n ≠ 0 → n + nb = la := fun h => by have := HN.out; omega
  have HRL := Lib.hid hRL
  clear HYY hown4 hgr4 hhq hcq hdq hb34 HHR HDR HRB3 HB3 hgqe hRL hi hz0 hz1 hz2 hgblt hgrw hgrlt
  go_wp2_with fail
  go_loopw [8, 9, 10, 11, 38] (fun _ _ _ _ iv wr => ∃ (t : Nat) (R Q : List Nat) (cr cq : Array Value), iv = .int .i64 t ∧ t ≤ n ∧ Hid (OverW (y * s) (x * s) n gr gq gb w wr (n - t) R Q cr cq)) (fun _ _ _ _ iv _ => n - (intOf iv).toNat)
  case atStart => exact ⟨0, _, _, _, _, rfl, Nat.zero_le _, HST⟩
  case round =>
    clear HST
    obtain ⟨t, R, Q, cr1, cq1, rfl, ht, HW⟩ := hrel
    by_cases hlt : t < n
    · obtain ⟨low, hlow⟩ : ∃ low, n = t + 1 + low := ⟨n - 1 - t, by omega⟩
      have hm : n - t = low + 1 := by omega
      rw [hm] at HW
      have hRl : R.length = n + (nb + 1) := by rw [HW.out.rlen (by omega), HNB.out]
      obtain ⟨lp, hlp⟩ : ∃ lp, lp = (R.drop low).take (nb + 2) := ⟨_, rfl⟩
      have hlpl : lp.length = nb + 2 := by rw [hlp, List.length_take, List.length_drop]; omega
      have hpart := HW.out.inv.part (dgs_ok _) (by rw [HNB.out]; omega)
      rw [HNB.out, val_dgs, ← hlp] at hpart
      have hlpo : Dgs lp := hlp ▸ (HW.out.inv.ok.drop low).take (nb + 2)
      have hrp : RowAt wr (some ⟨gr, low, none⟩) lp := .inr ⟨_, _, cr1, rfl, HW.out.mem.rheld, hlp ▸ HW.out.mem.rdigs.part low (nb + 2)⟩
      have CG := goes_any lp (y * s) nb (some ⟨gr, low, none⟩) (some ⟨gb, 0, none⟩) (nb + 2) (nb + 1) wr hrp HW.out.mem.brow hlpo hlpl HNB.out hpart.2.2 (by omega) (Nat.le_refl _)
      have HCG := Lib.hid CG
      have HP := Lib.hid hpart
      have HLP := Lib.hid hlp
      have HLPL := Lib.hid hlpl
      have HLPO := Lib.hid hlpo
      have HRLN := Lib.hid hRl
      have HLOW := Lib.hid hlow
      have hl1 : (n : Int) - 1 - t = low := by omega
      have hcap : low + nb + 2 ≤ capR := by have := HRL.out (by omega); omega
      have hla2 : low + nb + 2 ≤ la + 1 := by have := HRL.out (by omega); omega
      clear CG hpart hlp hlpl hlpo hRl hrp hm hlow
      go_wp2_with fail
      rw [show low + (nb + 1) + 1 - low = nb + 2 by omega]
      refine HCG.out.mono ?_
      rintro e wg ⟨rfl, hbg⟩
      obtain ⟨q, hq⟩ : ∃ q, q = val lp / (y * s) := ⟨_, rfl⟩
      have hq9 : q < 1000000000 := by rw [hq]; exact (Nat.div_lt_iff_lt_mul hys).2 (by rw [Nat.mul_comm]; exact HP.out.2.2)
      have hqle : y * s * q ≤ val lp := by rw [hq, Nat.mul_comm]; exact Nat.div_mul_le_self _ _
      rw [← hq]
      have hQl : low < Q.length := by rw [HW.out.qlen]; have := HLOW.out; omega
      have HM1 := HW.out.mem.kept hbg
      have q3 := HM1.qheld.cell HM1.qdigs low hQl
      rw [Nat.zero_add] at q3
      have hfz := HM1.qheld.free low
      have HM2 := HM1.store low q hQl (.int .u64 q) rfl
      have hcq : (wg.setCell ⟨gq, low, none⟩ (.int .u64 q)).cell? ⟨gq, low, none⟩ = some (.int .u64 q) := by
        have := HM2.qheld.cell HM2.qdigs low (by simpa using hQl)
        rw [Nat.zero_add, get_set, if_pos ⟨rfl, hQl⟩] at this
        exact this
      generalize Q.getD low 0 = q0 at q3
      have hal := (Below.refl _ (wg.setCell ⟨gq, low, none⟩ (.int .u64 q))).alloc (Nat.le_refl _) (.cells #[.int .u64 q] 59)
      have HM3 := HM2.kept hal
      have hnew : RowAt ((wg.setCell ⟨gq, low, none⟩ (.int .u64 q)).alloc (.cells #[.int .u64 q] 59)) (some ⟨(wg.setCell ⟨gq, low, none⟩ (.int .u64 q)).heap.size, 0, none⟩) [q] := .inr ⟨_, _, _, rfl, heap_alloc_new _ _, fun i hi => by
        have : i = 0 := by simpa using hi
        subst this
        rfl⟩
      have CT := times_gen (dgs (y * s)) [q] (dgs_ok _) (fun d hd => by simp at hd; omega) _ _ (nb + 1) 1 _ HM3.brow hnew (by rw [HNB.out]; omega) (by simp)
      rw [HNB.out, val_dgs, show val [q] = q by simp [val], show (wg.setCell ⟨gq, low, none⟩ (.int .u64 q)).heap.size = wg.heap.size by simp] at CT
      have CT2 : Calls Tryd.prog 31 #[.slice (some ⟨gb, 0, none⟩) (nb + 1) (nb + 1), .slice (some ⟨wg.heap.size, 0, none⟩) 1 1] ((wg.setCell ⟨gq, low, none⟩ (.int .u64 q)).alloc (.cells #[.int .u64 q] 59)) (MadeRow ((wg.setCell ⟨gq, low, none⟩ (.int .u64 q)).alloc (.cells #[.int .u64 q] 59)) (y * s * q)) := CT
      have hst : low < n := by have := HLOW.out; omega
      have HQ := Lib.hid hq
      have HQLE := Lib.hid hqle
      have HMM := Lib.hid HM3
      have HCT := Lib.hid CT2
      have HINV := Lib.hid HW.out.inv
      have HQL := Lib.hid HW.out.qlen
      clear hq hqle HM1 HM2 HM3 hal hnew CT CT2 hQl HCG hbg HW hl1
      go_wp2_with fail
      (with_reducible refine HCT.out.mono ?_)
      rintro e wt ⟨gt, rfl, hgt, hrt, hbt⟩
      have HM4 := HMM.out.kept hbt
      have hgne : gt ≠ gr := fun e => by have := HMM.out.rheld.lt; omega
      have hyq : (dgs (y * s * q)).length ≤ 100000 := by
        have h1 := dgs_mono HQLE.out
        have h2 := dgs_len (val_lt HLPO.out)
        have := HLPL.out
        omega
      have CK := take_any gr low (y * s * q) lp cr1 (some ⟨gt, 0, none⟩) (nb + 2) (dgs (y * s * q)).length wt HM4.rheld (by rw [HLP.out]; exact HM4.rdigs.part low (nb + 2)) HLPO.out hrt (.inr ⟨gt, 0, rfl, hgne⟩) HQLE.out (by rw [HLPL.out]; omega) hyq
      rw [HLPL.out] at CK
      have HCK := Lib.hid CK
      have HMM4 := Lib.hid HM4
      clear CK HM4 hrt hbt HCT HMM hgt hgne hyq
      generalize (dgs (y * s * q)).length = lyq at *
      go_wp2_with fail
      refine HCK.out.mono ?_
      rintro e wz ⟨rfl, l', cr2, hh, hd, _, hout, hlen, hok, hval, hbut⟩
      rw [HLPL.out] at hout hlen
      have HM5 := HMM4.out.take hbut hh (by rw [HRLN.out]; omega) hlen hd hout
      have hstep := OverAt.step (part' := l') HINV.out (dgs_ok _) (by rw [val_dgs]; exact hys) (by rw [HNB.out, HRLN.out]; omega) (by rw [HQL.out]; exact hst) (by rw [HNB.out]; exact hlen) hok (by rw [HNB.out, val_dgs, ← HLP.out, ← HQ.out]; exact hval)
      rw [HNB.out, val_dgs, ← HLP.out, ← HQ.out] at hstep
      have HF : Hid (OverW (y * s) (x * s) n gr gq gb w wz low (R.take low ++ l' ++ R.drop (low + (nb + 2))) (Q.set low q) cr2 (cq1.set! low (.int .u64 q))) := Lib.hid ⟨hstep, fun h0 => by
        rw [List.length_append, List.length_append, List.length_take, List.length_drop, hlen, HRLN.out, HNB.out]; omega, by simpa using HQL.out, HM5⟩
      have hm2 : n - (t + 1) = low := by have := HLOW.out; omega
      have HM2 := Lib.hid hm2
      clear hh hd hout hlen hok hval hbut HM5 hstep HMM4 HCK hm2
      go_wp2
      go_roundw
      case rel => exact ⟨t + 1, _, _, _, _, by go_num, by omega, by rw [HM2.out]; exact HF⟩
      case measure => simp [intOf]; omega
    · obtain rfl : t = n := by omega
      have hinv := HW.out.inv
      rw [Nat.sub_self] at hinv
      have hv := hinv.fin
      rw [val_dgs, HV.out] at hv
      have hlen := HW.out.qlen
      have C := cut_any Q (some ⟨gq, 0, none⟩) t wr (.inr ⟨_, _, cq1, rfl, HW.out.mem.qheld, HW.out.mem.qdigs⟩) hinv.qok (by omega) (by omega)
      rw [hlen, hv] at C
      have HC := Lib.hid C
      have HB := Lib.hid HW.out.mem.below
      have HG := Lib.hid HW.out.mem.apart.2.2.2.2
      clear C hv hlen HW hinv
      go_wp2_with ((with_reducible refine HC.out.mono ?_); rintro e w' ⟨rfl, hr, rfl⟩; have HR := Lib.hid hr; clear hr)
      go_ret
      exact ⟨gq, rfl, HG.out, HR.out, HB.out⟩
end Go.Proofs.YtpdkebljacmgfaaDoor
