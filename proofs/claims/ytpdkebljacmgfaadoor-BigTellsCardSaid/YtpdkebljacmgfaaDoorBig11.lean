/- package big: what figures are. -/
import Derived.Test.YtpdkebljacmgfaaDoorBig10
import Derived.Test.YtpdkebljacmgfaaDoorBigA
import Derived.Lib.OthersKept
namespace Go.Proofs.YtpdkebljacmgfaaDoor
open Go.RowKit
set_option linter.unusedVariables false

theorem Held.iterAt {w : World} {b R : Nat} {cur : Array Value} (h : Held w b cur) (hne : b ≠ R) (s : ByteArray) (q : Nat) : Held (w.iterAt R s q) b cur := (Lib.iterAt_other w R b s q hne).trans h
theorem iter_pos {w : World} {k : Nat} {s : ByteArray} {p : Nat} (h : w.heap[k]? = some (.stringIter s p)) : w.iterPos k = p := by simp [World.iterPos, h]
/-- What is read of the figures so far, in memory. -/
structure AmtW (s : ByteArray) (R : Nat) (w wr : World) (p : Nat) (l : List Nat) (cur : Array Value) : Prop where
  inv : AmtAt s.data.toList s.size p l
  held : Held wr w.heap.size cur
  digs : DigsIn cur 0 l
  it : wr.heap[R]? = some (.stringIter s p)
  below : Below w.heap.size w wr
theorem AmtW.step {s : ByteArray} {R : Nat} {w wr : World} {p : Nat} {l : List Nat} {cur : Array Value} (h : AmtW s R w wr p l cur) (hR : R ≠ w.heap.size) (hRw : w.heap.size ≤ R) (hp : p < s.size) (h1 : 48 ≤ bt s p) (h2 : bt s p ≤ 57) :
    (s.size - 1 - p) / 9 < l.length ∧ l.getD ((s.size - 1 - p) / 9) 0 * 10 + (bt s p - 48) < 1000000000 ∧ Held (wr.iterAt R s (p + 1)) w.heap.size cur ∧
    ∀ v, v = .int .u64 (l.getD ((s.size - 1 - p) / 9) 0 * 10 + (bt s p - 48) : Nat) → AmtW s R w ((wr.iterAt R s (p + 1)).setCell ⟨w.heap.size, (s.size - 1 - p) / 9, none⟩ v) (p + 1) (l.set ((s.size - 1 - p) / 9) (l.getD ((s.size - 1 - p) / 9) 0 * 10 + (bt s p - 48))) (cur.set! ((s.size - 1 - p) / 9) v) := by
  have hb := bt_list s p hp
  have hn : (UInt8.ofNat (bt s p)).toNat = bt s p := by simp; omega
  have hst := h.inv.step hp hb (by rw [hn]; exact h1) (by rw [hn]; exact h2)
  rw [hn] at hst
  obtain ⟨g1, g2, g3⟩ := hst
  refine ⟨g1, g2, h.held.iterAt (fun e => hR e.symm) _ _, fun v hv => ?_⟩
  have d := h.digs.set _ _ v hv g1
  rw [Nat.zero_add] at d
  refine ⟨g3, (h.held.iterAt (fun e => hR e.symm) _ _).set _ v, d, ?_, (Lib.below_iterAt h.below hRw _ _).setCell (p := ⟨w.heap.size, (s.size - 1 - p) / 9, none⟩) (Nat.le_refl _) _⟩
  exact (Below.heap_setCell _ ⟨w.heap.size, (s.size - 1 - p) / 9, none⟩ _ R (by exact hR)).trans (Lib.iterAt_heap wr R s p (p + 1) h.it)

set_option maxHeartbeats 2000000 in
set_option maxRecDepth 100000 in
theorem amount_any (s : ByteArray) (n : Nat) (hs : s.data.toList = Lib.decDigits n) (hsz : s.size ≤ 1000) (w : World) :
    Calls Tryd.prog 63 #[.string s] w (MadeRow w n) := by
  obtain ⟨i0, hi, hz0, hz1, hz2⟩ := info_parts u64_info
  have hfig : ∀ p, p < s.size → 48 ≤ bt s p ∧ bt s p ≤ 57 := fun p hp => by
    have h1 := Lib.decDigits_length n
    have h2 := dec_all n
    rw [← hs] at h2
    have h3 := bt_list s p hp
    have h4 := List.all_eq_true.1 h2 _ (List.mem_of_getElem? h3)
    have h5 : (UInt8.ofNat (bt s p)).toNat = bt s p := by have := bt_lt s p; simp; omega
    unfold figB at h4
    rw [h5] at h4
    simpa using h4
  have HFIG := Lib.hid hfig
  have HSS := Lib.hid hs
  obtain ⟨m, hm⟩ : ∃ m, m = (s.size + 8) / 9 := ⟨_, rfl⟩
  have hm1 : m ≤ 112 := by omega
  have HM := Lib.hid hm
  clear hm hfig hs
  go_enter Tryd.func63, Tryd.ntmps63
  go_wp2_with (at_make; refine wpList_make_full _ rfl (.tmp 11) (.tmp 11) 42 rfl w.heap.size 59 i0 (.int .u64 0) 1 Tryd.underlying42 hi hz0 hz1 .i64 .i64 _ _ m rfl rfl (by have := HM.out; omega) (by have := HM.out; omega) (by rw [hz2]; omega) (by unfold maxLen; omega) (Nat.le_refl _) ?_; intro w1 hown hgr; have HXX := Lib.hid (show _ ∧ _ from ⟨hown, hgr⟩); clear hown hgr)
  obtain ⟨hown, hgr⟩ := HXX.out
  obtain ⟨cur, hh, hcs, hdg⟩ := made_held hown
  have hB := (Below.refl w.heap.size w).grown hgr (Nat.le_refl _) (by simp)
  have hlt := hh.lt
  have HW : Hid (AmtW s w1.heap.size w (w1.iter s 0) 0 (List.replicate m 0) cur) := Lib.hid ⟨by rw [HM.out]; exact AmtAt.start _ _, (Below.heap_alloc w1 _ _ hlt).trans hh, hdg, World.iter_heap w1 s 0, hB.alloc hB.size _⟩
  have HSZ := Lib.hid hlt
  clear HXX hown hgr hh hcs hdg hB hi hz0 hz1 hz2 i0 hlt
  obtain ⟨B, hB⟩ : ∃ B, B = w.heap.size := ⟨_, rfl⟩
  obtain ⟨R, hR⟩ : ∃ R, R = w1.heap.size := ⟨_, rfl⟩
  have HBE := Lib.hid hB
  have hRB : B < R := by have := HSZ.out; omega
  rw [← hR] at HW
  have HRE := Lib.hid hR
  rw [← hB]
  clear hB hR
  rw [show w1.heap.size = R from HRE.out.symm]
  go_loopw [4, 5, 6] (fun _ _ _ wr => ∃ (p : Nat) (l : List Nat) (cur : Array Value), p ≤ s.size ∧ Hid (AmtW s R w wr p l cur)) (fun _ _ _ wr => s.size - wr.iterPos R)
  case atStart => exact ⟨0, _, _, Nat.zero_le _, HW⟩
  case round =>
    clear HW
    obtain ⟨p, l, cur1, hp, HW⟩ := hrel
    have hit := HW.out.it
    have hpos0 := iter_pos hit
    by_cases hlt : p < s.size
    · obtain ⟨f1, f2⟩ := HFIG.out p hlt
      have hnx : ∀ ty, (Instr.next (.pointer (some ⟨R, 0, none⟩)) true ty).run Tryd.prog wr = _ := fun ty => Lib.run_next_any_at wr R s p ty hit hlt
      rw [dec_1 s p (by omega)] at hnx
      obtain ⟨g1, g2, g3, g4⟩ := HW.out.step (by rw [← HBE.out]; omega) (by rw [← HBE.out]; omega) hlt f1 f2
      obtain ⟨pl, hpl⟩ : ∃ pl, pl = (s.size - 1 - p) / 9 := ⟨_, rfl⟩
      rw [← hpl] at g1 g2 g4
      rw [← HBE.out] at g3 g4
      have hlen : l.length = m := by rw [HW.out.inv.len, HM.out]
      rw [hlen] at g1
      have hc := g3.cell HW.out.digs pl (by rw [hlen]; exact g1)
      rw [Nat.zero_add] at hc
      have hfz := g3.free pl
      have hit2 := Lib.iterAt_heap wr R s p (p + 1) hit
      have hsz1 := Lib.iterAt_size wr R s (p + 1)
      generalize l.getD pl 0 = d at *
      generalize bt s p = c at *
      have HG4 := Lib.hid g4
      have hpi : ((s.size : Int) - 1 - p) / 9 = (pl : Int) := by omega
      have HP0 := Lib.hid hpos0
      generalize wr.iterAt R s (p + 1) = W1 at *
      clear g3 g4 hlen hit hit2 hsz1 hpl HW hpos0
      go_wp2
      have HS := Lib.hid (HG4.out (.int .u64 ((d : Int) * 10 + ((c : Int) - 48))) (by
        rw [show ((d * 10 + (c - 48) : Nat) : Int) = (d : Int) * 10 + ((c : Int) - 48) by omega]))
      go_roundw
      case rel => exact ⟨p + 1, _, _, by omega, HS⟩
      case measure => rw [iter_pos HS.out.it, HP0.out]; omega
    · obtain rfl : p = s.size := by omega
      have hnx : ∀ ty, (Instr.next (.pointer (some ⟨R, 0, none⟩)) true ty).run Tryd.prog wr = _ := fun ty => Lib.run_next_end_at wr R s s.size ty hit (by omega)
      have hv := HW.out.inv.fin (by simp)
      rw [HSS.out, numL_dec] at hv
      have hlen : l.length = m := by rw [HW.out.inv.len, HM.out]
      have C := cut_any l (some ⟨w.heap.size, 0, none⟩) m wr (.inr ⟨_, _, cur1, rfl, HW.out.held, HW.out.digs⟩) HW.out.inv.ok (by omega) (by omega)
      rw [hlen, hv, ← HBE.out] at C
      have HC := Lib.hid C
      have HB := Lib.hid HW.out.below
      clear C hv hlen HW hit hpos0
      go_wp2_with ((with_reducible refine HC.out.mono ?_); rintro e w' ⟨rfl, hr, rfl⟩; have HR := Lib.hid hr; clear hr)
      go_ret
      exact ⟨B, rfl, by rw [HBE.out]; exact Nat.le_refl _, HR.out, HB.out⟩
end Go.Proofs.YtpdkebljacmgfaaDoor
