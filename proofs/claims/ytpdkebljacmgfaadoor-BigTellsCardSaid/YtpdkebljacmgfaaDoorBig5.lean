/- package big: times. -/
import Derived.Test.YtpdkebljacmgfaaDoorBig4
namespace Go.Proofs.YtpdkebljacmgfaaDoor
open Go.RowKit
set_option linter.unusedVariables false

/-- The product so far, in memory: between rounds, and within one. -/
structure TimesO (lx ly : List Nat) (w wr : World) (k : Nat) (l : List Nat) (cur : Array Value) : Prop where
  inv : TimesAt lx ly l k
  held : Held wr w.heap.size cur
  digs : DigsIn cur 0 l
  below : Below w.heap.size w wr
structure TimesI (ly : List Nat) (l0 : List Nat) (low d : Nat) (w wr : World) (k c : Nat) (l : List Nat) (cur : Array Value) : Prop where
  inv : TimesIn l0 ly l low d k c
  held : Held wr w.heap.size cur
  digs : DigsIn cur 0 l
  below : Below w.heap.size w wr
theorem TimesI.step {ly : List Nat} {low d : Nat} {l0 : List Nat} {w wr : World} {k c : Nat} {l : List Nat} {cur : Array Value} (h : TimesI ly l0 low d w wr k c l cur) (hy : Dgs ly) (hd : d < 1000000000) (hk : low + k < l.length) (v : Value) (hv : v = .int .u64 ((l.getD (low + k) 0 + d * ly.getD k 0 + c) % 1000000000 : Nat)) :
    TimesI ly l0 low d w (wr.setCell ⟨w.heap.size, low + k, none⟩ v) (k + 1) ((l.getD (low + k) 0 + d * ly.getD k 0 + c) / 1000000000) (l.set (low + k) ((l.getD (low + k) 0 + d * ly.getD k 0 + c) % 1000000000)) (cur.set! (low + k) v) := by
  have e := h.digs.set (low + k) _ v hv hk
  rw [Nat.zero_add] at e
  exact ⟨h.inv.step hd hy hk, h.held.set (low + k) v, e, h.below.setCell (p := ⟨w.heap.size, low + k, none⟩) (Nat.le_refl _) _⟩
theorem TimesI.kept {ly : List Nat} {low d : Nat} {l0 : List Nat} {w wr W : World} {k c : Nat} {l : List Nat} {cur : Array Value} (h : TimesI ly l0 low d w wr k c l cur) (hb : Below wr.heap.size wr W) : TimesI ly l0 low d w W k c l cur :=
  ⟨h.inv, h.held.below hb h.held.lt, h.digs, h.below.trans (hb.mono h.below.size)⟩
theorem TimesO.step {lx ly : List Nat} {k : Nat} {w wr W : World} {l0 l : List Nat} {cur0 cur : Array Value} {c : Nat} (h : TimesO lx ly w wr k l0 cur0) (hk : k < lx.length) (hi : TimesI ly l0 k (lx.getD k 0) w W ly.length c l cur) (v : Value) (hv : v = .int .u64 c) :
    TimesO lx ly w (W.setCell ⟨w.heap.size, k + ly.length, none⟩ v) (k + 1) (l.set (k + ly.length) c) (cur.set! (k + ly.length) v) := by
  have e := hi.digs.set (k + ly.length) _ v hv (by rw [hi.inv.len, h.inv.len]; omega)
  rw [Nat.zero_add] at e
  exact ⟨h.inv.step hk hi.inv, hi.held.set _ v, e, hi.below.setCell (p := ⟨w.heap.size, k + ly.length, none⟩) (Nat.le_refl _) _⟩

set_option maxHeartbeats 2000000 in
set_option maxRecDepth 100000 in
theorem times_gen (lx ly : List Nat) (hdx : Dgs lx) (hdy : Dgs ly) (a1 a2 : Option Addr) (c1 c2 : Nat) (w : World) (h1 : RowAt w a1 lx) (h2 : RowAt w a2 ly) (hx : lx.length ≤ 100000) (hy : ly.length ≤ 100000) :
    Calls Tryd.prog 31 #[.slice a1 lx.length c1, .slice a2 ly.length c2] w (MadeRow w (val lx * val ly)) := by
  obtain ⟨i0, hi, hz0, hz1, hz2⟩ := info_parts u64_info
  obtain ⟨n, hn⟩ : ∃ n, n = lx.length := ⟨_, rfl⟩
  obtain ⟨m, hm⟩ : ∃ m, m = ly.length := ⟨_, rfl⟩
  rw [← hn] at hx ⊢
  rw [← hm] at hy ⊢
  have HN := Lib.hid hn
  have HM := Lib.hid hm
  have H1 := Lib.hid h1
  have H2 := Lib.hid h2
  clear hn hm h1 h2
  obtain ⟨s, hs⟩ : ∃ s, s = n + m := ⟨_, rfl⟩
  have hs1 : s ≤ 200000 := by omega
  have HS := Lib.hid hs
  clear hs
  go_enter Tryd.func31, Tryd.ntmps31
  go_wp2_with (at_make; refine wpList_make_full _ rfl (.tmp 14) (.tmp 14) 42 rfl w.heap.size 59 i0 (.int .u64 0) 1 Tryd.underlying42 hi hz0 hz1 .i64 .i64 _ _ s rfl rfl (by have := HS.out; omega) (by have := HS.out; omega) (by rw [hz2]; omega) (by unfold maxLen; omega) (Nat.le_refl _) ?_; intro w1 hown hgr)
  obtain ⟨cur, hh, hcs, hdg⟩ := made_held hown
  have HB := Lib.hid ((Below.refl w.heap.size w).grown hgr (Nat.le_refl _) (by simp))
  have HW : Hid (TimesO lx ly w w1 0 (List.replicate s 0) cur) := Lib.hid ⟨by rw [HS.out, HN.out, HM.out]; exact TimesAt.start _ _, hh, hdg, HB.out⟩
  clear hown hgr hh hcs hdg HB hi hz0 hz1 hz2 i0
  obtain ⟨B, hB⟩ : ∃ B, B = w.heap.size := ⟨_, rfl⟩
  have HBE := Lib.hid hB
  rw [← hB]
  clear hB
  go_wp2_with fail
  go_loopw [6, 7, 8, 9, 18] (fun _ _ _ _ iv wr => ∃ (k : Nat) (l : List Nat) (cur : Array Value), iv = .int .i64 k ∧ k ≤ n ∧ Hid (TimesO lx ly w wr k l cur)) (fun _ _ _ _ iv _ => n - (intOf iv).toNat)
  case atStart => exact ⟨0, _, _, rfl, Nat.zero_le _, HW⟩
  case round =>
    obtain ⟨k, l0, cur0, rfl, hk, HO⟩ := hrel
    clear HW
    by_cases hlt : k < n
    · have HI : Hid (TimesI ly l0 k (lx.getD k 0) w wr 0 0 l0 cur0) := Lib.hid ⟨TimesIn.start _ _ _ HO.out.inv.ok, HO.out.held, HO.out.digs, HO.out.below⟩
      have hl0 : l0.length = s := by rw [HO.out.inv.len, ← HN.out, ← HM.out, HS.out]
      have HL0 := Lib.hid hl0
      clear hl0
      have hwz := HO.out.below.size
      generalize wr = wx at *
      go_wp2_with fail
      go_loopw [7, 8, 9, 23] (fun cv _ _ jv wq => ∃ (j c : Nat) (l : List Nat) (cu : Array Value), cv = .int .u64 c ∧ jv = .int .i64 j ∧ j ≤ m ∧ c < 1000000000 ∧ Hid (TimesI ly l0 k (lx.getD k 0) w wq j c l cu)) (fun _ _ _ jv _ => m - (intOf jv).toNat)
      case atStart => exact ⟨0, 0, _, _, rfl, rfl, Nat.zero_le _, by omega, HI⟩
      case round =>
        obtain ⟨j, c, l, cu, rfl, rfl, hj, hc, HW⟩ := hrel
        clear HI
        have hlen : l.length = s := HW.out.inv.len.trans HL0.out
        by_cases hjm : j < m
        · have b1 := hdx.get k
          have b2 := hdy.get j
          have b3 := HW.out.inv.ok.get (k + j)
          have hkj : k + j < s := by have := HS.out; omega
          have q := fun W (hb : Below wr.heap.size wr W) => (HW.out.kept hb).step hdy b1 (by rw [hlen]; exact hkj) _ rfl
          obtain ⟨g1, o1, rfl, q1⟩ := (H1.out.below HW.out.below).cellAt k (by rw [← HN.out]; exact hlt)
          obtain ⟨g2, o2, rfl, q2⟩ := (H2.out.below HW.out.below).cellAt j (by rw [← HM.out]; exact hjm)
          have q3 := HW.out.held.cell HW.out.digs (k + j) (by rw [hlen]; exact hkj)
          rw [Nat.zero_add, ← HBE.out] at q3
          have hfz : ∀ z : Kept wr, z.W.frozen? ⟨B, k + j, none⟩ = false := fun z => by
            have := (HW.out.held.below z.h HW.out.held.lt).free (k + j)
            rwa [← HBE.out] at this
          generalize l.getD (k + j) 0 = d0 at *
          generalize lx.getD k 0 = d1 at *
          generalize ly.getD j 0 = d2 at *
          have Q1 : ∀ z : Kept wr, z.W.cell? ⟨g1, o1 + k, none⟩ = some (.int .u64 d1) := fun z => z.cell q1
          have Q2 : ∀ z : Kept wr, z.W.cell? ⟨g2, o2 + j, none⟩ = some (.int .u64 d2) := fun z => z.cell q2
          have Q3 : ∀ z : Kept wr, z.W.cell? ⟨B, k + j, none⟩ = some (.int .u64 d0) := fun z => z.cell q3
          have hpb := digit_bound b3 b1 b2 hc
          obtain ⟨p, hp⟩ : ∃ p, p = d1 * d2 := ⟨_, rfl⟩
          rw [← hp] at hpb q
          have hp2 : (d1 : Int) * (d2 : Int) = (p : Int) := by rw [hp]; simp
          have hpb1 := hpb.1
          have hpb2 := hpb.2.1
          have hpb3 := hpb.2.2
          have HQ := Lib.hid q
          clear hp hpb q q1 q2 q3 HW
          go_wp2_with fail
          refine wp_region_kept (by kernel_rfl) (by kernel_rfl) ?_
          repeat (go_big_quiet_step (fail))
          refine wpQuiet_nil ?_
          rintro _ ⟨z, rfl⟩
          have hfz2 := hfz z
          have hq3 := Q3 z
          have HQ2 := Lib.hid (HQ.out z.W z.h)
          clear HQ Q1 Q2 Q3 hfz hp2
          go_wp2
          go_roundw
          case rel => exact ⟨j + 1, (d0 + p + c) / 1000000000, _, _, by go_num, by go_num, by omega, by omega, Lib.hid (by have := HQ2.out; rw [← HBE.out] at this; exact this)⟩
          case measure => simp [intOf]; omega
        · obtain rfl : j = m := by omega
          have q := HO.out.step (by rw [← HN.out]; exact hlt) (by rw [← HM.out]; exact HW.out) (.int .u64 c) rfl
          rw [← HM.out, ← HBE.out] at q
          have HQ := Lib.hid q
          have hkj : k + j < s := by have := HS.out; omega
          have hfz := HW.out.held.free (k + j)
          have q3 := HW.out.held.cell HW.out.digs (k + j) (by rw [hlen]; exact hkj)
          rw [Nat.zero_add, ← HBE.out] at q3
          rw [← HBE.out] at hfz
          generalize l.getD (k + j) 0 = d0 at q3
          clear q HW
          go_wp2
          go_roundw
          case rel => exact ⟨k + 1, _, _, by go_num, by omega, HQ⟩
          case measure => simp [intOf]; omega
    · obtain rfl : k = n := by omega
      have hv := TimesAt.fin (by rw [← HN.out]; exact HO.out.inv)
      have hlen : l0.length = s := by rw [HO.out.inv.len, ← HN.out, ← HM.out, HS.out]
      have C := cut_any l0 (some ⟨w.heap.size, 0, none⟩) s wr (.inr ⟨_, _, cur0, rfl, HO.out.held, HO.out.digs⟩) HO.out.inv.ok (by omega) (by omega)
      rw [hlen, hv, ← HBE.out] at C
      have HC := Lib.hid C
      have HB := Lib.hid HO.out.below
      clear C hv hlen HO
      go_wp2_with ((with_reducible refine HC.out.mono ?_); rintro e w' ⟨rfl, hr, rfl⟩; have HR := Lib.hid hr; clear hr)
      go_ret
      exact ⟨B, rfl, by rw [HBE.out]; exact Nat.le_refl _, HR.out, HB.out⟩
theorem times_any (x y : Nat) (a1 a2 : Option Addr) (c1 c2 : Nat) (w : World) (h1 : RowAt w a1 (dgs x)) (h2 : RowAt w a2 (dgs y)) (hx : (dgs x).length ≤ 100000) (hy : (dgs y).length ≤ 100000) :
    Calls Tryd.prog 31 #[.slice a1 (dgs x).length c1, .slice a2 (dgs y).length c2] w (MadeRow w (x * y)) := by
  have := times_gen (dgs x) (dgs y) (dgs_ok x) (dgs_ok y) a1 a2 c1 c2 w h1 h2 hx hy
  rwa [val_dgs, val_dgs] at this
end Go.Proofs.YtpdkebljacmgfaaDoor
