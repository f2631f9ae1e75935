/- TagHolds: whether any constraint may be, whether it holds, its least version, how it is written: all as the document says. -/
import Derived.Test.YtojdhlmmnhjolaaDoorTag32
import Derived.Test.YtojdhlmmnhjolaaDoorTag20
import Derived.Test.YtojdhlmmnhjolaaDoorTagF
namespace Go.Proofs.YtojdhlmmnhjolaaDoor
open Go.RowKit
set_option linter.unusedVariables false

set_option maxHeartbeats 4000000 in
set_option maxRecDepth 100000 in
theorem holds_walk (x : Ex) (v : Value) (w : World) (ok : Nat → Prop) (hb : bulkE x ≤ 1048576) (hx : ExtAt w ok x v) (a : Option Addr) (n cap : Nat) (zs : List ByteArray) (hz : TagRow w a n zs) :
    Calls Tryd.prog 3 #[v, .slice a n cap] w fun e w' => e = .returned (.bool true) ∧ Below w.heap.size w w' := by
  have hwb := writeM_bulk x hb
  obtain ⟨op, tag, k⟩ := x
  have hx' := hx
  rw [ExtAt_eq] at hx'
  obtain ⟨b, c, rfl, hk⟩ := hx'
  have hW1 := (Below.refl w.heap.size w).alloc (Nat.le_refl _) (.cells #[.string op, .string tag, .slice b k.length c] 24)
  have hq := heap_alloc_new w (.cells #[.string op, .string tag, .slice b k.length c] 24)
  obtain ⟨⟨d0, d1, d2⟩, -⟩ := three_cells hq
  have c1 := size_any (.mk op tag k) (.agg #[.string op, .string tag, .slice b k.length c]) _ ok hb (by rw [ExtAt_eq]; exact ⟨b, c, rfl, hk.below hW1⟩)
  have COF := Lib.hid (fun W (h : Below w.heap.size w W) => of_any (.mk op tag k) (.agg #[.string op, .string tag, .slice b k.length c]) W ok hb (by rw [ExtAt_eq]; exact ⟨b, c, rfl, hk.below h⟩))
  have CRR := Lib.hid (fun W (h : Below w.heap.size w W) => RefRight_any (.mk op tag k) (.agg #[.string op, .string tag, .slice b k.length c]) W ok hb (by rw [ExtAt_eq]; exact ⟨b, c, rfl, hk.below h⟩))
  have HK := Lib.hid hk
  have HW1 := Lib.hid hW1
  have HQ := Lib.hid hq
  have HBU := Lib.hid hb
  have HSM := Lib.hid (small_bulk _ hb)
  have HWB := Lib.hid hwb
  have HZ := Lib.hid hz
  clear hW1 hx hk hb hq hwb hz
  generalize nodesE (.mk op tag k) = q at *
  by_cases h1 : 200 < q
  · have g1 : decide ((200 : Int) < (q : Int)) = true := by simp; omega
    go_enter Tryd.func3, Tryd.ntmps3
    go_wp2_with fail
    refine c1.mono ?_
    rintro e w2 ⟨rfl, hb2⟩
    go_wp2
    go_ret
    exact ⟨rfl, HW1.out.trans (hb2.mono HW1.out.size)⟩
  have g1 : decide ((200 : Int) < (q : Int)) = false := by simp; omega
  by_cases h2 : 20 < n
  · have g2 : decide ((20 : Int) < (n : Int)) = true := by simp; omega
    go_enter Tryd.func3, Tryd.ntmps3
    go_wp2_with fail
    refine c1.mono ?_
    rintro e w2 ⟨rfl, hb2⟩
    go_wp2
    go_ret
    exact ⟨rfl, HW1.out.trans (hb2.mono HW1.out.size)⟩
  have g2 : decide ((20 : Int) < (n : Int)) = false := by simp; omega
  have HN2 : Hid (n ≤ 20) := by show _ ≤ _; omega
  clear h1 h2
  have hmx : Tryd.prog.follows .mixedOrders = true := by kernel_rfl
  go_enter Tryd.func3, Tryd.ntmps3
  go_wp2_with fail
  refine c1.mono ?_
  rintro e w2 ⟨rfl, hb2⟩
  have HB2 := Lib.hid (HW1.out.trans (hb2.mono HW1.out.size))
  have HQ2 := Lib.hid ((hb2.block _ (lt_of_block HQ.out)).trans HQ.out)
  clear d0 d1 d2 hb2 c1
  obtain ⟨⟨d0, d1, d2⟩, -⟩ := three_cells HQ2.out
  go_wp2_with fail
  refine (COF.out _ HB2.out).mono ?_
  rintro e w3 ⟨hb3, u3, rfl, hx3⟩
  rw [ExtAt_eq] at hx3
  obtain ⟨b4, c4, rfl, hk4⟩ := hx3
  have HB3 := Lib.hid (HB2.out.trans (hb3.mono HB2.out.size))
  have hb5 := (Below.refl w3.heap.size w3).alloc (Nat.le_refl _) (.cells #[.string op, .string tag, .slice b4 k.length c4] 29)
  have hq5 := heap_alloc_new w3 (.cells #[.string op, .string tag, .slice b4 k.length c4] 29)
  have hqx := (heap_alloc_old w3 (.cells #[.string op, .string tag, .slice b4 k.length c4] 29) (lt_of_block ((hb3.block _ (lt_of_block HQ2.out)).trans HQ2.out))).trans ((hb3.block _ (lt_of_block HQ2.out)).trans HQ2.out)
  have HB5 := Lib.hid (HB3.out.trans (hb5.mono HB3.out.size))
  have hk5 := hk4.below hb5
  obtain ⟨F, hF⟩ : ∃ F, F = w3.alloc (.cells #[.string op, .string tag, .slice b4 k.length c4] 29) := ⟨_, rfl⟩
  rw [← hF] at HB5 hq5 hqx hk5
  have HF := Lib.hid hF
  have HP := Lib.hid hq5
  have HX := Lib.hid hqx
  have KX := fun W' (h : Below F.heap.size F W') => (HB5.out.trans (h.mono HB5.out.size) : Below w.heap.size w W')
  have CR := Lib.hid (fun W' (h : Below F.heap.size F W') => Right_any (.mk op tag k) (.agg #[.string op, .string tag, .slice b4 k.length c4]) W' _ HSM.out (by rw [ExtAt_eq]; exact ⟨b4, c4, rfl, hk5.below h⟩))
  have CH := Lib.hid (fun W' (h : Below F.heap.size F W') => Holds_any (.mk op tag k) (.agg #[.string op, .string tag, .slice b4 k.length c4]) (.slice a n cap) (Lib.containsS zs) W' _ HSM.out (by rw [ExtAt_eq]; exact ⟨b4, c4, rfl, hk5.below h⟩) ((HZ.out.below (KX W' h)).ok cap (by have := HN2.out; omega)))
  have CL := Lib.hid (fun W' (h : Below F.heap.size F W') => Least_any (.mk op tag k) (.agg #[.string op, .string tag, .slice b4 k.length c4]) W' _ HSM.out (by rw [ExtAt_eq]; exact ⟨b4, c4, rfl, hk5.below h⟩))
  have CW := Lib.hid (fun W' (h : Below F.heap.size F W') => Write_any (.mk op tag k) (.agg #[.string op, .string tag, .slice b4 k.length c4]) W' _ HSM.out HWB.out (by rw [ExtAt_eq]; exact ⟨b4, c4, rfl, hk5.below h⟩))
  have RH := Lib.hid (fun (hr : ∃ m, rightE m (.mk op tag k) = true) W' (h : Below F.heap.size F W') => rholds_all 1048576 (Nat.le_refl _) (.mk op tag k) (.agg #[.string op, .string tag, .slice b k.length c]) W' ok a n cap zs HBU.out (Nat.le_refl _) hr (by rw [ExtAt_eq]; exact ⟨b, c, rfl, HK.out.below (KX W' h)⟩) (HZ.out.below (KX W' h)) (by have := HN2.out; omega))
  have RL := Lib.hid (fun (hr : ∃ m, rightE m (.mk op tag k) = true) W' (h : Below F.heap.size F W') => rleast_all 1048576 (Nat.le_refl _) (.mk op tag k) (.agg #[.string op, .string tag, .slice b k.length c]) W' ok HBU.out (Nat.le_refl _) hr (by rw [ExtAt_eq]; exact ⟨b, c, rfl, HK.out.below (KX W' h)⟩))
  have RW := Lib.hid (fun (hr : ∃ m, rightE m (.mk op tag k) = true) W' (h : Below F.heap.size F W') => rwrite_all 1048576 (Nat.le_refl _) (.mk op tag k) (.agg #[.string op, .string tag, .slice b k.length c]) W' ok ⟨#[]⟩ HBU.out (Nat.le_refl _) hr (by rw [ExtAt_eq]; exact ⟨b, c, rfl, HK.out.below (KX W' h)⟩) (.inl rfl))
  obtain ⟨⟨x0, x1, x2⟩, -⟩ := three_cells (show (w3.alloc (.cells #[.string op, .string tag, .slice b4 k.length c4] 29)).heap[w.heap.size]? = _ by rw [← hF]; exact hqx)
  have CR1 := CRR.out F HB5.out
  rw [hF] at CR1
  clear d0 d1 d2 hb3 hk4 hb5 hq5 hqx hk5 hF
  cases hr : rightE 100 (.mk op tag k) with
  | false =>
    rw [hr] at CR1 CR
    have hwm : writeM (.mk op tag k) = [] := by unfold writeM; rw [hr]; rfl
    have hhm : holdsM (Lib.containsS zs) (.mk op tag k) = false := by unfold holdsM; rw [hr]; rfl
    have hlm : leastM (.mk op tag k) = -1 := by unfold leastM; rw [hr]; rfl
    rw [hwm] at CW
    rw [hhm] at CH
    rw [hlm] at CL
    clear RH RL RW hr hwm hhm hlm KX
    go_wp2_with fail
    refine CR1.mono ?_
    rintro e w4 ⟨rfl, hb4⟩
    rw [← HF.out] at hb4
    have HV4 := Lib.hid hb4
    clear hb4 CR1 x0 x1 x2
    obtain ⟨⟨p0, p1, p2⟩, -⟩ := three_cells ((HV4.out.block _ (lt_of_block HP.out)).trans HP.out)
    go_wp2_with fail
    refine (CR.out _ HV4.out).mono ?_
    rintro e w5 ⟨rfl, hb5⟩
    have HV5 := Lib.hid (HV4.out.trans (hb5.mono HV4.out.size))
    clear hb5 p0 p1 p2
    obtain ⟨⟨p0, p1, p2⟩, -⟩ := three_cells ((HV5.out.block _ (lt_of_block HP.out)).trans HP.out)
    go_wp2_with fail
    refine (CH.out _ HV5.out).mono ?_
    rintro e w6 ⟨rfl, hb6⟩
    have HV6 := Lib.hid (HV5.out.trans (hb6.mono HV5.out.size))
    clear hb6 p0 p1 p2
    obtain ⟨⟨p0, p1, p2⟩, -⟩ := three_cells ((HV6.out.block _ (lt_of_block HP.out)).trans HP.out)
    go_wp2_with fail
    refine (CL.out _ HV6.out).mono ?_
    rintro e w7 ⟨rfl, hb7⟩
    have HV7 := Lib.hid (HV6.out.trans (hb7.mono HV6.out.size))
    clear hb7 p0 p1 p2
    obtain ⟨⟨p0, p1, p2⟩, -⟩ := three_cells ((HV7.out.block _ (lt_of_block HP.out)).trans HP.out)
    go_wp2_with fail
    refine (CW.out _ HV7.out).mono ?_
    rintro e w8 ⟨rfl, hb8⟩
    have HV8 := Lib.hid (HV7.out.trans (hb8.mono HV7.out.size))
    clear hb8 p0 p1 p2
    go_wp2_with fail
    refine (awake_any _).mono ?_
    rintro e w9 ⟨rfl, hb9⟩
    go_wp2
    go_ret
    exact ⟨rfl, HB5.out.trans ((HV8.out.trans (hb9.mono HV8.out.size)).mono HB5.out.size)⟩
  | true =>
    rw [hr] at CR1 CR
    have hhm : holdsM (Lib.containsS zs) (.mk op tag k) = holdsE versM (Lib.containsS zs) (.mk op tag k) := by unfold holdsM; rw [hr]; rfl
    have hlm : leastM (.mk op tag k) = leastE versM (.mk op tag k) := by unfold leastM; rw [hr]; rfl
    have hwm : writeM (.mk op tag k) = wIn (.mk op tag k) (ls ⟨#[]⟩) := by unfold writeM; rw [hr]; rfl
    rw [hwm] at CW
    rw [hhm] at CH
    rw [hlm] at CL
    have RH1 := Lib.hid (RH.out ⟨100, hr⟩)
    have RL1 := Lib.hid (RL.out ⟨100, hr⟩)
    have RW1 := Lib.hid (RW.out ⟨100, hr⟩)
    clear RH RL RW hr hwm hhm hlm KX
    generalize holdsE versM (Lib.containsS zs) (.mk op tag k) = hv at *
    generalize leastE versM (.mk op tag k) = lv at *
    generalize (⟨(wIn (.mk op tag k) (ls ⟨#[]⟩)).toArray⟩ : ByteArray) = sv at *
    go_wp2_with fail
    refine CR1.mono ?_
    rintro e w4 ⟨rfl, hb4⟩
    rw [← HF.out] at hb4
    have HV4 := Lib.hid hb4
    clear hb4 CR1 x0 x1 x2
    obtain ⟨⟨x0, x1, x2⟩, -⟩ := three_cells ((HV4.out.block _ (lt_of_block HX.out)).trans HX.out)
    obtain ⟨⟨p0, p1, p2⟩, -⟩ := three_cells ((HV4.out.block _ (lt_of_block HP.out)).trans HP.out)
    replace x0 := fun X : Kept w4 => Kept.cell x0 X
    replace x1 := fun X : Kept w4 => Kept.cell x1 X
    replace x2 := fun X : Kept w4 => Kept.cell x2 X
    replace p0 := fun X : Kept w4 => Kept.cell p0 X
    replace p1 := fun X : Kept w4 => Kept.cell p1 X
    replace p2 := fun X : Kept w4 => Kept.cell p2 X
    have KK := Lib.hid (fun X : Kept w4 => HV4.out.trans (X.h.mono HV4.out.size))
    go_wp2_with fail
    refine wp_region_kept hmx (by kernel_rfl) ?_
    go_big_quiet_step (fail)
    go_big_quiet_step ((go_at_call 13; exact kept_call (CR.out _ (KK.out _))))
    go_big_quiet_step (fail)
    go_big_quiet_step (fail)
    go_big_quiet_step (fail)
    go_big_quiet_step ((go_at_call 14; exact kept_call (CH.out _ (KK.out _))))
    go_big_quiet_step (fail)
    go_big_quiet_step (fail)
    go_big_quiet_step ((go_at_call 18; exact kept_call (RH1.out _ (KK.out _))))
    go_big_quiet_step (fail)
    go_big_quiet_step (fail)
    go_big_quiet_step (fail)
    go_big_quiet_step (fail)
    go_big_quiet_step ((go_at_call 15; exact kept_call (CL.out _ (KK.out _))))
    go_big_quiet_step (fail)
    go_big_quiet_step ((go_at_call 19; exact kept_call (RL1.out _ (KK.out _))))
    go_big_quiet_step (fail)
    go_big_quiet_step (fail)
    go_big_quiet_step (fail)
    go_big_quiet_step (fail)
    go_big_quiet_step ((go_at_call 16; exact kept_call (CW.out _ (KK.out _))))
    go_big_quiet_step (fail)
    go_big_quiet_step ((go_at_call 20; exact kept_call (RW1.out _ (KK.out _))))
    go_big_quiet_step (fail)
    go_big_quiet_step (fail)
    go_big_quiet_step (fail)
    go_big_quiet_step ((go_at_call 17; exact kept_call (awake_any _)))
    go_big_quiet_step (fail)
    go_big_quiet_step (fail)
    refine wpQuiet_nil ?_
    rintro _ ⟨v0, rfl⟩
    have HV8 := Lib.hid (KK.out v0)
    go_wp2
    go_ret
    exact ⟨rfl, HB5.out.trans (HV8.out.mono HB5.out.size)⟩
end Go.Proofs.YtojdhlmmnhjolaaDoor
