/- The document's Holds and Least (made by tools/gentag30.py). -/
import Derived.Test.YtojdhlmmnhjolaaDoorTag28
import Derived.Test.YtojdhlmmnhjolaaDoorTag29
import Derived.Test.YtojdhlmmnhjolaaDoorTag15
import Derived.Test.YtojdhlmmnhjolaaDoorTagU
import Derived.Test.YtojdhlmmnhjolaaDoorTagG
namespace Go.Proofs.YtojdhlmmnhjolaaDoor
open Go.RowKit
set_option linter.unusedVariables false

def RHoldsOk (N : Nat) : Prop := ∀ (x : Ex) (v : Value) (w : World) (ok : Nat → Prop) (a : Option Addr) (n cap : Nat) (zs : List ByteArray), bulkE x ≤ N → N ≤ 1048576 → (∃ m, rightE m x = true) → ExtAt w ok x v → TagRow w a n zs → n ≤ 100 → Calls Tryd.prog 18 #[v, .slice a n cap] w fun e w' => e = .returned (.bool (holdsE versM (Lib.containsS zs) x)) ∧ Below w.heap.size w w'
theorem cont_at (zs : List ByteArray) (j : Nat) (z t : ByteArray) (h : zs[j]? = some z) : Lib.containsS (zs.drop j) t = (decide (z = t) || Lib.containsS (zs.drop (j + 1)) t) := by
  obtain ⟨hlt, hz⟩ := List.getElem?_eq_some_iff.1 h
  rw [List.drop_eq_getElem_cons hlt, hz, Bool.eq_iff_iff, Bool.or_eq_true, Lib.containsS_iff, Lib.containsS_iff, decide_eq_true_eq, List.mem_cons]
  exact ⟨fun h => h.imp Eq.symm id, fun h => h.imp Eq.symm id⟩
theorem str_ne2 {a b : ByteArray} (h : a ≠ b) : (a.toList == b.toList) = false ∧ ¬ a.toList = b.toList := by
  have : ¬ a.toList = b.toList := fun e => h (by
    rw [Lib.toList_data, Lib.toList_data] at e
    apply ByteArray.ext
    exact Array.toList_inj.1 e)
  exact ⟨beq_eq_false_iff_ne.2 this, this⟩
theorem vers_bnd30 (t : ByteArray) : -1 ≤ versM t ∧ versM t ≤ 99 := by
  unfold versM versionL
  split
  · split
    · rename_i n hn
      have := minorL_le hn
      split
      · omega
      · decide
    · decide
  · decide
theorem cont_nil (t : ByteArray) : Lib.containsS [] t = false := by
  rw [Bool.eq_false_iff, Ne, Lib.containsS_iff]
  exact List.not_mem_nil

set_option maxHeartbeats 1000000 in
set_option maxRecDepth 100000 in
theorem rholds_tag (tag : ByteArray) (k : List Ex) (c : Option Addr) (d : Nat) (w : World) (ht : tag.size ≤ 1048576) (a : Option Addr) (n cap : Nat) (zs : List ByteArray) (hz : TagRow w a n zs) (hn : n ≤ 100) :
    Calls Tryd.prog 18 #[.agg #[.string ⟨#[]⟩, .string tag, .slice c k.length d], .slice a n cap] w fun e w' => e = .returned (.bool (holdsE versM (Lib.containsS zs) (.mk ⟨#[]⟩ tag k))) ∧ Below w.heap.size w w' := by
  rw [ho_tag]
  have hW1 := (Below.refl w.heap.size w).alloc (Nat.le_refl _) (.cells #[.string ⟨#[]⟩, .string tag, .slice c k.length d] 24)
  have hq := heap_alloc_new w (.cells #[.string ⟨#[]⟩, .string tag, .slice c k.length d] 24)
  obtain ⟨⟨d0, d1, d2⟩, -⟩ := three_cells hq
  have HQ := Lib.hid hq
  have HW1 := Lib.hid hW1
  have HZ := Lib.hid hz
  have cv := fun w => Version_any tag ht w
  have hvb := vers_bnd30 tag
  have hmx : Tryd.prog.follows .mixedOrders = true := by kernel_rfl
  clear hq hW1 hz ht
  by_cases hv : versM tag = -1
  · rw [if_pos hv]
    rw [hv] at cv
    clear hv hvb
    go_enter Tryd.func18, Tryd.ntmps18
    go_wp2_with fail
    refine (cv _).mono ?_
    rintro e w2 ⟨rfl, hb2⟩
    have HB2 := Lib.hid (HW1.out.trans (hb2.mono HW1.out.size))
    have HQ2 := Lib.hid ((hb2.block _ (lt_of_block HQ.out)).trans HQ.out)
    clear hb2 d0 d1 d2
    go_wp2_with fail
    go_loopw [7] (fun s7 wr => ∃ (j : Nat), s7 = .int .i64 j ∧ j ≤ n ∧ Hid (Below w.heap.size w wr) ∧ Hid (wr.heap[w.heap.size]? = some (.cells #[.string ⟨#[]⟩, .string tag, .slice c k.length d] 24 (0, 0))) ∧ Hid (Lib.containsS zs tag = Lib.containsS (zs.drop j) tag))
      (fun s7 wr => n - (intOf s7).toNat)
    case atStart =>
      exact ⟨0, rfl, Nat.zero_le _, HB2, HQ2, rfl⟩
    case round =>
      obtain ⟨j, rfl, hj, HB, HQR, HM⟩ := hrel
      obtain ⟨⟨e0, e1, e2⟩, -⟩ := three_cells HQR.out
      by_cases hlt : j < n
      · have gl : decide ((j : Int) < (n : Int)) = true := by simp; omega
        obtain ⟨hzl, h0 | ⟨b2, off2, rfl, hlt2, hc⟩⟩ := HZ.out
        · omega
        have kc := fun X : Kept wr => Kept.cell ((HB.out.cell (p := ⟨b2, off2 + j, none⟩) hlt2).trans (hc j hlt)) X
        have E1 := fun X : Kept wr => Kept.cell e1 X
        have HST := Lib.hid (cont_at zs j (zs.getD j ByteArray.empty) tag (by rw [List.getD, List.getElem?_eq_getElem (by omega)]; rfl))
        clear hc
        generalize zs.getD j ByteArray.empty = z at *
        by_cases he : z = tag
        · rw [decide_eq_true he, Bool.true_or] at HST
          subst he
          go_wp2_with fail
          refine wp_region_kept hmx (by kernel_rfl) ?_
          repeat (go_big_quiet_step (fail))
          refine wpQuiet_nil ?_
          rintro _ ⟨v0, rfl⟩
          have HB5 := Lib.hid (HB.out.trans (v0.h.mono HB.out.size))
          go_wp2
          go_ret
          refine ⟨?_, HB5.out⟩
          rw [HM.out, HST.out]
          rfl
        · obtain ⟨f1, f2⟩ := str_ne2 he
          rw [decide_eq_false he, Bool.false_or] at HST
          clear he
          go_wp2_with fail
          refine wp_region_kept hmx (by kernel_rfl) ?_
          repeat (go_big_quiet_step (fail))
          refine wpQuiet_nil ?_
          rintro _ ⟨v0, rfl⟩
          have HB5 := Lib.hid (HB.out.trans (v0.h.mono HB.out.size))
          have HQ5 := Lib.hid ((v0.h.block _ (lt_of_block HQR.out)).trans HQR.out)
          clear E1 kc e0 e1 e2
          generalize v0.W = X0 at *
          go_wp2
          go_roundw
          case rel => exact ⟨j + 1, by go_num, by omega, HB5.out, HQ5.out, by show _ = _; rw [HM.out, HST.out]⟩
          case measure => simp [intOf]; omega
      · have gl : decide ((j : Int) < (n : Int)) = false := by simp; omega
        have hjk : j = n := by omega
        go_wp2
        go_ret
        refine ⟨?_, HB.out⟩
        rw [HM.out, hjk, ← HZ.out.1, List.drop_length, cont_nil]
        rfl
  · rw [if_neg hv]
    have g1 : decide ((0 : Int) ≤ versM tag) = true := by simp; omega
    clear hv hvb
    generalize versM tag = vv at *
    go_enter Tryd.func18, Tryd.ntmps18
    go_wp2_with fail
    refine (cv _).mono ?_
    rintro e w2 ⟨rfl, hb2⟩
    have HB2 := Lib.hid (HW1.out.trans (hb2.mono HW1.out.size))
    clear hb2 d0 d1 d2
    go_wp2
    go_ret
    exact ⟨rfl, HB2.out⟩

set_option maxRecDepth 100000 in
theorem rholds_not (N : Nat) (hN : N ≤ 1048576) (ih : RHoldsOk N) (tag : ByteArray) (y : Ex) (c : Option Addr) (d : Nat) (w : World) (ok : Nat → Prop) (hby : bulkE y ≤ N) (hry : ∃ m, rightE m y = true) (hl : ExtK w ok [y] c d) (a : Option Addr) (n cap : Nat) (zs : List ByteArray) (hz : TagRow w a n zs) (hn : n ≤ 100) :
    Calls Tryd.prog 18 #[.agg #[.string ⟨#[33]⟩, .string tag, .slice c 1 d], .slice a n cap] w fun e w' => e = .returned (.bool (holdsE versM (Lib.containsS zs) (.mk ⟨#[33]⟩ tag [y]))) ∧ Below w.heap.size w w' := by
  rw [ho_not, headH]
  have hW1 := (Below.refl w.heap.size w).alloc (Nat.le_refl _) (.cells #[.string ⟨#[33]⟩, .string tag, .slice c 1 d] 24)
  have hq := heap_alloc_new w (.cells #[.string ⟨#[33]⟩, .string tag, .slice c 1 d] 24)
  obtain ⟨⟨d0, d1, d2⟩, -⟩ := three_cells hq
  obtain ⟨o2, t2, k2⟩ := y
  obtain ⟨b, off, a2, cap2, rfl, hbw, m0, m1, m2, hl2⟩ := hl.cells (i := 0) rfl
  rw [Nat.zero_mul, Nat.add_zero] at m0 m1 m2
  have k0 := (hW1.cell (p := ⟨b, _, none⟩) hbw).trans m0
  have k1 := (hW1.cell (p := ⟨b, _, none⟩) hbw).trans m1
  have k3 := (hW1.cell (p := ⟨b, _, none⟩) hbw).trans m2
  have c1 := ih (.mk o2 t2 k2) (.agg #[.string o2, .string t2, .slice a2 k2.length cap2]) _ ok a n cap zs hby hN hry (by rw [ExtAt_eq]; exact ⟨a2, cap2, rfl, hl2.below hW1⟩) (hz.below hW1) hn
  have HW1 := Lib.hid hW1
  generalize holdsE versM (Lib.containsS zs) (.mk o2 t2 k2) = h at *
  clear m0 m1 m2 hl2 hl hq hW1 hz ih
  go_enter Tryd.func18, Tryd.ntmps18
  go_wp2_with fail
  refine c1.mono ?_
  rintro e w2 ⟨rfl, hb2⟩
  go_wp2
  go_ret
  exact ⟨rfl, HW1.out.trans (hb2.mono HW1.out.size)⟩

set_option maxHeartbeats 1000000 in
set_option maxRecDepth 100000 in
theorem rholds_and (N : Nat) (hN : N ≤ 1048576) (ih : RHoldsOk N) (tag : ByteArray) (k : List Ex) (c : Option Addr) (d : Nat) (w : World) (ok : Nat → Prop) (hbk : bulkL k ≤ N) (hrk : ∃ m, rightL m k = true) (hl : ExtK w ok k c d) (a : Option Addr) (n cap : Nat) (zs : List ByteArray) (hz : TagRow w a n zs) (hn : n ≤ 100) :
    Calls Tryd.prog 18 #[.agg #[.string ⟨#[38, 38]⟩, .string tag, .slice c k.length d], .slice a n cap] w fun e w' => e = .returned (.bool (holdsE versM (Lib.containsS zs) (.mk ⟨#[38, 38]⟩ tag k))) ∧ Below w.heap.size w w' := by
  rw [ho_and]
  have hW1 := (Below.refl w.heap.size w).alloc (Nat.le_refl _) (.cells #[.string ⟨#[38, 38]⟩, .string tag, .slice c k.length d] 24)
  have hq := heap_alloc_new w (.cells #[.string ⟨#[38, 38]⟩, .string tag, .slice c k.length d] 24)
  obtain ⟨⟨d0, d1, d2⟩, -⟩ := three_cells hq
  have hbl := bulkL_len k
  have HQ := Lib.hid hq
  have HW1 := Lib.hid hW1
  have HL := Lib.hid hl
  have HIH := Lib.hid ih
  have HBK := Lib.hid hbk
  have HRK := Lib.hid hrk
  have HZ := Lib.hid hz
  have HNN : Hid (N ≤ 1048576 ∧ n ≤ 100) := ⟨hN, hn⟩
  have HKL : Hid (k.length ≤ 1048576) := by show _ ≤ _; omega
  have hmx : Tryd.prog.follows .mixedOrders = true := by kernel_rfl
  clear hq hW1 hl ih hbk hbl hrk hz hN hn
  go_enter Tryd.func18, Tryd.ntmps18
  go_wp2_with fail
  go_loopw [5] (fun s5 wr => ∃ (j : Nat), s5 = .int .i64 j ∧ j ≤ k.length ∧ Hid (Below w.heap.size w wr) ∧ Hid (wr.heap[w.heap.size]? = some (.cells #[.string ⟨#[38, 38]⟩, .string tag, .slice c k.length d] 24 (0, 0))) ∧ Hid (allH versM (Lib.containsS zs) k = allH versM (Lib.containsS zs) (k.drop j)))
    (fun s5 wr => k.length - (intOf s5).toNat)
  case atStart =>
    exact ⟨0, rfl, Nat.zero_le _, HW1, HQ, rfl⟩
  case round =>
    obtain ⟨j, rfl, hj, HB, HQR, HM⟩ := hrel
    have hk1 := HKL.out
    clear d0 d1 d2
    obtain ⟨⟨e0, e1, e2⟩, -⟩ := three_cells HQR.out
    by_cases hlt : j < k.length
    · have gl : decide ((j : Int) < (k.length : Int)) = true := by simp; omega
      obtain ⟨⟨o3, t3, k3⟩, hy3⟩ : ∃ y, k[j]? = some y := ⟨k[j], by simp [hlt]⟩
      obtain ⟨b, off, a3, cap3, rfl, hbw3, m0, m1, m2, hl3⟩ := HL.out.cells hy3
      have k0 := fun X : Kept wr => Kept.cell ((HB.out.cell (p := ⟨b, _, none⟩) hbw3).trans m0) X
      have k1 := fun X : Kept wr => Kept.cell ((HB.out.cell (p := ⟨b, _, none⟩) hbw3).trans m1) X
      have k2' := fun X : Kept wr => Kept.cell ((HB.out.cell (p := ⟨b, _, none⟩) hbw3).trans m2) X
      have E0 := fun X : Kept wr => Kept.cell e0 X
      have E2 := fun X : Kept wr => Kept.cell e2 X
      have C3 := Lib.hid (fun X : Kept wr => HIH.out (.mk o3 t3 k3) (.agg #[.string o3, .string t3, .slice a3 k3.length cap3]) X.W ok a n cap zs (Nat.le_trans (bulkL_mem3 _ _ _ hy3) HBK.out) HNN.out.1 (by obtain ⟨m, hm⟩ := HRK.out; exact ⟨m, rightL_mem hm hy3⟩) (by rw [ExtAt_eq]; exact ⟨a3, cap3, rfl, (hl3.below HB.out).below X.h⟩) ((HZ.out.below HB.out).below X.h) HNN.out.2)
      have HST := Lib.hid (allH_at versM (Lib.containsS zs) k j _ hy3)
      clear m0 m1 m2 hl3 hy3
      generalize holdsE versM (Lib.containsS zs) (.mk o3 t3 k3) = q at *
      cases q with
      | true =>
        go_wp2_with fail
        refine wp_region_kept hmx (by kernel_rfl) ?_
        repeat (go_big_quiet_step ((go_at_call 18; exact kept_call (C3.out _))))
        refine wpQuiet_nil ?_
        rintro _ ⟨v0, rfl⟩
        have HB5 := Lib.hid (HB.out.trans (v0.h.mono HB.out.size))
        have HQ5 := Lib.hid ((v0.h.block _ (lt_of_block HQR.out)).trans HQR.out)
        clear E0 E2 k0 k1 k2' C3 e0 e1 e2
        generalize v0.W = X0 at *
        go_wp2
        go_roundw
        case rel => exact ⟨j + 1, by go_num, by omega, HB5.out, HQ5.out, by show _ = _; rw [HM.out, HST.out]; rfl⟩
        case measure => simp [intOf]; omega
      | false =>
        go_wp2_with fail
        refine wp_region_kept hmx (by kernel_rfl) ?_
        repeat (go_big_quiet_step ((go_at_call 18; exact kept_call (C3.out _))))
        refine wpQuiet_nil ?_
        rintro _ ⟨v0, rfl⟩
        have HB5 := Lib.hid (HB.out.trans (v0.h.mono HB.out.size))
        have HQ5 := Lib.hid ((v0.h.block _ (lt_of_block HQR.out)).trans HQR.out)
        clear E0 E2 k0 k1 k2' C3 e0 e1 e2
        obtain ⟨⟨e0, e1, e2⟩, -⟩ := three_cells HQ5.out
        generalize v0.W = X0 at *
        go_wp2
        go_ret
        refine ⟨?_, HB5.out⟩
        rw [HM.out, HST.out]
        rfl
    · have gl : decide ((j : Int) < (k.length : Int)) = false := by simp; omega
      have hjk : j = k.length := by omega
      go_wp2
      go_ret
      refine ⟨?_, HB.out⟩
      rw [HM.out, hjk, List.drop_length, allH]
      rfl

set_option maxHeartbeats 1000000 in
set_option maxRecDepth 100000 in
theorem rholds_or (N : Nat) (hN : N ≤ 1048576) (ih : RHoldsOk N) (tag : ByteArray) (k : List Ex) (c : Option Addr) (d : Nat) (w : World) (ok : Nat → Prop) (hbk : bulkL k ≤ N) (hrk : ∃ m, rightL m k = true) (hl : ExtK w ok k c d) (a : Option Addr) (n cap : Nat) (zs : List ByteArray) (hz : TagRow w a n zs) (hn : n ≤ 100) :
    Calls Tryd.prog 18 #[.agg #[.string ⟨#[124, 124]⟩, .string tag, .slice c k.length d], .slice a n cap] w fun e w' => e = .returned (.bool (holdsE versM (Lib.containsS zs) (.mk ⟨#[124, 124]⟩ tag k))) ∧ Below w.heap.size w w' := by
  rw [ho_or]
  have hW1 := (Below.refl w.heap.size w).alloc (Nat.le_refl _) (.cells #[.string ⟨#[124, 124]⟩, .string tag, .slice c k.length d] 24)
  have hq := heap_alloc_new w (.cells #[.string ⟨#[124, 124]⟩, .string tag, .slice c k.length d] 24)
  obtain ⟨⟨d0, d1, d2⟩, -⟩ := three_cells hq
  have hbl := bulkL_len k
  have HQ := Lib.hid hq
  have HW1 := Lib.hid hW1
  have HL := Lib.hid hl
  have HIH := Lib.hid ih
  have HBK := Lib.hid hbk
  have HRK := Lib.hid hrk
  have HZ := Lib.hid hz
  have HNN : Hid (N ≤ 1048576 ∧ n ≤ 100) := ⟨hN, hn⟩
  have HKL : Hid (k.length ≤ 1048576) := by show _ ≤ _; omega
  have hmx : Tryd.prog.follows .mixedOrders = true := by kernel_rfl
  clear hq hW1 hl ih hbk hbl hrk hz hN hn
  go_enter Tryd.func18, Tryd.ntmps18
  go_wp2_with fail
  go_loopw [5] (fun s5 wr => ∃ (j : Nat), s5 = .int .i64 j ∧ j ≤ k.length ∧ Hid (Below w.heap.size w wr) ∧ Hid (wr.heap[w.heap.size]? = some (.cells #[.string ⟨#[124, 124]⟩, .string tag, .slice c k.length d] 24 (0, 0))) ∧ Hid (anyH versM (Lib.containsS zs) k = anyH versM (Lib.containsS zs) (k.drop j)))
    (fun s5 wr => k.length - (intOf s5).toNat)
  case atStart =>
    exact ⟨0, rfl, Nat.zero_le _, HW1, HQ, rfl⟩
  case round =>
    obtain ⟨j, rfl, hj, HB, HQR, HM⟩ := hrel
    have hk1 := HKL.out
    clear d0 d1 d2
    obtain ⟨⟨e0, e1, e2⟩, -⟩ := three_cells HQR.out
    by_cases hlt : j < k.length
    · have gl : decide ((j : Int) < (k.length : Int)) = true := by simp; omega
      obtain ⟨⟨o3, t3, k3⟩, hy3⟩ : ∃ y, k[j]? = some y := ⟨k[j], by simp [hlt]⟩
      obtain ⟨b, off, a3, cap3, rfl, hbw3, m0, m1, m2, hl3⟩ := HL.out.cells hy3
      have k0 := fun X : Kept wr => Kept.cell ((HB.out.cell (p := ⟨b, _, none⟩) hbw3).trans m0) X
      have k1 := fun X : Kept wr => Kept.cell ((HB.out.cell (p := ⟨b, _, none⟩) hbw3).trans m1) X
      have k2' := fun X : Kept wr => Kept.cell ((HB.out.cell (p := ⟨b, _, none⟩) hbw3).trans m2) X
      have E0 := fun X : Kept wr => Kept.cell e0 X
      have E2 := fun X : Kept wr => Kept.cell e2 X
      have C3 := Lib.hid (fun X : Kept wr => HIH.out (.mk o3 t3 k3) (.agg #[.string o3, .string t3, .slice a3 k3.length cap3]) X.W ok a n cap zs (Nat.le_trans (bulkL_mem3 _ _ _ hy3) HBK.out) HNN.out.1 (by obtain ⟨m, hm⟩ := HRK.out; exact ⟨m, rightL_mem hm hy3⟩) (by rw [ExtAt_eq]; exact ⟨a3, cap3, rfl, (hl3.below HB.out).below X.h⟩) ((HZ.out.below HB.out).below X.h) HNN.out.2)
      have HST := Lib.hid (anyH_at versM (Lib.containsS zs) k j _ hy3)
      clear m0 m1 m2 hl3 hy3
      generalize holdsE versM (Lib.containsS zs) (.mk o3 t3 k3) = q at *
      cases q with
      | false =>
        go_wp2_with fail
        refine wp_region_kept hmx (by kernel_rfl) ?_
        repeat (go_big_quiet_step ((go_at_call 18; exact kept_call (C3.out _))))
        refine wpQuiet_nil ?_
        rintro _ ⟨v0, rfl⟩
        have HB5 := Lib.hid (HB.out.trans (v0.h.mono HB.out.size))
        have HQ5 := Lib.hid ((v0.h.block _ (lt_of_block HQR.out)).trans HQR.out)
        clear E0 E2 k0 k1 k2' C3 e0 e1 e2
        generalize v0.W = X0 at *
        go_wp2
        go_roundw
        case rel => exact ⟨j + 1, by go_num, by omega, HB5.out, HQ5.out, by show _ = _; rw [HM.out, HST.out]; rfl⟩
        case measure => simp [intOf]; omega
      | true =>
        go_wp2_with fail
        refine wp_region_kept hmx (by kernel_rfl) ?_
        repeat (go_big_quiet_step ((go_at_call 18; exact kept_call (C3.out _))))
        refine wpQuiet_nil ?_
        rintro _ ⟨v0, rfl⟩
        have HB5 := Lib.hid (HB.out.trans (v0.h.mono HB.out.size))
        have HQ5 := Lib.hid ((v0.h.block _ (lt_of_block HQR.out)).trans HQR.out)
        clear E0 E2 k0 k1 k2' C3 e0 e1 e2
        obtain ⟨⟨e0, e1, e2⟩, -⟩ := three_cells HQ5.out
        generalize v0.W = X0 at *
        go_wp2
        go_ret
        refine ⟨?_, HB5.out⟩
        rw [HM.out, HST.out]
        rfl
    · have gl : decide ((j : Int) < (k.length : Int)) = false := by simp; omega
      have hjk : j = k.length := by omega
      go_wp2
      go_ret
      refine ⟨?_, HB.out⟩
      rw [HM.out, hjk, List.drop_length, anyH]
      rfl

theorem rholds_all : ∀ N, N ≤ 1048576 → RHoldsOk N
  | 0, _ => by
    intro x v w ok a n cap zs hb
    obtain ⟨op, tag, k⟩ := x
    rw [bulkE] at hb
    omega
  | N + 1, hN => by
    have ih := rholds_all N (by omega)
    intro x v w ok a n cap zs hb _ hr hx hz hn
    obtain ⟨op, tag, k⟩ := x
    obtain ⟨m, hm⟩ := hr
    obtain ⟨-, hsh, hrl⟩ := right_parts hm
    rw [ExtAt_eq] at hx
    obtain ⟨c, d, rfl, hl⟩ := hx
    rw [bulkE] at hb
    rcases str_cases op with rfl | rfl | rfl | rfl | ⟨n0, n1, n2, n3⟩
    · exact rholds_tag tag k c d w (by omega) a n cap zs hz hn
    · rw [sh_not, Bool.and_eq_true, beq_iff_eq] at hsh
      obtain ⟨y, rfl⟩ := List.length_eq_one_iff.1 hsh.2
      rw [bulkL, bulkL] at hb
      exact rholds_not N (by omega) ih tag y c d w ok (by omega) ⟨_, rightL_mem (i := 0) hrl rfl⟩ hl a n cap zs hz hn
    · exact rholds_and N (by omega) ih tag k c d w ok (by omega) ⟨_, hrl⟩ hl a n cap zs hz hn
    · exact rholds_or N (by omega) ih tag k c d w ok (by omega) ⟨_, hrl⟩ hl a n cap zs hz hn
    · rw [sh_other op tag k (str_empty n0).2 (str_ne (l := [33]) n1).2 (str_ne (l := [38, 38]) n2).2 (str_ne (l := [124, 124]) n3).2] at hsh
      cases hsh
end Go.Proofs.YtojdhlmmnhjolaaDoor
