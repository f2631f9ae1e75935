/- The document's Write (made by tools/gentag32.py). -/
import Derived.Test.YtojdhlmmnhjolaaDoorTag31
import Derived.Test.YtojdhlmmnhjolaaDoorTag27
import Derived.Laws.Concat
namespace Go.Proofs.YtojdhlmmnhjolaaDoor
open Go.RowKit
set_option linter.unusedVariables false

def wIn (x : Ex) (o : List UInt8) : List UInt8 := if o = [] then writtenE x else withinL x o
theorem wIn_le (x : Ex) (o : List UInt8) : (wIn x o).length ≤ (writtenE x).length + 2 := by
  unfold wIn
  split
  · omega
  · exact withinL_two x o
theorem wIn_plain {x : Ex} (o : List UInt8) (h : plainIn x o = true) : wIn x o = writtenE x := by
  unfold wIn
  split
  · rfl
  · exact within_plain h
theorem ls_cat (a b : ByteArray) : ls (a ++ b) = ls a ++ ls b := by
  unfold ls
  rw [ByteArray.data_append, Array.toList_append]
theorem ls_mk (l : List UInt8) : ls ⟨l.toArray⟩ = l := rfl
theorem size_ls (s : ByteArray) : s.size = (ls s).length := (ls_len s).symm
theorem bytes_ls {s : ByteArray} {l : List UInt8} (h : ls s = l) : s = ⟨l.toArray⟩ := bytes_of h
def RWriteOk (N : Nat) : Prop := ∀ (x : Ex) (v : Value) (w : World) (ok : Nat → Prop) (o : ByteArray), bulkE x ≤ N → N ≤ 1048576 → (∃ m, rightE m x = true) → ExtAt w ok x v → (o = ⟨#[]⟩ ∨ o = ⟨#[33]⟩ ∨ o = ⟨#[38, 38]⟩ ∨ o = ⟨#[124, 124]⟩) → Calls Tryd.prog 20 #[v, .string o] w fun e w' => e = .returned (.string ⟨(wIn x (ls o)).toArray⟩) ∧ Below w.heap.size w w'

set_option maxRecDepth 100000 in
theorem rwrite_tag (tag : ByteArray) (k : List Ex) (c : Option Addr) (d : Nat) (w : World) (o : ByteArray) :
    Calls Tryd.prog 20 #[.agg #[.string ⟨#[]⟩, .string tag, .slice c k.length d], .string o] w fun e w' => e = .returned (.string ⟨(wIn (.mk ⟨#[]⟩ tag k) (ls o)).toArray⟩) ∧ Below w.heap.size w w' := by
  have hR : (⟨(wIn (.mk ⟨#[]⟩ tag k) (ls o)).toArray⟩ : ByteArray) = tag := by
    rw [wIn_plain _ rfl, wr_tag]
  rw [hR]
  have hW1 := (Below.refl w.heap.size w).alloc (Nat.le_refl _) (.cells #[.string ⟨#[]⟩, .string tag, .slice c k.length d] 24)
  obtain ⟨⟨d0, d1, d2⟩, -⟩ := three_cells (heap_alloc_new w (.cells #[.string ⟨#[]⟩, .string tag, .slice c k.length d] 24))
  have HW1 := Lib.hid hW1
  clear hW1 hR
  go_enter Tryd.func20, Tryd.ntmps20
  go_wp2
  go_ret
  exact ⟨rfl, HW1.out⟩
set_option maxRecDepth 100000 in
theorem rwrite_not (N : Nat) (hN : N ≤ 1048576) (ih : RWriteOk N) (tag : ByteArray) (y : Ex) (c : Option Addr) (d : Nat) (w : World) (ok : Nat → Prop) (o : ByteArray) (hby : bulkE y ≤ N) (hry : ∃ m, rightE m y = true) (hl : ExtK w ok [y] c d) :
    Calls Tryd.prog 20 #[.agg #[.string ⟨#[33]⟩, .string tag, .slice c 1 d], .string o] w fun e w' => e = .returned (.string ⟨(wIn (.mk ⟨#[33]⟩ tag [y]) (ls o)).toArray⟩) ∧ Below w.heap.size w w' := by
  rw [wIn_plain (x := .mk ⟨#[33]⟩ tag [y]) (ls o) rfl, wr_not]
  have hwb := written_bulk _ y (Nat.le_refl _) hry
  have hW1 := (Below.refl w.heap.size w).alloc (Nat.le_refl _) (.cells #[.string ⟨#[33]⟩, .string tag, .slice c 1 d] 24)
  have hq := heap_alloc_new w (.cells #[.string ⟨#[33]⟩, .string tag, .slice c 1 d] 24)
  obtain ⟨⟨d0, d1, d2⟩, -⟩ := three_cells hq
  obtain ⟨o2, t2, k2⟩ := y
  obtain ⟨b, off, a2, cap2, rfl, hbw, m0, m1, m2, hl2⟩ := hl.cells (i := 0) rfl
  rw [Nat.zero_mul, Nat.add_zero] at m0 m1 m2
  have k0 := (hW1.cell (p := ⟨b, _, none⟩) hbw).trans m0
  have k1 := (hW1.cell (p := ⟨b, _, none⟩) hbw).trans m1
  have k3 := (hW1.cell (p := ⟨b, _, none⟩) hbw).trans m2
  have c1 := ih (.mk o2 t2 k2) (.agg #[.string o2, .string t2, .slice a2 k2.length cap2]) _ ok ⟨#[33]⟩ hby hN hry (by rw [ExtAt_eq]; exact ⟨a2, cap2, rfl, hl2.below hW1⟩) (.inr (.inl rfl))
  rw [show wIn (.mk o2 t2 k2) (ls ⟨#[33]⟩) = withinL (.mk o2 t2 k2) notL from rfl] at c1
  have h2 := withinL_two (.mk o2 t2 k2) notL
  rw [← not_bytes (withinL (.mk o2 t2 k2) notL)]
  have K1 := fun w => run_string_add_sum (P := Tryd.prog) w ⟨#[33]⟩ ⟨(withinL (.mk o2 t2 k2) notL).toArray⟩ (by show 1 + (withinL (.mk o2 t2 k2) notL).toArray.size ≤ _; rw [List.size_toArray]; omega)
  have HW1 := Lib.hid hW1
  generalize (⟨(withinL (.mk o2 t2 k2) notL).toArray⟩ : ByteArray) = h at *
  clear m0 m1 m2 hl2 hl hq hW1 ih hwb h2
  go_enter Tryd.func20, Tryd.ntmps20
  go_wp2_with fail
  refine c1.mono ?_
  rintro e w2 ⟨rfl, hb2⟩
  go_wp2
  go_ret
  exact ⟨rfl, HW1.out.trans (hb2.mono HW1.out.size)⟩

set_option maxHeartbeats 2000000 in
set_option maxRecDepth 100000 in
theorem rwrite_and (N : Nat) (hN : N ≤ 1048576) (ih : RWriteOk N) (tag : ByteArray) (k : List Ex) (hk2 : 2 ≤ k.length) (c : Option Addr) (d : Nat) (w : World) (ok : Nat → Prop) (o : ByteArray) (ho : o = ⟨#[]⟩ ∨ o = ⟨#[33]⟩ ∨ o = ⟨#[38, 38]⟩ ∨ o = ⟨#[124, 124]⟩) (hbk : bulkL k ≤ N) (hrk : ∃ m, rightL m k = true) (hl : ExtK w ok k c d) :
    Calls Tryd.prog 20 #[.agg #[.string ⟨#[38, 38]⟩, .string tag, .slice c k.length d], .string o] w fun e w' => e = .returned (.string ⟨(wIn (.mk ⟨#[38, 38]⟩ tag k) (ls o)).toArray⟩) ∧ Below w.heap.size w w' := by
  have hW1 := (Below.refl w.heap.size w).alloc (Nat.le_refl _) (.cells #[.string ⟨#[38, 38]⟩, .string tag, .slice c k.length d] 24)
  have hq := heap_alloc_new w (.cells #[.string ⟨#[38, 38]⟩, .string tag, .slice c k.length d] 24)
  obtain ⟨⟨d0, d1, d2⟩, -⟩ := three_cells hq
  have hbl := bulkL_len k
  have HW : Hid (writtenE (.mk ⟨#[38, 38]⟩ tag k) = rowW andL true k) := wr_row _ _ _ (by decide) (by decide)
  have hlen : (rowW andL true k).length ≤ 2097152 := by
    have := rowW_bulk (op := andL) rfl k true (fun y hy => by
      obtain ⟨m, hm⟩ := hrk
      have h1 := written_bulk _ y (Nat.le_refl _) ⟨m, rightL_in hm hy⟩
      have h2 := withinL_two y andL
      omega)
    omega
  obtain ⟨⟨o2, t2, k2⟩, hy⟩ : ∃ y, k[0]? = some y := ⟨k[0], by simp⟩
  obtain ⟨b, off, a2, cap2, rfl, hbw, m0, m1, m2, hl2⟩ := hl.cells hy
  rw [Nat.zero_mul, Nat.add_zero] at m0 m1 m2
  have HS : Hid (withinL (.mk o2 t2 k2) andL ++ rowW andL false (k.drop 1) = rowW andL true k) := by
    show _ = _
    cases k with
    | nil => cases hy
    | cons y r =>
      injection hy with hy
      subst hy
      rw [rowW]
      rfl
  have HQ := Lib.hid hq
  have HW1 := Lib.hid hW1
  have HL := Lib.hid hl
  have HIH := Lib.hid ih
  have HBK := Lib.hid hbk
  have HRK := Lib.hid hrk
  have HNN : Hid (N ≤ 1048576) := hN
  have HKL : Hid (k.length ≤ 1048576 ∧ 2 ≤ k.length) := ⟨by omega, hk2⟩
  have HLEN := Lib.hid hlen
  have HO := Lib.hid ho
  obtain ⟨W, hWe⟩ : ∃ W, W = w.alloc (.cells #[.string ⟨#[38, 38]⟩, .string tag, .slice (some ⟨b, off, none⟩) k.length d] 24) := ⟨_, rfl⟩
  have D0 := fun X : Kept W => Kept.cell (by rw [hWe]; exact d0) X
  have D2 := fun X : Kept W => Kept.cell (by rw [hWe]; exact d2) X
  have k0 := fun X : Kept W => Kept.cell (by rw [hWe]; exact (hW1.cell (p := ⟨b, _, none⟩) hbw).trans m0) X
  have k1 := fun X : Kept W => Kept.cell (by rw [hWe]; exact (hW1.cell (p := ⟨b, _, none⟩) hbw).trans m1) X
  have k3 := fun X : Kept W => Kept.cell (by rw [hWe]; exact (hW1.cell (p := ⟨b, _, none⟩) hbw).trans m2) X
  have C1 := Lib.hid (fun X : Kept W => HIH.out (.mk o2 t2 k2) (.agg #[.string o2, .string t2, .slice a2 k2.length cap2]) X.W ok ⟨#[38, 38]⟩ (Nat.le_trans (bulkL_mem3 _ _ _ hy) HBK.out) HNN.out (by obtain ⟨m, hm⟩ := HRK.out; exact ⟨m, rightL_mem hm hy⟩) (by rw [ExtAt_eq]; exact ⟨a2, cap2, rfl, (hl2.below (by rw [hWe]; exact HW1.out)).below X.h⟩) (.inr (.inr (.inl rfl))))
  rw [show wIn (.mk o2 t2 k2) (ls ⟨#[38, 38]⟩) = withinL (.mk o2 t2 k2) andL from rfl] at C1
  have hmx : Tryd.prog.follows .mixedOrders = true := by kernel_rfl
  have g5 : (0 : Int) < (k.length : Int) := by omega
  have HWE := Lib.hid hWe
  have HBW : Hid (Below w.heap.size w W) := by show Below _ _ _; rw [hWe]; exact HW1.out
  have HQW : Hid (W.heap[w.heap.size]? = some (.cells #[.string ⟨#[38, 38]⟩, .string tag, .slice (some ⟨b, off, none⟩) k.length d] 24 (0, 0))) := by show _ = _; rw [hWe]; exact HQ.out
  have HS0 : Hid (ls ⟨(withinL (.mk o2 t2 k2) andL).toArray⟩ ++ rowW andL false (k.drop 1) = rowW andL true k) := HS.out
  clear hq hW1 hl ih hbk hbl hrk hN m0 m1 m2 hl2 hk2 hlen ho hy HS
  generalize (⟨(withinL (.mk o2 t2 k2) andL).toArray⟩ : ByteArray) = s0 at *
  go_enter Tryd.func20, Tryd.ntmps20
  go_wp2_with fail
  rw [← HWE.out]
  refine wp_region_kept hmx (by kernel_rfl) ?_
  repeat (go_big_quiet_step ((go_at_call 20; exact kept_call (C1.out _))))
  refine wpQuiet_nil ?_
  rintro _ ⟨v0, rfl⟩
  have HB2 := Lib.hid (HBW.out.trans (v0.h.mono HBW.out.size))
  have HQ2 := Lib.hid ((v0.h.block _ (lt_of_block HQW.out)).trans HQW.out)
  clear D0 D2 k0 k1 k3 C1 d0 d1 d2 hWe
  generalize v0.W = X0 at *
  clear v0
  go_wp2_with fail
  go_loopw [6, 5] (fun s6 s5 wr => ∃ (j : Nat) (s : ByteArray), s6 = .int .i64 j ∧ s5 = .string s ∧ j ≤ k.length ∧ Hid (Below w.heap.size w wr) ∧ Hid (wr.heap[w.heap.size]? = some (.cells #[.string ⟨#[38, 38]⟩, .string tag, .slice (some ⟨b, off, none⟩) k.length d] 24 (0, 0))) ∧ Hid (ls s ++ rowW andL false (k.drop j) = rowW andL true k))
    (fun s6 s5 wr => k.length - (intOf s6).toNat)
  case atStart =>
    exact ⟨1, s0, rfl, rfl, by have := HKL.out; omega, HB2, HQ2, HS0⟩
  case round =>
    obtain ⟨j, s, rfl, rfl, hj, HB, HQR, HM⟩ := hrel
    obtain ⟨hk1, -⟩ := HKL.out
    obtain ⟨⟨e0, e1, e2⟩, -⟩ := three_cells HQR.out
    by_cases hlt : j < k.length
    · have gl : decide ((j : Int) < (k.length : Int)) = true := by simp; omega
      obtain ⟨⟨o3, t3, k4⟩, hy3⟩ : ∃ y, k[j]? = some y := ⟨k[j], by simp [hlt]⟩
      obtain ⟨b', off', a3, cap3, hbe, hbw3, m0, m1, m2, hl3⟩ := HL.out.cells hy3
      injection hbe with hbe
      injection hbe with hb1 hb2
      subst hb1 hb2
      have E0 := fun X : Kept wr => Kept.cell e0 X
      have E2 := fun X : Kept wr => Kept.cell e2 X
      have k0 := fun X : Kept wr => Kept.cell ((HB.out.cell (p := ⟨b, _, none⟩) hbw3).trans m0) X
      have k1 := fun X : Kept wr => Kept.cell ((HB.out.cell (p := ⟨b, _, none⟩) hbw3).trans m1) X
      have k2' := fun X : Kept wr => Kept.cell ((HB.out.cell (p := ⟨b, _, none⟩) hbw3).trans m2) X
      have C3 := Lib.hid (fun X : Kept wr => HIH.out (.mk o3 t3 k4) (.agg #[.string o3, .string t3, .slice a3 k4.length cap3]) X.W ok ⟨#[38, 38]⟩ (Nat.le_trans (bulkL_mem3 _ _ _ hy3) HBK.out) HNN.out (by obtain ⟨m, hm⟩ := HRK.out; exact ⟨m, rightL_mem hm hy3⟩) (by rw [ExtAt_eq]; exact ⟨a3, cap3, rfl, (hl3.below HB.out).below X.h⟩) (.inr (.inr (.inl rfl))))
      rw [show wIn (.mk o3 t3 k4) (ls ⟨#[38, 38]⟩) = withinL (.mk o3 t3 k4) andL from rfl] at C3
      have HM' : Hid (ls s ++ (32 :: (andL ++ [32])) ++ (ls ⟨(withinL (.mk o3 t3 k4) andL).toArray⟩ ++ rowW andL false (k.drop (j + 1))) = rowW andL true k) := by
        show _ = _
        have e := HM.out
        have er := rowW_at andL false k j _ hy3
        rw [Bool.false_and] at er
        rw [er] at e
        rw [List.append_assoc]
        exact e
      have hsz : s.size + 4 + (⟨(withinL (.mk o3 t3 k4) andL).toArray⟩ : ByteArray).size ≤ 2097152 := by
        have e := congrArg List.length HM'.out
        have h1 := HLEN.out
        simp only [List.length_append, List.length_cons, List.length_nil] at e
        rw [size_ls s, size_ls ⟨(withinL (.mk o3 t3 k4) andL).toArray⟩]
        have : (andL : List UInt8).length = 2 := rfl
        omega
      clear m0 m1 m2 hl3 hy3 HM
      generalize (⟨(withinL (.mk o3 t3 k4) andL).toArray⟩ : ByteArray) = r at *
      have E1 : (⟨#[32]⟩ : ByteArray) ++ ⟨#[38, 38]⟩ = ⟨#[32, 38, 38]⟩ := rfl
      have E3 : (⟨#[32, 38, 38]⟩ : ByteArray) ++ ⟨#[32]⟩ = ⟨#[32, 38, 38, 32]⟩ := rfl
      have K1 := fun w => run_string_add_sum (P := Tryd.prog) w ⟨#[32]⟩ ⟨#[38, 38]⟩ (by decide)
      have K2 := fun w => run_string_add_sum (P := Tryd.prog) w ⟨#[32, 38, 38]⟩ ⟨#[32]⟩ (by decide)
      have K3 := fun w => run_string_add_sum (P := Tryd.prog) w ⟨#[32, 38, 38, 32]⟩ r (by show 4 + r.size ≤ _; omega)
      have K4 := fun w => run_string_add_sum (P := Tryd.prog) w s (⟨#[32, 38, 38, 32]⟩ ++ r) (by rw [ByteArray.size_append]; show s.size + (4 + r.size) ≤ _; omega)
      clear hsz
      go_wp2_with fail
      refine wp_region_kept hmx (by kernel_rfl) ?_
      repeat (go_big_quiet_step ((go_at_call 20; exact kept_call (C3.out _))))
      refine wpQuiet_nil ?_
      rintro _ ⟨v0, rfl⟩
      have HB5 := Lib.hid (HB.out.trans (v0.h.mono HB.out.size))
      have HQ5 := Lib.hid ((v0.h.block _ (lt_of_block HQR.out)).trans HQR.out)
      clear E0 E2 k0 k1 k2' C3 e0 e1 e2
      generalize v0.W = X1 at *
      go_wp2
      go_roundw
      case rel => exact ⟨j + 1, _, by go_num, rfl, by omega, HB5.out, HQ5.out, by show _ = _; rw [← HM'.out, ls_cat, ls_cat]; simp [ls, andL]⟩
      case measure => simp [intOf]; omega
    · have gl : decide ((j : Int) < (k.length : Int)) = false := by simp; omega
      have hjk : j = k.length := by omega
      have HE : Hid (ls s = writtenE (.mk ⟨#[38, 38]⟩ tag k)) := by
        show _ = _
        have e := HM.out
        rw [hjk, List.drop_length, rowW, List.append_nil] at e
        rw [e, HW.out]
      have hsz : s.size ≤ 2097152 := by
        rw [size_ls, HE.out, HW.out]
        exact HLEN.out
      have K5 := fun w => run_string_add_sum (P := Tryd.prog) w ⟨#[40]⟩ s (by show 1 + s.size ≤ _; omega)
      have K6 := fun w => run_string_add_sum (P := Tryd.prog) w (⟨#[40]⟩ ++ s) ⟨#[41]⟩ (by rw [ByteArray.size_append]; show 1 + s.size + 1 ≤ _; omega)
      have HP0 : Hid ((⟨(wIn (.mk ⟨#[38, 38]⟩ tag k) []).toArray⟩ : ByteArray) = s) := (bytes_ls HE.out).symm
      have HPB : Hid (⟨#[40]⟩ ++ s ++ ⟨#[41]⟩ = (⟨(40 :: (writtenE (.mk ⟨#[38, 38]⟩ tag k) ++ [41])).toArray⟩ : ByteArray)) := bytes_ls (by rw [ls_cat, ls_cat, HE.out]; rfl)
      clear hsz HM
      rcases HO.out with rfl | rfl | rfl | rfl
      · go_wp2
        go_ret
        refine ⟨?_, HB.out⟩
        rw [show ls (⟨#[]⟩ : ByteArray) = [] from rfl, HP0.out]
        rfl
      · go_wp2
        go_ret
        refine ⟨?_, HB.out⟩
        rw [show (⟨(wIn (.mk ⟨#[38, 38]⟩ tag k) (ls ⟨#[33]⟩)).toArray⟩ : ByteArray) = ⟨(40 :: (writtenE (.mk ⟨#[38, 38]⟩ tag k) ++ [41])).toArray⟩ from rfl, ← HPB.out]
        rfl
      · go_wp2
        go_ret
        refine ⟨?_, HB.out⟩
        rw [show (⟨(wIn (.mk ⟨#[38, 38]⟩ tag k) (ls ⟨#[38, 38]⟩)).toArray⟩ : ByteArray) = ⟨(40 :: (writtenE (.mk ⟨#[38, 38]⟩ tag k) ++ [41])).toArray⟩ from rfl, ← HPB.out]
        rfl
      · go_wp2
        go_ret
        refine ⟨?_, HB.out⟩
        rw [show (⟨(wIn (.mk ⟨#[38, 38]⟩ tag k) (ls ⟨#[124, 124]⟩)).toArray⟩ : ByteArray) = ⟨(wIn (.mk ⟨#[38, 38]⟩ tag k) []).toArray⟩ from rfl, HP0.out]
        rfl

set_option maxHeartbeats 2000000 in
set_option maxRecDepth 100000 in
theorem rwrite_or (N : Nat) (hN : N ≤ 1048576) (ih : RWriteOk N) (tag : ByteArray) (k : List Ex) (hk2 : 2 ≤ k.length) (c : Option Addr) (d : Nat) (w : World) (ok : Nat → Prop) (o : ByteArray) (ho : o = ⟨#[]⟩ ∨ o = ⟨#[33]⟩ ∨ o = ⟨#[38, 38]⟩ ∨ o = ⟨#[124, 124]⟩) (hbk : bulkL k ≤ N) (hrk : ∃ m, rightL m k = true) (hl : ExtK w ok k c d) :
    Calls Tryd.prog 20 #[.agg #[.string ⟨#[124, 124]⟩, .string tag, .slice c k.length d], .string o] w fun e w' => e = .returned (.string ⟨(wIn (.mk ⟨#[124, 124]⟩ tag k) (ls o)).toArray⟩) ∧ Below w.heap.size w w' := by
  have hW1 := (Below.refl w.heap.size w).alloc (Nat.le_refl _) (.cells #[.string ⟨#[124, 124]⟩, .string tag, .slice c k.length d] 24)
  have hq := heap_alloc_new w (.cells #[.string ⟨#[124, 124]⟩, .string tag, .slice c k.length d] 24)
  obtain ⟨⟨d0, d1, d2⟩, -⟩ := three_cells hq
  have hbl := bulkL_len k
  have HW : Hid (writtenE (.mk ⟨#[124, 124]⟩ tag k) = rowW orL true k) := wr_row _ _ _ (by decide) (by decide)
  have hlen : (rowW orL true k).length ≤ 2097152 := by
    have := rowW_bulk (op := orL) rfl k true (fun y hy => by
      obtain ⟨m, hm⟩ := hrk
      have h1 := written_bulk _ y (Nat.le_refl _) ⟨m, rightL_in hm hy⟩
      have h2 := withinL_two y orL
      omega)
    omega
  obtain ⟨⟨o2, t2, k2⟩, hy⟩ : ∃ y, k[0]? = some y := ⟨k[0], by simp⟩
  obtain ⟨b, off, a2, cap2, rfl, hbw, m0, m1, m2, hl2⟩ := hl.cells hy
  rw [Nat.zero_mul, Nat.add_zero] at m0 m1 m2
  have HS : Hid (withinL (.mk o2 t2 k2) orL ++ rowW orL false (k.drop 1) = rowW orL true k) := by
    show _ = _
    cases k with
    | nil => cases hy
    | cons y r =>
      injection hy with hy
      subst hy
      rw [rowW]
      rfl
  have HQ := Lib.hid hq
  have HW1 := Lib.hid hW1
  have HL := Lib.hid hl
  have HIH := Lib.hid ih
  have HBK := Lib.hid hbk
  have HRK := Lib.hid hrk
  have HNN : Hid (N ≤ 1048576) := hN
  have HKL : Hid (k.length ≤ 1048576 ∧ 2 ≤ k.length) := ⟨by omega, hk2⟩
  have HLEN := Lib.hid hlen
  have HO := Lib.hid ho
  obtain ⟨W, hWe⟩ : ∃ W, W = w.alloc (.cells #[.string ⟨#[124, 124]⟩, .string tag, .slice (some ⟨b, off, none⟩) k.length d] 24) := ⟨_, rfl⟩
  have D0 := fun X : Kept W => Kept.cell (by rw [hWe]; exact d0) X
  have D2 := fun X : Kept W => Kept.cell (by rw [hWe]; exact d2) X
  have k0 := fun X : Kept W => Kept.cell (by rw [hWe]; exact (hW1.cell (p := ⟨b, _, none⟩) hbw).trans m0) X
  have k1 := fun X : Kept W => Kept.cell (by rw [hWe]; exact (hW1.cell (p := ⟨b, _, none⟩) hbw).trans m1) X
  have k3 := fun X : Kept W => Kept.cell (by rw [hWe]; exact (hW1.cell (p := ⟨b, _, none⟩) hbw).trans m2) X
  have C1 := Lib.hid (fun X : Kept W => HIH.out (.mk o2 t2 k2) (.agg #[.string o2, .string t2, .slice a2 k2.length cap2]) X.W ok ⟨#[124, 124]⟩ (Nat.le_trans (bulkL_mem3 _ _ _ hy) HBK.out) HNN.out (by obtain ⟨m, hm⟩ := HRK.out; exact ⟨m, rightL_mem hm hy⟩) (by rw [ExtAt_eq]; exact ⟨a2, cap2, rfl, (hl2.below (by rw [hWe]; exact HW1.out)).below X.h⟩) (.inr (.inr (.inr rfl))))
  rw [show wIn (.mk o2 t2 k2) (ls ⟨#[124, 124]⟩) = withinL (.mk o2 t2 k2) orL from rfl] at C1
  have hmx : Tryd.prog.follows .mixedOrders = true := by kernel_rfl
  have g5 : (0 : Int) < (k.length : Int) := by omega
  have HWE := Lib.hid hWe
  have HBW : Hid (Below w.heap.size w W) := by show Below _ _ _; rw [hWe]; exact HW1.out
  have HQW : Hid (W.heap[w.heap.size]? = some (.cells #[.string ⟨#[124, 124]⟩, .string tag, .slice (some ⟨b, off, none⟩) k.length d] 24 (0, 0))) := by show _ = _; rw [hWe]; exact HQ.out
  have HS0 : Hid (ls ⟨(withinL (.mk o2 t2 k2) orL).toArray⟩ ++ rowW orL false (k.drop 1) = rowW orL true k) := HS.out
  clear hq hW1 hl ih hbk hbl hrk hN m0 m1 m2 hl2 hk2 hlen ho hy HS
  generalize (⟨(withinL (.mk o2 t2 k2) orL).toArray⟩ : ByteArray) = s0 at *
  go_enter Tryd.func20, Tryd.ntmps20
  go_wp2_with fail
  rw [← HWE.out]
  refine wp_region_kept hmx (by kernel_rfl) ?_
  repeat (go_big_quiet_step ((go_at_call 20; exact kept_call (C1.out _))))
  refine wpQuiet_nil ?_
  rintro _ ⟨v0, rfl⟩
  have HB2 := Lib.hid (HBW.out.trans (v0.h.mono HBW.out.size))
  have HQ2 := Lib.hid ((v0.h.block _ (lt_of_block HQW.out)).trans HQW.out)
  clear D0 D2 k0 k1 k3 C1 d0 d1 d2 hWe
  generalize v0.W = X0 at *
  clear v0
  go_wp2_with fail
  go_loopw [6, 5] (fun s6 s5 wr => ∃ (j : Nat) (s : ByteArray), s6 = .int .i64 j ∧ s5 = .string s ∧ j ≤ k.length ∧ Hid (Below w.heap.size w wr) ∧ Hid (wr.heap[w.heap.size]? = some (.cells #[.string ⟨#[124, 124]⟩, .string tag, .slice (some ⟨b, off, none⟩) k.length d] 24 (0, 0))) ∧ Hid (ls s ++ rowW orL false (k.drop j) = rowW orL true k))
    (fun s6 s5 wr => k.length - (intOf s6).toNat)
  case atStart =>
    exact ⟨1, s0, rfl, rfl, by have := HKL.out; omega, HB2, HQ2, HS0⟩
  case round =>
    obtain ⟨j, s, rfl, rfl, hj, HB, HQR, HM⟩ := hrel
    obtain ⟨hk1, -⟩ := HKL.out
    obtain ⟨⟨e0, e1, e2⟩, -⟩ := three_cells HQR.out
    by_cases hlt : j < k.length
    · have gl : decide ((j : Int) < (k.length : Int)) = true := by simp; omega
      obtain ⟨⟨o3, t3, k4⟩, hy3⟩ : ∃ y, k[j]? = some y := ⟨k[j], by simp [hlt]⟩
      obtain ⟨b', off', a3, cap3, hbe, hbw3, m0, m1, m2, hl3⟩ := HL.out.cells hy3
      injection hbe with hbe
      injection hbe with hb1 hb2
      subst hb1 hb2
      have E0 := fun X : Kept wr => Kept.cell e0 X
      have E2 := fun X : Kept wr => Kept.cell e2 X
      have k0 := fun X : Kept wr => Kept.cell ((HB.out.cell (p := ⟨b, _, none⟩) hbw3).trans m0) X
      have k1 := fun X : Kept wr => Kept.cell ((HB.out.cell (p := ⟨b, _, none⟩) hbw3).trans m1) X
      have k2' := fun X : Kept wr => Kept.cell ((HB.out.cell (p := ⟨b, _, none⟩) hbw3).trans m2) X
      have C3 := Lib.hid (fun X : Kept wr => HIH.out (.mk o3 t3 k4) (.agg #[.string o3, .string t3, .slice a3 k4.length cap3]) X.W ok ⟨#[124, 124]⟩ (Nat.le_trans (bulkL_mem3 _ _ _ hy3) HBK.out) HNN.out (by obtain ⟨m, hm⟩ := HRK.out; exact ⟨m, rightL_mem hm hy3⟩) (by rw [ExtAt_eq]; exact ⟨a3, cap3, rfl, (hl3.below HB.out).below X.h⟩) (.inr (.inr (.inr rfl))))
      rw [show wIn (.mk o3 t3 k4) (ls ⟨#[124, 124]⟩) = withinL (.mk o3 t3 k4) orL from rfl] at C3
      have HM' : Hid (ls s ++ (32 :: (orL ++ [32])) ++ (ls ⟨(withinL (.mk o3 t3 k4) orL).toArray⟩ ++ rowW orL false (k.drop (j + 1))) = rowW orL true k) := by
        show _ = _
        have e := HM.out
        have er := rowW_at orL false k j _ hy3
        rw [Bool.false_and] at er
        rw [er] at e
        rw [List.append_assoc]
        exact e
      have hsz : s.size + 4 + (⟨(withinL (.mk o3 t3 k4) orL).toArray⟩ : ByteArray).size ≤ 2097152 := by
        have e := congrArg List.length HM'.out
        have h1 := HLEN.out
        simp only [List.length_append, List.length_cons, List.length_nil] at e
        rw [size_ls s, size_ls ⟨(withinL (.mk o3 t3 k4) orL).toArray⟩]
        have : (orL : List UInt8).length = 2 := rfl
        omega
      clear m0 m1 m2 hl3 hy3 HM
      generalize (⟨(withinL (.mk o3 t3 k4) orL).toArray⟩ : ByteArray) = r at *
      have E1 : (⟨#[32]⟩ : ByteArray) ++ ⟨#[124, 124]⟩ = ⟨#[32, 124, 124]⟩ := rfl
      have E3 : (⟨#[32, 124, 124]⟩ : ByteArray) ++ ⟨#[32]⟩ = ⟨#[32, 124, 124, 32]⟩ := rfl
      have K1 := fun w => run_string_add_sum (P := Tryd.prog) w ⟨#[32]⟩ ⟨#[124, 124]⟩ (by decide)
      have K2 := fun w => run_string_add_sum (P := Tryd.prog) w ⟨#[32, 124, 124]⟩ ⟨#[32]⟩ (by decide)
      have K3 := fun w => run_string_add_sum (P := Tryd.prog) w ⟨#[32, 124, 124, 32]⟩ r (by show 4 + r.size ≤ _; omega)
      have K4 := fun w => run_string_add_sum (P := Tryd.prog) w s (⟨#[32, 124, 124, 32]⟩ ++ r) (by rw [ByteArray.size_append]; show s.size + (4 + r.size) ≤ _; omega)
      clear hsz
      go_wp2_with fail
      refine wp_region_kept hmx (by kernel_rfl) ?_
      repeat (go_big_quiet_step ((go_at_call 20; exact kept_call (C3.out _))))
      refine wpQuiet_nil ?_
      rintro _ ⟨v0, rfl⟩
      have HB5 := Lib.hid (HB.out.trans (v0.h.mono HB.out.size))
      have HQ5 := Lib.hid ((v0.h.block _ (lt_of_block HQR.out)).trans HQR.out)
      clear E0 E2 k0 k1 k2' C3 e0 e1 e2
      generalize v0.W = X1 at *
      go_wp2
      go_roundw
      case rel => exact ⟨j + 1, _, by go_num, rfl, by omega, HB5.out, HQ5.out, by show _ = _; rw [← HM'.out, ls_cat, ls_cat]; simp [ls, orL]⟩
      case measure => simp [intOf]; omega
    · have gl : decide ((j : Int) < (k.length : Int)) = false := by simp; omega
      have hjk : j = k.length := by omega
      have HE : Hid (ls s = writtenE (.mk ⟨#[124, 124]⟩ tag k)) := by
        show _ = _
        have e := HM.out
        rw [hjk, List.drop_length, rowW, List.append_nil] at e
        rw [e, HW.out]
      have hsz : s.size ≤ 2097152 := by
        rw [size_ls, HE.out, HW.out]
        exact HLEN.out
      have K5 := fun w => run_string_add_sum (P := Tryd.prog) w ⟨#[40]⟩ s (by show 1 + s.size ≤ _; omega)
      have K6 := fun w => run_string_add_sum (P := Tryd.prog) w (⟨#[40]⟩ ++ s) ⟨#[41]⟩ (by rw [ByteArray.size_append]; show 1 + s.size + 1 ≤ _; omega)
      have HP0 : Hid ((⟨(wIn (.mk ⟨#[124, 124]⟩ tag k) []).toArray⟩ : ByteArray) = s) := (bytes_ls HE.out).symm
      have HPB : Hid (⟨#[40]⟩ ++ s ++ ⟨#[41]⟩ = (⟨(40 :: (writtenE (.mk ⟨#[124, 124]⟩ tag k) ++ [41])).toArray⟩ : ByteArray)) := bytes_ls (by rw [ls_cat, ls_cat, HE.out]; rfl)
      clear hsz HM
      rcases HO.out with rfl | rfl | rfl | rfl
      · go_wp2
        go_ret
        refine ⟨?_, HB.out⟩
        rw [show ls (⟨#[]⟩ : ByteArray) = [] from rfl, HP0.out]
        rfl
      · go_wp2
        go_ret
        refine ⟨?_, HB.out⟩
        rw [show (⟨(wIn (.mk ⟨#[124, 124]⟩ tag k) (ls ⟨#[33]⟩)).toArray⟩ : ByteArray) = ⟨(40 :: (writtenE (.mk ⟨#[124, 124]⟩ tag k) ++ [41])).toArray⟩ from rfl, ← HPB.out]
        rfl
      · go_wp2
        go_ret
        refine ⟨?_, HB.out⟩
        rw [show (⟨(wIn (.mk ⟨#[124, 124]⟩ tag k) (ls ⟨#[38, 38]⟩)).toArray⟩ : ByteArray) = ⟨(40 :: (writtenE (.mk ⟨#[124, 124]⟩ tag k) ++ [41])).toArray⟩ from rfl, ← HPB.out]
        rfl
      · go_wp2
        go_ret
        refine ⟨?_, HB.out⟩
        rw [show (⟨(wIn (.mk ⟨#[124, 124]⟩ tag k) (ls ⟨#[124, 124]⟩)).toArray⟩ : ByteArray) = ⟨(40 :: (writtenE (.mk ⟨#[124, 124]⟩ tag k) ++ [41])).toArray⟩ from rfl, ← HPB.out]
        rfl

theorem rwrite_all : ∀ N, N ≤ 1048576 → RWriteOk N
  | 0, _ => by
    intro x v w ok o hb
    obtain ⟨op, tag, k⟩ := x
    rw [bulkE] at hb
    omega
  | N + 1, hN => by
    have ih := rwrite_all N (by omega)
    intro x v w ok o hb _ hr hx ho
    obtain ⟨op, tag, k⟩ := x
    obtain ⟨m, hm⟩ := hr
    obtain ⟨-, hsh, hrl⟩ := right_parts hm
    rw [ExtAt_eq] at hx
    obtain ⟨c, d, rfl, hl⟩ := hx
    rw [bulkE] at hb
    rcases str_cases op with rfl | rfl | rfl | rfl | ⟨n0, n1, n2, n3⟩
    · exact rwrite_tag tag k c d w o
    · rw [sh_not, Bool.and_eq_true, beq_iff_eq] at hsh
      obtain ⟨y, rfl⟩ := List.length_eq_one_iff.1 hsh.2
      rw [bulkL, bulkL] at hb
      exact rwrite_not N (by omega) ih tag y c d w ok o (by omega) ⟨_, rightL_mem (i := 0) hrl rfl⟩ hl
    · rw [sh_and, Bool.and_eq_true, decide_eq_true_eq] at hsh
      exact rwrite_and N (by omega) ih tag k hsh.2 c d w ok o ho (by omega) ⟨_, hrl⟩ hl
    · rw [sh_or, Bool.and_eq_true, decide_eq_true_eq] at hsh
      exact rwrite_or N (by omega) ih tag k hsh.2 c d w ok o ho (by omega) ⟨_, hrl⟩ hl
    · rw [sh_other op tag k (str_empty n0).2 (str_ne (l := [33]) n1).2 (str_ne (l := [38, 38]) n2).2 (str_ne (l := [124, 124]) n3).2] at hsh
      cases hsh
end Go.Proofs.YtojdhlmmnhjolaaDoor
