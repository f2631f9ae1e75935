/- package tag: how a constraint is written. -/
import Derived.Test.YtojdhlmmnhjolaaDoorTag17
namespace Go.Proofs.YtojdhlmmnhjolaaDoor
open Go.RowKit
set_option linter.unusedVariables false

theorem owns_below {B : Nat} {e : TypeId} {size : Nat} {v : Value} {n : Nat} {xs : List Value} {w W : World} (h : w.ownsRow B e size v n xs) (hb : Below w.heap.size w W) : W.ownsRow B e size v n xs := by
  refine ⟨h.1, ?_⟩
  rcases h.2 with h' | ⟨g, cap, cur, hv, hB, hg, r⟩
  · exact .inl h'
  · exact .inr ⟨g, cap, cur, hv, hB, (hb.block g (lt_of_block hg)).trans hg, r⟩
theorem bldAt_below {B b : Nat} {p : Value} {bs : List Value} {w W : World} (h : Lib.BuilderAt 55 5 B b p bs w) (hb : Below w.heap.size w W) : Lib.BuilderAt 55 5 B b p bs W := by
  obtain ⟨h1, v, h2, h3, h4⟩ := h
  exact ⟨h1, v, (hb.block b (lt_of_block h2)).trans h2, owns_below h3 hb, h4⟩
theorem Bld.below {B b : Nat} {bs : List Value} {w W : World} (h : Bld B b bs w) (hb : Below w.heap.size w W) : Bld B b bs W :=
  h.imp (fun h => bldAt_below h hb) (fun h => bldAt_below h hb)

theorem bytes_str (l : List UInt8) (s : ByteArray) : Lib.byteCells l ++ Lib.strCells s = Lib.byteCells (l ++ s.data.toList) := by
  unfold Lib.byteCells Lib.strCells
  rw [List.map_append]
theorem bld_own {B b : Nat} {bs : List Value} {w : World} {o : Obj} (h : Bld B b bs w) : ∀ v, (w.alloc o).cell? ⟨b, 1, none⟩ = some v → v.ownBlock ≠ some w.heap.size := by
  intro v hv e
  have key : ∀ p, Lib.BuilderAt 55 5 B b p bs w → False := fun p h => by
    obtain ⟨_, v0, hb, hown, _⟩ := h
    have h1 : (w.alloc o).cell? ⟨b, 1, none⟩ = some v0 := by
      rw [cell_of_heap (heap_alloc_old _ _ (lt_of_block hb))]
      simp [World.cell?, hb]
    rw [h1] at hv
    injection hv with hv
    subst hv
    have := (hown.lt _ e).2
    omega
  rcases h with h | h
  · exact key _ h
  · exact key _ h
theorem within_any (left : Nat) (ih : WrittenOk left) (x : Ex) (v : Value) (o : ByteArray) (ho : o = ⟨#[33]⟩ ∨ o = ⟨#[38, 38]⟩ ∨ o = ⟨#[124, 124]⟩) (w : World) (ok : Nat → Prop) (hr : rightE left x = true) (hs : Small x) (hw : (withinL x (ls o)).length ≤ 3000000) (hx : ExtAt w ok x v) :
    Calls Tryd.prog 34 #[v, .string o] w fun e w' => e = .returned (.string ⟨(withinL x (ls o)).toArray⟩) ∧ Below w.heap.size w w' := by
  obtain ⟨op, tag, k⟩ := x
  rw [ExtAt_eq] at hx
  obtain ⟨a, cap, rfl, hl⟩ := hx
  obtain ⟨-, hsh, hrl⟩ := right_parts hr
  rcases str_cases op with rfl | rfl | rfl | rfl | ⟨n0, n1, n2, n3⟩
  · rcases ho with rfl | rfl | rfl
    · exact within_en tag k a cap left ih w ok hr hs hw hl
    · exact within_ea tag k a cap left ih w ok hr hs hw hl
    · exact within_eo tag k a cap left ih w ok hr hs hw hl
  · rcases ho with rfl | rfl | rfl
    · exact within_nn tag k a cap left ih w ok hr hs hw hl
    · exact within_na tag k a cap left ih w ok hr hs hw hl
    · exact within_no tag k a cap left ih w ok hr hs hw hl
  · rcases ho with rfl | rfl | rfl
    · exact within_an tag k a cap left ih w ok hr hs hw hl
    · exact within_aa tag k a cap left ih w ok hr hs hw hl
    · exact within_ao tag k a cap left ih w ok hr hs hw hl
  · rcases ho with rfl | rfl | rfl
    · exact within_on tag k a cap left ih w ok hr hs hw hl
    · exact within_oa tag k a cap left ih w ok hr hs hw hl
    · exact within_oo tag k a cap left ih w ok hr hs hw hl
  · rw [sh_other op tag k (str_empty n0).2 (str_ne (l := [33]) n1).2 (str_ne (l := [38, 38]) n2).2 (str_ne (l := [124, 124]) n3).2] at hsh
    cases hsh


set_option maxHeartbeats 2000000 in
set_option maxRecDepth 100000 in
theorem written_and (left : Nat) (ih : WrittenOk left) (tag : ByteArray) (k : List Ex) (a : Option Addr) (cap : Nat) (w : World) (ok : Nat → Prop) (hrk : rightL left k = true) (hks : k.length ≤ 3000000) (hsk : SmallL k) (hw : (writtenE (.mk ⟨#[38, 38]⟩ tag k)).length ≤ 3000000) (hl : ExtK w ok k a cap) :
    Calls Tryd.prog 28 #[.agg #[.string ⟨#[38, 38]⟩, .string tag, .slice a k.length cap]] w fun e w' => e = .returned (.string ⟨(writtenE (.mk ⟨#[38, 38]⟩ tag k)).toArray⟩) ∧ Below w.heap.size w w' := by
  have hwr : writtenE (.mk ⟨#[38, 38]⟩ tag k) = rowW andL true k := wr_row _ _ _ (by decide) (by decide)
  rw [hwr] at hw ⊢
  have hW1 := (Below.refl w.heap.size w).alloc (Nat.le_refl _) (.cells #[.string ⟨#[38, 38]⟩, .string tag, .slice a k.length cap] 29)
  have hz1 : (w.alloc (.cells #[.string ⟨#[38, 38]⟩, .string tag, .slice a k.length cap] 29)).heap.size = w.heap.size + 1 := by simp
  have hq := (heap_alloc_old (w.alloc (.cells #[.string ⟨#[38, 38]⟩, .string tag, .slice a k.length cap] 29)) (.cells #[.pointer none, .slice none 0 0] 55) (by omega : w.heap.size < _)).trans (heap_alloc_new w (.cells #[.string ⟨#[38, 38]⟩, .string tag, .slice a k.length cap] 29))
  obtain ⟨⟨d0, d1, d2⟩, -⟩ := three_cells (heap_alloc_new w (.cells #[.string ⟨#[38, 38]⟩, .string tag, .slice a k.length cap] 29))
  obtain ⟨⟨d0', d1', d2'⟩, -⟩ := three_cells hq
  have hf : Bld (w.heap.size + 1) (w.heap.size + 1) (Lib.byteCells []) ((w.alloc (.cells #[.string ⟨#[38, 38]⟩, .string tag, .slice a k.length cap] 29)).alloc (.cells #[.pointer none, .slice none 0 0] 55)) := by
    have := Lib.fresh_isBuilder 55 5 (w.alloc (.cells #[.string ⟨#[38, 38]⟩, .string tag, .slice a k.length cap] 29))
    rw [hz1] at this
    exact this
  have HF := Lib.hid hf
  have HQ := Lib.hid hq
  have HW2 := Lib.hid (hW1.alloc (by omega) (.cells #[.pointer none, .slice none 0 0] 55))
  have HL := Lib.hid hl
  have HRK := Lib.hid hrk
  have HSL := Lib.hid hsk
  have HKS := Lib.hid hks
  have HIH := Lib.hid ih
  have HW := Lib.hid hw
  have HSZ : Hid (w.heap.size + 1 ≤ ((w.alloc (.cells #[.string ⟨#[38, 38]⟩, .string tag, .slice a k.length cap] 29)).alloc (.cells #[.pointer none, .slice none 0 0] 55)).heap.size) := by show _ ≤ _; simp
  clear hq hW1 hl hrk hsk hks ih hf hw hz1 hwr
  go_enter Tryd.func28, Tryd.ntmps28
  go_wp2_with fail
  clear d0 d1 d2 d0' d1' d2'
  go_loopw [23] (fun s23 wr => ∃ (i : Nat) (l : List UInt8), s23 = .int .i64 i ∧ i ≤ k.length ∧ Hid (Below w.heap.size w wr) ∧ w.heap.size + 1 ≤ wr.heap.size ∧ Hid (wr.heap[w.heap.size]? = some (.cells #[.string ⟨#[38, 38]⟩, .string tag, .slice a k.length cap] 29 (0, 0))) ∧ Hid (Bld (w.heap.size + 1) (w.heap.size + 1) (Lib.byteCells l) wr) ∧ Hid (l ++ rowW andL (true && i == 0) (k.drop i) = rowW andL true k))
    (fun s23 wr => k.length - (intOf s23).toNat)
  case atStart => exact ⟨0, [], rfl, Nat.zero_le _, HW2, HSZ.out, HQ, HF, rfl⟩
  case round =>
    obtain ⟨i, l, rfl, hi, HB, hszr, HQR, HBL, HM⟩ := hrel
    have hks := HKS.out
    by_cases hlt : i < k.length
    · have g2 : decide ((i : Int) < (k.length : Int)) = true := by simp; omega
      obtain ⟨⟨o2, t2, k2⟩, hy⟩ : ∃ y, k[i]? = some y := ⟨k[i], by simp [hlt]⟩
      obtain ⟨b, off, a2, cap2, rfl, hbw, m0, m1, m2, hl2⟩ := HL.out.cells hy
      have k0 := (HB.out.cell (p := ⟨b, _, none⟩) hbw).trans m0
      have k1 := (HB.out.cell (p := ⟨b, _, none⟩) hbw).trans m1
      have k2' := (HB.out.cell (p := ⟨b, _, none⟩) hbw).trans m2
      have hq4 := heap_alloc_new wr (.cells #[.string o2, .string t2, .slice a2 k2.length cap2] 29)
      obtain ⟨⟨f0, f1, f2⟩, -⟩ := three_cells hq4
      have hb4 := HB.out.alloc HB.out.size (.cells #[.string o2, .string t2, .slice a2 k2.length cap2] 29)
      have hq5 := (heap_alloc_old wr (.cells #[.string o2, .string t2, .slice a2 k2.length cap2] 29) (lt_of_block HQR.out)).trans HQR.out
      obtain ⟨⟨e0, e1, e2⟩, -⟩ := three_cells hq5
      have HQ4 := Lib.hid hq5
      have HN4 := Lib.hid hq4
      have HB4 := Lib.hid hb4
      have HBL4 : Hid (Bld (w.heap.size + 1) (w.heap.size + 1) (Lib.byteCells l) (wr.alloc (.cells #[.string o2, .string t2, .slice a2 k2.length cap2] 29))) := HBL.out.below ((Below.refl _ wr).alloc (Nat.le_refl _) _)
      have HST := Lib.hid (rowW_at andL true k i _ hy)
      have hlen : l.length + ((if (true && i == 0) then ([] : List UInt8) else 32 :: (andL ++ [32])).length + (withinL (.mk o2 t2 k2) andL).length) ≤ 3000000 := by
        have h1 := congrArg List.length HM.out
        rw [HST.out, List.length_append, List.length_append, List.length_append] at h1
        have := HW.out
        omega
      by_cases h0 : i = 0
      · subst h0
        rw [Nat.zero_mul, Nat.add_zero] at k0 k1 k2'
        have c3 := within_any left HIH.out (.mk o2 t2 k2) (.agg #[.string o2, .string t2, .slice a2 k2.length cap2]) ⟨#[38, 38]⟩ (.inr (.inl rfl)) (wr.alloc (.cells #[.string o2, .string t2, .slice a2 k2.length cap2] 29)) ok (rightL_mem HRK.out hy) (HSL.out.mem hy) (by show (withinL (.mk o2 t2 k2) andL).length ≤ _; omega) (by rw [ExtAt_eq]; exact ⟨a2, cap2, rfl, hl2.below hb4⟩)
        rw [show (ls ⟨#[38, 38]⟩) = andL from rfl] at c3
        have HLEN := Lib.hid hlen
        clear m0 m1 m2 hl2 hq4 hb4 hy hq5 hlen
        generalize withinL (.mk o2 t2 k2) andL = t at *
        go_wp2_with fail
        refine c3.mono ?_
        rintro e w5 ⟨rfl, hb5⟩
        have HB5 := Lib.hid hb5
        have hs5 := hb5.size
        rw [World.size_alloc] at hs5
        clear hb5 c3
        go_wp2_with fail
        refine (wstring_any (w.heap.size + 1) (w.heap.size + 1) _ ⟨t.toArray⟩ w5 (HBL4.out.below HB5.out) (by have := HLEN.out; rw [Lib.byteCells_length]; show _ + t.length ≤ _; omega) (by omega)).mono ?_
        rintro e w6 ⟨rfl, hbl6, hb6, -⟩
        rw [bytes_str] at hbl6
        have hb7 := (HB4.out.trans (HB5.out.mono HB4.out.size)).trans (hb6.mono (by omega))
        have hq7 := (hb6.block _ (by omega)).trans ((HB5.out.block _ (lt_of_block HQ4.out)).trans HQ4.out)
        have HB7 := Lib.hid hb7
        have HQ7 := Lib.hid hq7
        have HBL7 := Lib.hid hbl6
        have hs6 := hb6.size
        clear hb7 hq7 hbl6 hb6 HBL4 HQ4 HB4 HN4
        go_wp2
        go_roundw
        case rel => exact ⟨1, _, by go_num, by omega, HB7.out, by omega, HQ7.out, HBL7.out, by show _ = _; rw [← HM.out, HST.out]; simp⟩
        case measure => simp [intOf]; omega
      · have g3 : decide ((0 : Int) < (i : Int)) = true := by simp; omega
        have g3' : decide (0 < i) = true := by simp; omega
        have hne : (i == 0) = false := beq_eq_false_iff_ne.2 h0
        have hsp : ((⟨#[32]⟩ : ByteArray) ++ ⟨#[38, 38]⟩ ++ ⟨#[32]⟩).data.toList = 32 :: (andL ++ [32]) := by simp [andL]
        have hspn : ((⟨#[32]⟩ : ByteArray) ++ ⟨#[38, 38]⟩ ++ ⟨#[32]⟩).size = 4 := by rw [← ls_len]; exact congrArg List.length hsp
        have HSP := Lib.hid hsp
        have HSPN := Lib.hid hspn
        have HSM := Lib.hid (HSL.out.mem hy)
        have HX2 : Hid (ExtK w ok k2 a2 cap2) := hl2
        have hbw2 : w.heap.size + 1 < wr.heap.size := by
          rcases HBL.out with h | h
          · exact h.lt
          · exact h.lt
        have HRY := Lib.hid (rightL_mem HRK.out hy)
        have HOWN := Lib.hid (bld_own (o := .cells #[.string o2, .string t2, .slice a2 k2.length cap2] 29) HBL.out)
        rw [hne, Bool.and_false, if_neg (by decide)] at hlen
        have HLEN := Lib.hid hlen
        have HNE := Lib.hid hne
        have HSMALL := Lib.hid (show w.heap.size + 1 ≤ wr.heap.size from hszr)
        have HLT1 : Hid (w.heap.size + 1 < (wr.alloc (.cells #[.string o2, .string t2, .slice a2 k2.length cap2] 29)).heap.size) := by show _ < _; rw [World.size_alloc]; omega
        clear m0 m1 m2 hl2 hq4 hb4 hy hq5 hlen hsp hspn hne
        go_wp2_with fail
        generalize ((⟨#[32]⟩ : ByteArray) ++ ⟨#[38, 38]⟩ ++ ⟨#[32]⟩) = sp at *
        refine (wstring_any (w.heap.size + 1) (w.heap.size + 1) _ sp _ HBL4.out (by have := HLEN.out; rw [Lib.byteCells_length, HSPN.out]; simp only [List.length_cons, List.length_append, andL, List.length_nil] at this; omega) (by have := HLT1.out; omega)).mono ?_
        rintro e w5 ⟨rfl, hbl5, hb5, hk5⟩
        rw [bytes_str, HSP.out] at hbl5
        have HBL5 := Lib.hid hbl5
        have hs5 := hb5.size
        rw [World.size_alloc] at hs5
        have hn5 := (hk5 wr.heap.size (by rw [World.size_alloc]; omega) (by omega) HOWN.out).trans HN4.out
        obtain ⟨⟨f0', f1', f2'⟩, -⟩ := three_cells hn5
        have hb5' := HB4.out.trans (hb5.mono (by omega))
        have hq5 := (hb5.block _ (by omega)).trans HQ4.out
        obtain ⟨⟨e0', e1', e2'⟩, -⟩ := three_cells hq5
        have hx5 := HX2.out.below hb5'
        have c3 := within_any left HIH.out (.mk o2 t2 k2) (.agg #[.string o2, .string t2, .slice a2 k2.length cap2]) ⟨#[38, 38]⟩ (.inr (.inl rfl)) w5 ok HRY.out HSM.out (by have := HLEN.out; show (withinL (.mk o2 t2 k2) andL).length ≤ _; omega) (by rw [ExtAt_eq]; exact ⟨a2, cap2, rfl, hx5⟩)
        rw [show (ls ⟨#[38, 38]⟩) = andL from rfl] at c3
        have HB5 := Lib.hid hb5'
        have HQ5 := Lib.hid hq5
        clear hx5 hb5' hb5 hq5 hn5 hk5 hbl5 HBL4 HQ4 HB4 HN4 f0 f1 f2 e0 e1 e2
        generalize withinL (.mk o2 t2 k2) andL = t at *
        go_wp2_with fail
        refine c3.mono ?_
        rintro e w6 ⟨rfl, hb6⟩
        have HB6 := Lib.hid hb6
        have hs6 := hb6.size
        clear hb6 c3
        go_wp2_with fail
        refine (wstring_any (w.heap.size + 1) (w.heap.size + 1) _ ⟨t.toArray⟩ w6 (HBL5.out.below HB6.out) (by have := HLEN.out; rw [Lib.byteCells_length, List.length_append]; show _ + t.length ≤ _; omega) (by omega)).mono ?_
        rintro e w7 ⟨rfl, hbl7, hb7, -⟩
        rw [bytes_str] at hbl7
        have hb8 := (HB5.out.trans (HB6.out.mono HB5.out.size)).trans (hb7.mono (by omega))
        have hq8 := (hb7.block _ (by omega)).trans ((HB6.out.block _ (lt_of_block HQ5.out)).trans HQ5.out)
        have HB7 := Lib.hid hb8
        have HQ7 := Lib.hid hq8
        have HBL7 := Lib.hid hbl7
        have hs7 := hb7.size
        clear hb8 hq8 hbl7 hb7
        go_wp2
        go_roundw
        case rel => exact ⟨i + 1, _, by go_num, by omega, HB7.out, by omega, HQ7.out, HBL7.out, by show _ = _; rw [← HM.out, HST.out, HNE.out]; simp⟩
        case measure => simp [intOf]; omega
    · have g2 : decide ((i : Int) < (k.length : Int)) = false := by simp; omega
      have hik : i = k.length := by omega
      go_wp2_with fail
      refine (Tryd.Builder_String_any (w.heap.size + 1) (w.heap.size + 1) l wr HBL.out hszr).mono ?_
      rintro e w5 ⟨rfl, hb5⟩
      go_wp2
      go_ret
      refine ⟨?_, HB.out.trans (hb5.mono (by omega))⟩
      rw [← HM.out, hik, List.drop_length, rowW, List.append_nil]
      rfl


set_option maxHeartbeats 2000000 in
set_option maxRecDepth 100000 in
theorem written_or (left : Nat) (ih : WrittenOk left) (tag : ByteArray) (k : List Ex) (a : Option Addr) (cap : Nat) (w : World) (ok : Nat → Prop) (hrk : rightL left k = true) (hks : k.length ≤ 3000000) (hsk : SmallL k) (hw : (writtenE (.mk ⟨#[124, 124]⟩ tag k)).length ≤ 3000000) (hl : ExtK w ok k a cap) :
    Calls Tryd.prog 28 #[.agg #[.string ⟨#[124, 124]⟩, .string tag, .slice a k.length cap]] w fun e w' => e = .returned (.string ⟨(writtenE (.mk ⟨#[124, 124]⟩ tag k)).toArray⟩) ∧ Below w.heap.size w w' := by
  have hwr : writtenE (.mk ⟨#[124, 124]⟩ tag k) = rowW orL true k := wr_row _ _ _ (by decide) (by decide)
  rw [hwr] at hw ⊢
  have hW1 := (Below.refl w.heap.size w).alloc (Nat.le_refl _) (.cells #[.string ⟨#[124, 124]⟩, .string tag, .slice a k.length cap] 29)
  have hz1 : (w.alloc (.cells #[.string ⟨#[124, 124]⟩, .string tag, .slice a k.length cap] 29)).heap.size = w.heap.size + 1 := by simp
  have hq := (heap_alloc_old (w.alloc (.cells #[.string ⟨#[124, 124]⟩, .string tag, .slice a k.length cap] 29)) (.cells #[.pointer none, .slice none 0 0] 55) (by omega : w.heap.size < _)).trans (heap_alloc_new w (.cells #[.string ⟨#[124, 124]⟩, .string tag, .slice a k.length cap] 29))
  obtain ⟨⟨d0, d1, d2⟩, -⟩ := three_cells (heap_alloc_new w (.cells #[.string ⟨#[124, 124]⟩, .string tag, .slice a k.length cap] 29))
  obtain ⟨⟨d0', d1', d2'⟩, -⟩ := three_cells hq
  have hf : Bld (w.heap.size + 1) (w.heap.size + 1) (Lib.byteCells []) ((w.alloc (.cells #[.string ⟨#[124, 124]⟩, .string tag, .slice a k.length cap] 29)).alloc (.cells #[.pointer none, .slice none 0 0] 55)) := by
    have := Lib.fresh_isBuilder 55 5 (w.alloc (.cells #[.string ⟨#[124, 124]⟩, .string tag, .slice a k.length cap] 29))
    rw [hz1] at this
    exact this
  have HF := Lib.hid hf
  have HQ := Lib.hid hq
  have HW2 := Lib.hid (hW1.alloc (by omega) (.cells #[.pointer none, .slice none 0 0] 55))
  have HL := Lib.hid hl
  have HRK := Lib.hid hrk
  have HSL := Lib.hid hsk
  have HKS := Lib.hid hks
  have HIH := Lib.hid ih
  have HW := Lib.hid hw
  have HSZ : Hid (w.heap.size + 1 ≤ ((w.alloc (.cells #[.string ⟨#[124, 124]⟩, .string tag, .slice a k.length cap] 29)).alloc (.cells #[.pointer none, .slice none 0 0] 55)).heap.size) := by show _ ≤ _; simp
  clear hq hW1 hl hrk hsk hks ih hf hw hz1 hwr
  go_enter Tryd.func28, Tryd.ntmps28
  go_wp2_with fail
  clear d0 d1 d2 d0' d1' d2'
  go_loopw [23] (fun s23 wr => ∃ (i : Nat) (l : List UInt8), s23 = .int .i64 i ∧ i ≤ k.length ∧ Hid (Below w.heap.size w wr) ∧ w.heap.size + 1 ≤ wr.heap.size ∧ Hid (wr.heap[w.heap.size]? = some (.cells #[.string ⟨#[124, 124]⟩, .string tag, .slice a k.length cap] 29 (0, 0))) ∧ Hid (Bld (w.heap.size + 1) (w.heap.size + 1) (Lib.byteCells l) wr) ∧ Hid (l ++ rowW orL (true && i == 0) (k.drop i) = rowW orL true k))
    (fun s23 wr => k.length - (intOf s23).toNat)
  case atStart => exact ⟨0, [], rfl, Nat.zero_le _, HW2, HSZ.out, HQ, HF, rfl⟩
  case round =>
    obtain ⟨i, l, rfl, hi, HB, hszr, HQR, HBL, HM⟩ := hrel
    have hks := HKS.out
    by_cases hlt : i < k.length
    · have g2 : decide ((i : Int) < (k.length : Int)) = true := by simp; omega
      obtain ⟨⟨o2, t2, k2⟩, hy⟩ : ∃ y, k[i]? = some y := ⟨k[i], by simp [hlt]⟩
      obtain ⟨b, off, a2, cap2, rfl, hbw, m0, m1, m2, hl2⟩ := HL.out.cells hy
      have k0 := (HB.out.cell (p := ⟨b, _, none⟩) hbw).trans m0
      have k1 := (HB.out.cell (p := ⟨b, _, none⟩) hbw).trans m1
      have k2' := (HB.out.cell (p := ⟨b, _, none⟩) hbw).trans m2
      have hq4 := heap_alloc_new wr (.cells #[.string o2, .string t2, .slice a2 k2.length cap2] 29)
      obtain ⟨⟨f0, f1, f2⟩, -⟩ := three_cells hq4
      have hb4 := HB.out.alloc HB.out.size (.cells #[.string o2, .string t2, .slice a2 k2.length cap2] 29)
      have hq5 := (heap_alloc_old wr (.cells #[.string o2, .string t2, .slice a2 k2.length cap2] 29) (lt_of_block HQR.out)).trans HQR.out
      obtain ⟨⟨e0, e1, e2⟩, -⟩ := three_cells hq5
      have HQ4 := Lib.hid hq5
      have HN4 := Lib.hid hq4
      have HB4 := Lib.hid hb4
      have HBL4 : Hid (Bld (w.heap.size + 1) (w.heap.size + 1) (Lib.byteCells l) (wr.alloc (.cells #[.string o2, .string t2, .slice a2 k2.length cap2] 29))) := HBL.out.below ((Below.refl _ wr).alloc (Nat.le_refl _) _)
      have HST := Lib.hid (rowW_at orL true k i _ hy)
      have hlen : l.length + ((if (true && i == 0) then ([] : List UInt8) else 32 :: (orL ++ [32])).length + (withinL (.mk o2 t2 k2) orL).length) ≤ 3000000 := by
        have h1 := congrArg List.length HM.out
        rw [HST.out, List.length_append, List.length_append, List.length_append] at h1
        have := HW.out
        omega
      by_cases h0 : i = 0
      · subst h0
        rw [Nat.zero_mul, Nat.add_zero] at k0 k1 k2'
        have c3 := within_any left HIH.out (.mk o2 t2 k2) (.agg #[.string o2, .string t2, .slice a2 k2.length cap2]) ⟨#[124, 124]⟩ (.inr (.inr rfl)) (wr.alloc (.cells #[.string o2, .string t2, .slice a2 k2.length cap2] 29)) ok (rightL_mem HRK.out hy) (HSL.out.mem hy) (by show (withinL (.mk o2 t2 k2) orL).length ≤ _; omega) (by rw [ExtAt_eq]; exact ⟨a2, cap2, rfl, hl2.below hb4⟩)
        rw [show (ls ⟨#[124, 124]⟩) = orL from rfl] at c3
        have HLEN := Lib.hid hlen
        clear m0 m1 m2 hl2 hq4 hb4 hy hq5 hlen
        generalize withinL (.mk o2 t2 k2) orL = t at *
        go_wp2_with fail
        refine c3.mono ?_
        rintro e w5 ⟨rfl, hb5⟩
        have HB5 := Lib.hid hb5
        have hs5 := hb5.size
        rw [World.size_alloc] at hs5
        clear hb5 c3
        go_wp2_with fail
        refine (wstring_any (w.heap.size + 1) (w.heap.size + 1) _ ⟨t.toArray⟩ w5 (HBL4.out.below HB5.out) (by have := HLEN.out; rw [Lib.byteCells_length]; show _ + t.length ≤ _; omega) (by omega)).mono ?_
        rintro e w6 ⟨rfl, hbl6, hb6, -⟩
        rw [bytes_str] at hbl6
        have hb7 := (HB4.out.trans (HB5.out.mono HB4.out.size)).trans (hb6.mono (by omega))
        have hq7 := (hb6.block _ (by omega)).trans ((HB5.out.block _ (lt_of_block HQ4.out)).trans HQ4.out)
        have HB7 := Lib.hid hb7
        have HQ7 := Lib.hid hq7
        have HBL7 := Lib.hid hbl6
        have hs6 := hb6.size
        clear hb7 hq7 hbl6 hb6 HBL4 HQ4 HB4 HN4
        go_wp2
        go_roundw
        case rel => exact ⟨1, _, by go_num, by omega, HB7.out, by omega, HQ7.out, HBL7.out, by show _ = _; rw [← HM.out, HST.out]; simp⟩
        case measure => simp [intOf]; omega
      · have g3 : decide ((0 : Int) < (i : Int)) = true := by simp; omega
        have g3' : decide (0 < i) = true := by simp; omega
        have hne : (i == 0) = false := beq_eq_false_iff_ne.2 h0
        have hsp : ((⟨#[32]⟩ : ByteArray) ++ ⟨#[124, 124]⟩ ++ ⟨#[32]⟩).data.toList = 32 :: (orL ++ [32]) := by simp [orL]
        have hspn : ((⟨#[32]⟩ : ByteArray) ++ ⟨#[124, 124]⟩ ++ ⟨#[32]⟩).size = 4 := by rw [← ls_len]; exact congrArg List.length hsp
        have HSP := Lib.hid hsp
        have HSPN := Lib.hid hspn
        have HSM := Lib.hid (HSL.out.mem hy)
        have HX2 : Hid (ExtK w ok k2 a2 cap2) := hl2
        have hbw2 : w.heap.size + 1 < wr.heap.size := by
          rcases HBL.out with h | h
          · exact h.lt
          · exact h.lt
        have HRY := Lib.hid (rightL_mem HRK.out hy)
        have HOWN := Lib.hid (bld_own (o := .cells #[.string o2, .string t2, .slice a2 k2.length cap2] 29) HBL.out)
        rw [hne, Bool.and_false, if_neg (by decide)] at hlen
        have HLEN := Lib.hid hlen
        have HNE := Lib.hid hne
        have HSMALL := Lib.hid (show w.heap.size + 1 ≤ wr.heap.size from hszr)
        have HLT1 : Hid (w.heap.size + 1 < (wr.alloc (.cells #[.string o2, .string t2, .slice a2 k2.length cap2] 29)).heap.size) := by show _ < _; rw [World.size_alloc]; omega
        clear m0 m1 m2 hl2 hq4 hb4 hy hq5 hlen hsp hspn hne
        go_wp2_with fail
        generalize ((⟨#[32]⟩ : ByteArray) ++ ⟨#[124, 124]⟩ ++ ⟨#[32]⟩) = sp at *
        refine (wstring_any (w.heap.size + 1) (w.heap.size + 1) _ sp _ HBL4.out (by have := HLEN.out; rw [Lib.byteCells_length, HSPN.out]; simp only [List.length_cons, List.length_append, orL, List.length_nil] at this; omega) (by have := HLT1.out; omega)).mono ?_
        rintro e w5 ⟨rfl, hbl5, hb5, hk5⟩
        rw [bytes_str, HSP.out] at hbl5
        have HBL5 := Lib.hid hbl5
        have hs5 := hb5.size
        rw [World.size_alloc] at hs5
        have hn5 := (hk5 wr.heap.size (by rw [World.size_alloc]; omega) (by omega) HOWN.out).trans HN4.out
        obtain ⟨⟨f0', f1', f2'⟩, -⟩ := three_cells hn5
        have hb5' := HB4.out.trans (hb5.mono (by omega))
        have hq5 := (hb5.block _ (by omega)).trans HQ4.out
        obtain ⟨⟨e0', e1', e2'⟩, -⟩ := three_cells hq5
        have hx5 := HX2.out.below hb5'
        have c3 := within_any left HIH.out (.mk o2 t2 k2) (.agg #[.string o2, .string t2, .slice a2 k2.length cap2]) ⟨#[124, 124]⟩ (.inr (.inr rfl)) w5 ok HRY.out HSM.out (by have := HLEN.out; show (withinL (.mk o2 t2 k2) orL).length ≤ _; omega) (by rw [ExtAt_eq]; exact ⟨a2, cap2, rfl, hx5⟩)
        rw [show (ls ⟨#[124, 124]⟩) = orL from rfl] at c3
        have HB5 := Lib.hid hb5'
        have HQ5 := Lib.hid hq5
        clear hx5 hb5' hb5 hq5 hn5 hk5 hbl5 HBL4 HQ4 HB4 HN4 f0 f1 f2 e0 e1 e2
        generalize withinL (.mk o2 t2 k2) orL = t at *
        go_wp2_with fail
        refine c3.mono ?_
        rintro e w6 ⟨rfl, hb6⟩
        have HB6 := Lib.hid hb6
        have hs6 := hb6.size
        clear hb6 c3
        go_wp2_with fail
        refine (wstring_any (w.heap.size + 1) (w.heap.size + 1) _ ⟨t.toArray⟩ w6 (HBL5.out.below HB6.out) (by have := HLEN.out; rw [Lib.byteCells_length, List.length_append]; show _ + t.length ≤ _; omega) (by omega)).mono ?_
        rintro e w7 ⟨rfl, hbl7, hb7, -⟩
        rw [bytes_str] at hbl7
        have hb8 := (HB5.out.trans (HB6.out.mono HB5.out.size)).trans (hb7.mono (by omega))
        have hq8 := (hb7.block _ (by omega)).trans ((HB6.out.block _ (lt_of_block HQ5.out)).trans HQ5.out)
        have HB7 := Lib.hid hb8
        have HQ7 := Lib.hid hq8
        have HBL7 := Lib.hid hbl7
        have hs7 := hb7.size
        clear hb8 hq8 hbl7 hb7
        go_wp2
        go_roundw
        case rel => exact ⟨i + 1, _, by go_num, by omega, HB7.out, by omega, HQ7.out, HBL7.out, by show _ = _; rw [← HM.out, HST.out, HNE.out]; simp⟩
        case measure => simp [intOf]; omega
    · have g2 : decide ((i : Int) < (k.length : Int)) = false := by simp; omega
      have hik : i = k.length := by omega
      go_wp2_with fail
      refine (Tryd.Builder_String_any (w.heap.size + 1) (w.heap.size + 1) l wr HBL.out hszr).mono ?_
      rintro e w5 ⟨rfl, hb5⟩
      go_wp2
      go_ret
      refine ⟨?_, HB.out.trans (hb5.mono (by omega))⟩
      rw [← HM.out, hik, List.drop_length, rowW, List.append_nil]
      rfl

end Go.Proofs.YtojdhlmmnhjolaaDoor
