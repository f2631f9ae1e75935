/- package tag: the reader's factor, by induction. -/
import Derived.Test.YtojdhlmmnhjolaaDoorTag8
import Derived.Test.YtojdhlmmnhjolaaDoorTag3
namespace Go.Proofs.YtojdhlmmnhjolaaDoor
open Go.RowKit
set_option linter.unusedVariables false

theorem takeB_true {sign l l2 : ByteArray} {sg : List UInt8} (hs : ls sign = sg) (h1 : (takeB sign l).1 = true) (h2 : (takeB sign l).2 = l2) : (takeS sg (ls l)).1 = true ∧ ls l2 = (takeS sg (ls l)).2 := by
  subst hs
  subst h2
  exact ⟨(takeB_list sign l).1 ▸ h1, (takeB_list sign l).2⟩
theorem takeB_false {sign l l2 : ByteArray} {sg : List UInt8} (hs : ls sign = sg) (h1 : (takeB sign l).1 = false) (h2 : (takeB sign l).2 = l2) : (takeS sg (ls l)).1 = false ∧ ls l2 = (takeS sg (ls l)).2 := by
  subst hs
  subst h2
  exact ⟨(takeB_list sign l).1 ▸ h1, (takeB_list sign l).2⟩

theorem fac_not {f : Nat} {l l2 : ByteArray} (h1 : (takeS notL (ls l)).1 = true) (h2 : ls l2 = (takeS notL (ls l)).2) : factorF (f + 1) (ls l) = match factorF f (ls l2) with
      | some (x, r) => some (.mk ⟨#[33]⟩ ⟨#[]⟩ [x], r)
      | none => none := by
  rw [factorF]
  dsimp only
  rw [if_pos h1, ← h2]
  rfl
theorem fac_brac {f : Nat} {l l2 l3 : ByteArray} (h1 : (takeS notL (ls l)).1 = false) (h2 : ls l2 = (takeS notL (ls l)).2) (h3 : (takeS [40] (ls l2)).1 = true) (h4 : ls l3 = (takeS [40] (ls l2)).2) : factorF (f + 1) (ls l) = match orP (factorF f) (ls l3) with
      | some (x, r) => if (takeS [41] r).1 then some (x, (takeS [41] r).2) else none
      | none => none := by
  rw [factorF]
  dsimp only
  rw [if_neg (by rw [h1]; decide), ← h2, if_pos h3, ← h4]
  rfl
theorem fac_tag {f : Nat} {l l2 l3 : ByteArray} (h1 : (takeS notL (ls l)).1 = false) (h2 : ls l2 = (takeS notL (ls l)).2) (h3 : (takeS [40] (ls l2)).1 = false) (h4 : ls l3 = (takeS [40] (ls l2)).2) : factorF (f + 1) (ls l) =
      if rowN tagN l3 = 0 then none else some (.mk ⟨#[]⟩ (l3.extract 0 (rowN tagN l3)) [], ls (l3.extract (rowN tagN l3) l3.size)) := by
  rw [factorF]
  dsimp only
  rw [if_neg (by rw [h1]; decide), ← h2, if_neg (by rw [h3]; decide), ← h4]
  have e1 : l3.extract 0 (rowN tagN l3) = ⟨((ls l3).takeWhile tagB).toArray⟩ := by
    have h : ls (l3.extract 0 (rowN tagN l3)) = (ls l3).takeWhile tagB := by
      rw [ls_to]
      exact (List.prefix_iff_eq_take.1 (List.takeWhile_prefix (p := tagB) (l := ls l3))).symm
    rw [← h]
  rw [e1, ls_from]
  rfl

theorem fin3 {b : Nat} {W w1 : World} {o t : ByteArray} {k : List Ex} {a : Option Addr} {c : Nat} {l : ByteArray} (hbl : b < W.heap.size) (hB : But b W w1) (hq : w1.heap[W.heap.size]? = some (.cells #[.string ⟨#[]⟩, .string ⟨#[]⟩, .slice none 0 0] 29 (0, 0))) (hr : RdAt b l w1) (hl : ExtK w1 (fun i => W.heap.size + 1 ≤ i) k a c) :
    (((w1.setCell ⟨W.heap.size, 0, none⟩ (.string o)).setCell ⟨W.heap.size, 1, none⟩ (.string t)).setCell ⟨W.heap.size, 2, none⟩ (.slice a k.length c)).heap[W.heap.size]? = some (.cells #[.string o, .string t, .slice a k.length c] 29 (0, 0)) ∧
    FacEnds b (some (.mk o t k, ls l)) W (.returned (.agg #[.string o, .string t, .slice a k.length c])) (((w1.setCell ⟨W.heap.size, 0, none⟩ (.string o)).setCell ⟨W.heap.size, 1, none⟩ (.string t)).setCell ⟨W.heap.size, 2, none⟩ (.slice a k.length c)) := by
  have hne : ∀ i, i ≠ W.heap.size → (((w1.setCell ⟨W.heap.size, 0, none⟩ (.string o)).setCell ⟨W.heap.size, 1, none⟩ (.string t)).setCell ⟨W.heap.size, 2, none⟩ (.slice a k.length c)).heap[i]? = w1.heap[i]? := fun i hi =>
    ((Below.heap_setCell _ ⟨W.heap.size, 2, none⟩ _ i (by exact hi)).trans (Below.heap_setCell _ ⟨W.heap.size, 1, none⟩ _ i (by exact hi))).trans (Below.heap_setCell _ ⟨W.heap.size, 0, none⟩ _ i (by exact hi))
  refine ⟨three_set hq, ((hB.setCell (.inl (Nat.le_refl _)) _).setCell (.inl (Nat.le_refl _)) _).setCell (.inl (Nat.le_refl _)) _, ⟨_, rfl, ?_⟩, (hne b (by omega)).trans hr⟩
  rw [ExtAt_eq]
  exact ⟨a, c, rfl, ExtK.moves (fun i hi hok => ⟨by omega, hne i (by omega)⟩) _ _ _ hl⟩
theorem kid_one {w : World} {ok ok' : Nat → Prop} {o t : ByteArray} {k : List Ex} {a : Option Addr} {c : Nat} (hl : ExtK w ok k a c) (hok : ∀ i, i < w.heap.size → ok i → ok' i) (h' : ok' w.heap.size) :
    ExtK (w.alloc (.cells #[.string o, .string t, .slice a k.length c] 29)) ok' [.mk o t k] (some ⟨w.heap.size, 0, none⟩) 1 := by
  have hq := heap_alloc_new w (.cells #[.string o, .string t, .slice a k.length c] 29)
  obtain ⟨⟨d0, d1, d2⟩, -⟩ := three_cells hq
  refine ⟨?_, Nat.le_refl _⟩
  rw [ExtL]
  refine ⟨⟨w.heap.size, 0, .string o, .string t, .slice a k.length c, rfl, h', d0, d1, d2, ?_⟩, by rw [ExtL]; trivial⟩
  rw [ExtAt_eq]
  exact ⟨a, c, rfl, ExtK.moves (fun i hi hk => ⟨hok i hi hk, heap_alloc_old _ _ hi⟩) _ _ _ hl⟩

set_option maxRecDepth 100000 in
theorem factor_not (b f : Nat) (hf : f ≤ 1000) (hF : FacOk b f) (l : ByteArray) (W : World) (hl : l.size < f + 1) (hr : RdAt b l W) (ht : (takeB ⟨#[33]⟩ l).1 = true) :
    Calls Tryd.prog 49 #[.pointer (some ⟨b, 0, none⟩)] W fun e w' => FacEnds b (factorF (f + 1) (ls l)) W e w' := by
  have hbl := lt_of_block hr
  have hr1 : RdAt b l (W.alloc (.cells #[.string ⟨#[]⟩, .string ⟨#[]⟩, .slice none 0 0] 29)) := (Below.heap_alloc _ _ _ hbl).trans hr
  have HW1 := Lib.hid ((But.refl b W).alloc (.cells #[.string ⟨#[]⟩, .string ⟨#[]⟩, .slice none 0 0] 29))
  have HQ1 := Lib.hid (heap_alloc_new W (.cells #[.string ⟨#[]⟩, .string ⟨#[]⟩, .slice none 0 0] 29))
  have HBL := Lib.hid hbl
  have HSZ : Hid ((W.alloc (.cells #[.string ⟨#[]⟩, .string ⟨#[]⟩, .slice none 0 0] 29)).heap.size = W.heap.size + 1) := by show _ = _; simp
  have c1 := take_any b l ⟨#[33]⟩ _ (by omega) hr1
  obtain ⟨l2, hl2⟩ : ∃ l2, (takeB ⟨#[33]⟩ l).2 = l2 := ⟨_, rfl⟩
  rw [ht, hl2] at c1
  obtain ⟨t1, t2⟩ := takeB_true (sg := notL) rfl ht hl2
  have hlt : l2.size < l.size := by
    rw [← ls_len, ← ls_len, t2]
    exact takeS_lt _ _ (by decide) t1
  rw [fac_not t1 t2]
  have HL := Lib.hid hlt
  have HF := Lib.hid hF
  have HLL := Lib.hid hl
  clear hr hbl hr1 hl2 ht t1 t2 hlt hF hl
  cases hp : factorF f (ls l2) with
  | none =>
    have HP := Lib.hid hp
    clear hp
    go_enter Tryd.func49, Tryd.ntmps49
    go_wp2_with fail
    refine c1.mono ?_
    rintro e w2 ⟨rfl, hr2, hb2⟩
    have c2 := HF.out l2 w2 (by have := HL.out; have := HLL.out; omega) hr2
    rw [HP.out] at c2
    have HB2 := Lib.hid hb2
    clear hr2 hb2
    go_wp2_with fail
    refine c2.mono ?_
    rintro e w3 ⟨hb3, he⟩
    obtain rfl : e = _ := he
    exact ⟨rfl, HW1.out.trans (HB2.out.trans hb3), rfl⟩
  | some y =>
    obtain ⟨x, r⟩ := y
    obtain ⟨o1, t1, k1⟩ := x
    have HP := Lib.hid hp
    clear hp
    go_enter Tryd.func49, Tryd.ntmps49
    go_wp2_with fail
    refine c1.mono ?_
    rintro e w2 ⟨rfl, hr2, hb2⟩
    have c2 := HF.out l2 w2 (by have := HL.out; have := HLL.out; omega) hr2
    rw [HP.out] at c2
    have HB2 := Lib.hid hb2
    clear hr2 hb2
    go_wp2_with fail
    refine c2.mono ?_
    rintro e w3 ⟨hb3, ⟨v3, rfl, hx3⟩, hr3⟩
    rw [ExtAt_eq] at hx3
    obtain ⟨a1, cap1, rfl, hl3⟩ := hx3
    have bl := HBL.out
    have hB := HW1.out.trans (HB2.out.trans hb3)
    have hs2 := HB2.out.size
    rw [HSZ.out] at hs2
    have hs3 := hb3.size
    have hq3 : w3.heap[W.heap.size]? = _ := (hb3.block _ (by omega) (by omega)).trans ((HB2.out.block _ (by rw [HSZ.out]; omega) (by omega)).trans HQ1.out)
    have hq4 := (heap_alloc_old w3 (.cells #[.string o1, .string t1, .slice a1 k1.length cap1] 29) (by omega : W.heap.size < w3.heap.size)).trans hq3
    have hk := kid_one (w := w3) (ok' := fun i => W.heap.size + 1 ≤ i) (o := o1) (t := t1) (c := cap1) hl3 (fun i hi hok => by omega) (by omega)
    have hfin := fin3 (o := ⟨#[33]⟩) (t := ⟨#[]⟩) (c := 1) (l := ⟨r.toArray⟩) bl (hB.alloc _) hq4 ((Below.heap_alloc _ _ _ (by omega)).trans hr3) hk
    obtain ⟨⟨e0, e1, e2⟩, z0, z1, z2⟩ := three_cells hq4
    have HFI := Lib.hid hfin
    clear hfin hk hq4 hq3 hs3 hs2 hB hl3 hr3 hb3 c2 c1
    go_wp2
    refine bodyPost_end (ex_results _ _ rfl _ _ _ _ _ _ rfl HFI.out.1) rfl ?_
    exact HFI.out.2

set_option maxRecDepth 100000 in
theorem factor_tag (b f : Nat) (hf : f ≤ 1000) (l : ByteArray) (W : World) (hl : l.size < f + 1) (hr : RdAt b l W) (ht : (takeB ⟨#[33]⟩ l).1 = false) (hu : (takeB ⟨#[40]⟩ (takeB ⟨#[33]⟩ l).2).1 = false) :
    Calls Tryd.prog 49 #[.pointer (some ⟨b, 0, none⟩)] W fun e w' => FacEnds b (factorF (f + 1) (ls l)) W e w' := by
  have hbl := lt_of_block hr
  have hr1 : RdAt b l (W.alloc (.cells #[.string ⟨#[]⟩, .string ⟨#[]⟩, .slice none 0 0] 29)) := (Below.heap_alloc _ _ _ hbl).trans hr
  have HW1 := Lib.hid ((But.refl b W).alloc (.cells #[.string ⟨#[]⟩, .string ⟨#[]⟩, .slice none 0 0] 29))
  have HQ1 := Lib.hid (heap_alloc_new W (.cells #[.string ⟨#[]⟩, .string ⟨#[]⟩, .slice none 0 0] 29))
  have HBL := Lib.hid hbl
  have HSZ : Hid ((W.alloc (.cells #[.string ⟨#[]⟩, .string ⟨#[]⟩, .slice none 0 0] 29)).heap.size = W.heap.size + 1) := by show _ = _; simp
  have c1 := take_any b l ⟨#[33]⟩ _ (by omega) hr1
  obtain ⟨l2, hl2⟩ : ∃ l2, (takeB ⟨#[33]⟩ l).2 = l2 := ⟨_, rfl⟩
  have HS2 : Hid (l2.size ≤ l.size) := Lib.hid (hl2 ▸ takeB_size _ _)
  rw [ht, hl2] at c1
  rw [hl2] at hu
  obtain ⟨t1, t2⟩ := takeB_false (sg := notL) rfl ht hl2
  obtain ⟨l3, hl3⟩ : ∃ l3, (takeB ⟨#[40]⟩ l2).2 = l3 := ⟨_, rfl⟩
  have HS3 : Hid (l3.size ≤ l2.size) := Lib.hid (hl3 ▸ takeB_size _ _)
  obtain ⟨t3, t4⟩ := takeB_false (sg := [40]) rfl hu hl3
  rw [fac_tag t1 t2 t3 t4]
  have HU : Hid ((takeB ⟨#[40]⟩ l2).1 = false ∧ (takeB ⟨#[40]⟩ l2).2 = l3) := ⟨hu, hl3⟩
  have HLL := Lib.hid hl
  have hk := rowN_le tagN l3
  have c3 := row_tag l3
  obtain ⟨k, hke⟩ : ∃ k, rowN tagN l3 = k := ⟨_, rfl⟩
  rw [hke] at hk c3 ⊢
  clear hr hbl hr1 hl2 ht t1 t2 t3 t4 hl3 hu hl hke
  by_cases h0 : k = 0
  · have g0 := Lib.hid (show decide (0 < k) = false by simp; omega)
    rw [if_pos h0]
    clear h0
    go_enter Tryd.func49, Tryd.ntmps49
    go_wp2_with fail
    refine c1.mono ?_
    rintro e w2 ⟨rfl, hr2, hb2⟩
    have c2 := take_any b l2 ⟨#[40]⟩ w2 (by have := HLL.out; have := HS2.out; omega) hr2
    rw [HU.out.1, HU.out.2] at c2
    have HB2 := Lib.hid hb2
    clear hr2 hb2
    go_wp2_with fail
    refine c2.mono ?_
    rintro e w3 ⟨rfl, hr3, hb3⟩
    obtain ⟨d0, -⟩ := one_cell hr3
    have HB3 := Lib.hid hb3
    clear hr3 hb3 c1 c2
    go_wp2_with fail
    refine (c3 w3 (by have := HLL.out; have := HS2.out; have := HS3.out; omega)).mono ?_
    rintro e w4 ⟨rfl, hb4⟩
    have HB4 := Lib.hid hb4
    clear hb4 d0
    go_wp2_with fail
    rw [g0.out]
    refine (must_f w4).mono ?_
    rintro e w5 ⟨rfl, rfl⟩
    exact ⟨rfl, HW1.out.trans (HB2.out.trans (HB3.out.trans (.of_below HB4.out))), rfl⟩
  · have g0 := Lib.hid (show decide (0 < k) = true by simp; omega)
    rw [if_neg h0]
    have f1 : (0 : Int) ≤ (k : Int) := by omega
    have f2 : (k : Int) ≤ (l3.size : Int) := by omega
    clear h0
    go_enter Tryd.func49, Tryd.ntmps49
    go_wp2_with fail
    refine c1.mono ?_
    rintro e w2 ⟨rfl, hr2, hb2⟩
    have c2 := take_any b l2 ⟨#[40]⟩ w2 (by have := HLL.out; have := HS2.out; omega) hr2
    rw [HU.out.1, HU.out.2] at c2
    have HB2 := Lib.hid hb2
    clear hr2 hb2
    go_wp2_with fail
    refine c2.mono ?_
    rintro e w3 ⟨rfl, hr3, hb3⟩
    obtain ⟨d0, -⟩ := one_cell hr3
    have HR3 := Lib.hid hr3
    have HB3 := Lib.hid hb3
    clear hr3 hb3 c1 c2
    go_wp2_with fail
    refine (c3 w3 (by have := HLL.out; have := HS2.out; have := HS3.out; omega)).mono ?_
    rintro e w4 ⟨rfl, hb4⟩
    have bl := HBL.out
    have hB3 := HW1.out.trans (HB2.out.trans HB3.out)
    have hs2 := HB2.out.size
    rw [HSZ.out] at hs2
    have hs3 := HB3.out.size
    have hs4 := hb4.size
    have hq3 : w3.heap[W.heap.size]? = _ := (HB3.out.block _ (by omega) (by omega)).trans ((HB2.out.block _ (by rw [HSZ.out]; omega) (by omega)).trans HQ1.out)
    have hq4 : w4.heap[W.heap.size]? = _ := (hb4.block _ (by omega)).trans hq3
    have hr4 : RdAt b l3 w4 := (hb4.block _ (by omega)).trans HR3.out
    have hB4 := hB3.trans (.of_below hb4)
    obtain ⟨e0, y0⟩ := one_cell hr4
    clear d0 hq3 hb4
    go_wp2_with fail
    rw [g0.out]
    refine (must_t w4).mono ?_
    rintro e w5 ⟨rfl, rfl⟩
    have r5 : RdAt b l3 (w4.alloc (.cells #[.string ⟨#[]⟩, .string (l3.extract 0 k), .slice none 0 0] 29)) := (Below.heap_alloc _ _ _ (by omega)).trans hr4
    obtain ⟨d5, z5⟩ := one_cell r5
    have r6 := one_set (u := .string (l3.extract k l3.size)) r5
    have q5 := (Below.heap_alloc w4 (.cells #[.string ⟨#[]⟩, .string (l3.extract 0 k), .slice none 0 0] 29) W.heap.size (by omega)).trans hq4
    have q6 := (Below.heap_setCell _ ⟨b, 0, none⟩ (.string (l3.extract k l3.size)) W.heap.size (by show _ ≠ b; omega)).trans q5
    have p5 := heap_alloc_new w4 (.cells #[.string ⟨#[]⟩, .string (l3.extract 0 k), .slice none 0 0] 29)
    have p6 := (Below.heap_setCell _ ⟨b, 0, none⟩ (.string (l3.extract k l3.size)) w4.heap.size (by show _ ≠ b; omega)).trans p5
    obtain ⟨⟨i0, i1, i2⟩, j0, j1, j2⟩ := three_cells q6
    obtain ⟨⟨m0, m1, m2⟩, -⟩ := three_cells p6
    have HFI := Lib.hid (fin3 (o := ⟨#[]⟩) (t := l3.extract 0 k) (k := []) (a := none) (c := 0) bl ((hB4.alloc _).setCell (a := ⟨b, 0, none⟩) (.inr rfl) _) q6 r6 (extk_nil _ _))
    clear r5 r6 q5 q6 p5 p6 hB4 hB3 hr4 hq4 hs2 hs3 hs4
    go_wp2
    refine bodyPost_end (ex_results _ _ rfl _ _ _ _ _ _ rfl HFI.out.1) rfl ?_
    exact HFI.out.2

set_option maxRecDepth 100000 in
theorem factor_brac (b f : Nat) (hf : f ≤ 1000) (hF : FacOk b f) (l : ByteArray) (W : World) (hl : l.size < f + 1) (hr : RdAt b l W) (ht : (takeB ⟨#[33]⟩ l).1 = false) (hu : (takeB ⟨#[40]⟩ (takeB ⟨#[33]⟩ l).2).1 = true) :
    Calls Tryd.prog 49 #[.pointer (some ⟨b, 0, none⟩)] W fun e w' => FacEnds b (factorF (f + 1) (ls l)) W e w' := by
  have hbl := lt_of_block hr
  have hr1 : RdAt b l (W.alloc (.cells #[.string ⟨#[]⟩, .string ⟨#[]⟩, .slice none 0 0] 29)) := (Below.heap_alloc _ _ _ hbl).trans hr
  have HW1 := Lib.hid ((But.refl b W).alloc (.cells #[.string ⟨#[]⟩, .string ⟨#[]⟩, .slice none 0 0] 29))
  have HQ1 := Lib.hid (heap_alloc_new W (.cells #[.string ⟨#[]⟩, .string ⟨#[]⟩, .slice none 0 0] 29))
  have HBL := Lib.hid hbl
  have HSZ : Hid ((W.alloc (.cells #[.string ⟨#[]⟩, .string ⟨#[]⟩, .slice none 0 0] 29)).heap.size = W.heap.size + 1) := by show _ = _; simp
  have c1 := take_any b l ⟨#[33]⟩ _ (by omega) hr1
  obtain ⟨l2, hl2⟩ : ∃ l2, (takeB ⟨#[33]⟩ l).2 = l2 := ⟨_, rfl⟩
  have hs2 : l2.size ≤ l.size := hl2 ▸ takeB_size _ _
  have HS2 := Lib.hid hs2
  rw [ht, hl2] at c1
  rw [hl2] at hu
  obtain ⟨t1, t2⟩ := takeB_false (sg := notL) rfl ht hl2
  obtain ⟨l3, hl3⟩ : ∃ l3, (takeB ⟨#[40]⟩ l2).2 = l3 := ⟨_, rfl⟩
  obtain ⟨t3, t4⟩ := takeB_true (sg := [40]) rfl hu hl3
  have hlt : l3.size < l2.size := by
    rw [← ls_len, ← ls_len, t4]
    exact takeS_lt _ _ (by decide) t3
  rw [fac_brac t1 t2 t3 t4]
  have HU : Hid ((takeB ⟨#[40]⟩ l2).1 = true ∧ (takeB ⟨#[40]⟩ l2).2 = l3) := ⟨hu, hl3⟩
  obtain ⟨N, rfl⟩ : ∃ N, f = N + 1 := ⟨f - 1, by omega⟩
  have HC := Lib.hid (fun w (hr : RdAt b l3 w) => constraint_any b N (by omega) hF l3 w (by omega) hr)
  have HLL := Lib.hid hl
  have HL3 := Lib.hid hlt
  have HEA := Lib.hid (partsP_eats orL _ (partsP_eats andL _ (factorF_eats (N + 1))))
  clear hr hbl hr1 hl2 ht t1 t2 t3 t4 hl3 hu hl hlt hs2 hF
  cases hp : orP (factorF (N + 1)) (ls l3) with
  | none =>
    have HP := Lib.hid hp
    clear hp
    go_enter Tryd.func49, Tryd.ntmps49
    go_wp2_with fail
    refine c1.mono ?_
    rintro e w2 ⟨rfl, hr2, hb2⟩
    have c2 := take_any b l2 ⟨#[40]⟩ w2 (by have := HLL.out; have := HS2.out; omega) hr2
    rw [HU.out.1, HU.out.2] at c2
    have HB2 := Lib.hid hb2
    clear hr2 hb2
    go_wp2_with fail
    refine c2.mono ?_
    rintro e w3 ⟨rfl, hr3, hb3⟩
    have c3 := HC.out w3 hr3
    rw [HP.out] at c3
    have HB3 := Lib.hid hb3
    clear hr3 hb3 c1 c2
    go_wp2_with fail
    refine c3.mono ?_
    rintro e w4 ⟨hb4, he⟩
    obtain rfl : e = _ := he
    exact ⟨rfl, HW1.out.trans (HB2.out.trans (HB3.out.trans hb4)), rfl⟩
  | some y =>
    obtain ⟨x, r⟩ := y
    obtain ⟨o1, t1, k1⟩ := x
    have hrl : r.length < (ls l3).length := HEA.out _ _ _ hp
    rw [ls_len] at hrl
    have HRL := Lib.hid hrl
    have HP := Lib.hid hp
    obtain ⟨l5, hl5⟩ : ∃ l5, (takeB ⟨#[41]⟩ ⟨r.toArray⟩).2 = l5 := ⟨_, rfl⟩
    clear hp hrl
    change Calls Tryd.prog 49 #[.pointer (some ⟨b, 0, none⟩)] W fun e w' => FacEnds b (if (takeS [41] r).1 then some (.mk o1 t1 k1, (takeS [41] r).2) else none) W e w'
    cases hz : (takeB ⟨#[41]⟩ ⟨r.toArray⟩).1 with
    | false =>
      obtain ⟨t5, t6⟩ := takeB_false (sg := [41]) rfl hz hl5
      rw [if_neg (show ¬ (takeS [41] r).1 = true by rw [t5]; decide)]
      have HZ : Hid ((takeB ⟨#[41]⟩ ⟨r.toArray⟩).1 = false) := hz
      clear hz t5 t6
      go_enter Tryd.func49, Tryd.ntmps49
      go_wp2_with fail
      refine c1.mono ?_
      rintro e w2 ⟨rfl, hr2, hb2⟩
      have c2 := take_any b l2 ⟨#[40]⟩ w2 (by have := HLL.out; have := HS2.out; omega) hr2
      rw [HU.out.1, HU.out.2] at c2
      have HB2 := Lib.hid hb2
      clear hr2 hb2
      go_wp2_with fail
      refine c2.mono ?_
      rintro e w3 ⟨rfl, hr3, hb3⟩
      have c3 := HC.out w3 hr3
      rw [HP.out] at c3
      have HB3 := Lib.hid hb3
      clear hr3 hb3 c1 c2
      go_wp2_with fail
      refine c3.mono ?_
      rintro e w4 ⟨hb4, ⟨v4, rfl, hx4⟩, hr4⟩
      rw [ExtAt_eq] at hx4
      obtain ⟨a1, cap1, rfl, hl4⟩ := hx4
      have hbl4 : b < w4.heap.size := lt_of_block hr4
      have c4 := take_any b ⟨r.toArray⟩ ⟨#[41]⟩ (w4.alloc (.cells #[.string o1, .string t1, .slice a1 k1.length cap1] 29)) (by have := HRL.out; have := HL3.out; have := HS2.out; have := HLL.out; show r.length ≤ _; omega) ((Below.heap_alloc _ _ _ hbl4).trans hr4)
      rw [HZ.out] at c4
      have HB4 := Lib.hid (hb4.alloc (.cells #[.string o1, .string t1, .slice a1 k1.length cap1] 29))
      clear hr4 hb4 hl4 hbl4 c3
      go_wp2_with fail
      refine c4.mono ?_
      rintro e w5 ⟨rfl, hr5, hb5⟩
      have HB5 := Lib.hid hb5
      clear hr5 hb5 c4
      go_wp2_with fail
      refine (must_f w5).mono ?_
      rintro e w6 ⟨rfl, rfl⟩
      exact ⟨rfl, HW1.out.trans (HB2.out.trans (HB3.out.trans (HB4.out.trans HB5.out))), rfl⟩
    | true =>
      obtain ⟨t5, t6⟩ := takeB_true (sg := [41]) rfl hz hl5
      rw [if_pos t5, ← t6]
      have HZ : Hid ((takeB ⟨#[41]⟩ ⟨r.toArray⟩).1 = true ∧ (takeB ⟨#[41]⟩ ⟨r.toArray⟩).2 = l5) := ⟨hz, hl5⟩
      clear hz t5 t6 hl5
      go_enter Tryd.func49, Tryd.ntmps49
      go_wp2_with fail
      refine c1.mono ?_
      rintro e w2 ⟨rfl, hr2, hb2⟩
      have c2 := take_any b l2 ⟨#[40]⟩ w2 (by have := HLL.out; have := HS2.out; omega) hr2
      rw [HU.out.1, HU.out.2] at c2
      have HB2 := Lib.hid hb2
      clear hr2 hb2
      go_wp2_with fail
      refine c2.mono ?_
      rintro e w3 ⟨rfl, hr3, hb3⟩
      have c3 := HC.out w3 hr3
      rw [HP.out] at c3
      have HB3 := Lib.hid hb3
      clear hr3 hb3 c1 c2
      go_wp2_with fail
      refine c3.mono ?_
      rintro e w4 ⟨hb4, ⟨v4, rfl, hx4⟩, hr4⟩
      rw [ExtAt_eq] at hx4
      obtain ⟨a1, cap1, rfl, hl4⟩ := hx4
      have hbl4 : b < w4.heap.size := lt_of_block hr4
      have c4 := take_any b ⟨r.toArray⟩ ⟨#[41]⟩ (w4.alloc (.cells #[.string o1, .string t1, .slice a1 k1.length cap1] 29)) (by have := HRL.out; have := HL3.out; have := HS2.out; have := HLL.out; show r.length ≤ _; omega) ((Below.heap_alloc _ _ _ hbl4).trans hr4)
      rw [HZ.out.1, HZ.out.2] at c4
      have HB4 := Lib.hid hb4
      have HL4 := Lib.hid hl4
      clear hr4 hb4 hl4 c3
      go_wp2_with fail
      refine c4.mono ?_
      rintro e w5 ⟨rfl, hr5, hb5⟩
      have HB5 := Lib.hid hb5
      have HR5 := Lib.hid hr5
      clear hr5 hb5 c4
      go_wp2_with fail
      refine (must_t w5).mono ?_
      rintro e w6 ⟨rfl, rfl⟩
      have bl := HBL.out
      have hs2 := HB2.out.size
      rw [HSZ.out] at hs2
      have hs3 := HB3.out.size
      have hs4 := HB4.out.size
      have hs5 := HB5.out.size
      rw [World.size_alloc] at hs5
      have q2 : w2.heap[W.heap.size]? = _ := (HB2.out.block _ (by rw [HSZ.out]; omega) (by omega)).trans HQ1.out
      have q4 : w4.heap[W.heap.size]? = _ := (HB4.out.block _ (by omega) (by omega)).trans ((HB3.out.block _ (by omega) (by omega)).trans q2)
      have q5 : w5.heap[W.heap.size]? = _ := (HB5.out.block _ (by simp; omega) (by omega)).trans ((heap_alloc_old _ _ (by omega)).trans q4)
      have p5 : w5.heap[w4.heap.size]? = _ := (HB5.out.block _ (by simp) (by omega)).trans (heap_alloc_new _ _)
      obtain ⟨⟨i0, i1, i2⟩, j0, j1, j2⟩ := three_cells q5
      obtain ⟨⟨m0, m1, m2⟩, -⟩ := three_cells p5
      have hB5 := HW1.out.trans (HB2.out.trans (HB3.out.trans ((HB4.out.alloc _).trans HB5.out)))
      have hx5 := ExtK.moves (w' := w5) (ok' := fun i => W.heap.size + 1 ≤ i) (fun i hi hok => ⟨by omega, (HB5.out.block _ (by simp; omega) (by omega)).trans (heap_alloc_old _ _ hi)⟩) _ _ _ HL4.out
      have HFI := Lib.hid (fin3 (o := o1) (t := t1) (c := cap1) bl hB5 q5 HR5.out hx5)
      clear q2 q4 q5 p5 hx5 hB5 hs2 hs3 hs4 hs5
      go_wp2
      refine bodyPost_end (ex_results _ _ rfl _ _ _ _ _ _ rfl HFI.out.1) rfl ?_
      exact HFI.out.2

theorem factor_any (b : Nat) : ∀ f, f ≤ 1001 → FacOk b f
  | 0, _ => fun l W hl _ => absurd hl (Nat.not_lt_zero _)
  | f + 1, hf => fun l W hl hr => by
    have hF := factor_any b f (by omega)
    cases h1 : (takeB ⟨#[33]⟩ l).1 with
    | true => exact factor_not b f (by omega) hF l W hl hr h1
    | false =>
      cases h2 : (takeB ⟨#[40]⟩ (takeB ⟨#[33]⟩ l).2).1 with
      | true => exact factor_brac b f (by omega) hF l W hl hr h1 h2
      | false => exact factor_tag b f (by omega) l W hl hr h1 h2
/-- What is read as a constraint. -/
theorem read_any (b : Nat) (l : ByteArray) (w : World) (hl : l.size ≤ 1000) (hr : RdAt b l w) :
    Calls Tryd.prog 38 #[.pointer (some ⟨b, 0, none⟩)] w fun e w' => FacEnds b (orP (factorF (l.size + 1)) (ls l)) w e w' :=
  constraint_any b l.size hl (factor_any b _ (by omega)) l w (Nat.le_refl _) hr
end Go.Proofs.YtojdhlmmnhjolaaDoor
