/- package tag: what is shaped as a constraint. -/
import Derived.Test.YtojdhlmmnhjolaaDoorTag9
namespace Go.Proofs.YtojdhlmmnhjolaaDoor
open Go.RowKit
set_option linter.unusedVariables false

theorem bl_inj {a b : ByteArray} (h : a.toList = b.data.toList) : a = b := by
  rw [Lib.toList_data] at h
  obtain ⟨⟨x⟩⟩ := a
  obtain ⟨⟨y⟩⟩ := b
  simp only at h
  rw [h]
theorem str_ne {op : ByteArray} {l : List UInt8} (h : op ≠ ⟨l.toArray⟩) : (op.toList == l) = false ∧ ¬ op.toList = l := by
  have : ¬ op.toList = l := fun e => h (bl_inj e)
  exact ⟨beq_eq_false_iff_ne.2 this, this⟩
theorem str_empty {op : ByteArray} (h : op ≠ ⟨#[]⟩) : op.toList.isEmpty = false ∧ ¬ op.toList = [] := by
  have : ¬ op.toList = [] := fun e => h (bl_inj e)
  exact ⟨by simpa using this, this⟩
theorem str_cases (op : ByteArray) : (op = ⟨#[]⟩) ∨ (op = ⟨#[33]⟩) ∨ (op = ⟨#[38, 38]⟩) ∨ (op = ⟨#[124, 124]⟩) ∨ (op ≠ ⟨#[]⟩ ∧ op ≠ ⟨#[33]⟩ ∧ op ≠ ⟨#[38, 38]⟩ ∧ op ≠ ⟨#[124, 124]⟩) := by
  by_cases h0 : op = ⟨#[]⟩
  · exact .inl h0
  by_cases h1 : op = ⟨#[33]⟩
  · exact .inr (.inl h1)
  by_cases h2 : op = ⟨#[38, 38]⟩
  · exact .inr (.inr (.inl h2))
  by_cases h3 : op = ⟨#[124, 124]⟩
  · exact .inr (.inr (.inr (.inl h3)))
  exact .inr (.inr (.inr (.inr ⟨h0, h1, h2, h3⟩)))

theorem sh_none (tag : ByteArray) (k : List Ex) : shapedE (.mk ⟨#[]⟩ tag k) = (!tag.data.toList.isEmpty && tag.data.toList.all tagB && k.isEmpty) := by rw [shapedE, if_pos rfl]
theorem sh_not (tag : ByteArray) (k : List Ex) : shapedE (.mk ⟨#[33]⟩ tag k) = (tag.data.toList.isEmpty && k.length == 1) := by rw [shapedE, if_neg (by decide), if_pos (show (⟨#[33]⟩ : ByteArray).data.toList = notL from rfl)]
theorem sh_and (tag : ByteArray) (k : List Ex) : shapedE (.mk ⟨#[38, 38]⟩ tag k) = (tag.data.toList.isEmpty && decide (2 ≤ k.length)) := by rw [shapedE, if_neg (by decide), if_neg (by decide), if_pos (.inl rfl)]
theorem sh_or (tag : ByteArray) (k : List Ex) : shapedE (.mk ⟨#[124, 124]⟩ tag k) = (tag.data.toList.isEmpty && decide (2 ≤ k.length)) := by rw [shapedE, if_neg (by decide), if_neg (by decide), if_pos (.inr rfl)]
theorem sh_other (op tag : ByteArray) (k : List Ex) (h0 : ¬ op.toList = []) (h1 : ¬ op.toList = [33]) (h2 : ¬ op.toList = [38, 38]) (h3 : ¬ op.toList = [124, 124]) : shapedE (.mk op tag k) = false := by
  rw [Lib.toList_data] at h0 h1 h2 h3
  rw [shapedE, if_neg h0, if_neg (show ¬ _ = notL from h1), if_neg (show ¬ (_ = andL ∨ _ = orL) from fun h => h.elim h2 h3)]
theorem int_one (n : Nat) : (((n : Nat) : Int) == 1) = (n == 1) := by
  rw [Bool.eq_iff_iff, beq_iff_eq, beq_iff_eq]
  omega

theorem int_two (n : Nat) : decide (2 ≤ ((n : Nat) : Int)) = decide (2 ≤ n) := by
  rw [Bool.eq_iff_iff, decide_eq_true_eq, decide_eq_true_eq]
  omega

set_option maxRecDepth 100000 in
theorem shaped_any (op tag : ByteArray) (k : List Ex) (a : Option Addr) (cap : Nat) (w : World) (ht : tag.size ≤ 4294967296) :
    Calls Tryd.prog 31 #[.agg #[.string op, .string tag, .slice a k.length cap]] w fun e w' => e = .returned (.bool (shapedE (.mk op tag k))) ∧ Below w.heap.size w w' := by
  have hW1 := (Below.refl w.heap.size w).alloc (Nat.le_refl _) (.cells #[.string op, .string tag, .slice a k.length cap] 29)
  have hq := heap_alloc_new w (.cells #[.string op, .string tag, .slice a k.length cap] 29)
  obtain ⟨⟨d0, d1, d2⟩, -⟩ := three_cells hq
  have HW1 := Lib.hid hW1
  clear hW1 hq
  rcases str_cases op with rfl | rfl | rfl | rfl | ⟨n0, n1, n2, n3⟩
  · have hmx : Tryd.prog.follows .mixedOrders = true := by kernel_rfl
    by_cases h0 : tag = ⟨#[]⟩
    · subst h0
      go_enter Tryd.func31, Tryd.ntmps31
      go_wp2_with fail
      have g0 := fun x : Kept _ => Kept.cell d0 x
      have g1 := fun x : Kept _ => Kept.cell d1 x
      have g2 := fun x : Kept _ => Kept.cell d2 x
      clear d0 d1 d2
      refine wp_region_kept hmx (by kernel_rfl) ?_
      repeat (go_big_quiet_step (fail))
      refine wpQuiet_nil ?_
      rintro _ ⟨v, rfl⟩
      have HV := Lib.hid (HW1.out.trans (v.h.mono HW1.out.size))
      generalize v.W = X at *
      go_wp2
      go_ret
      refine ⟨?_, HV.out⟩
      rw [sh_none]
      rfl
    · obtain ⟨n0, n0'⟩ := str_empty h0
      have c1 := fun w => row_tag tag w ht
      have ha := rowN_all tagN tag
      obtain ⟨e, he⟩ : ∃ e, rowN tagN tag = e := ⟨_, rfl⟩
      rw [he] at c1 ha
      by_cases h1 : e = tag.size
      · have hall := ha.1 h1
        have m1 : (((e : Nat) : Int) == ((tag.size : Nat) : Int)) = true := beq_iff_eq.2 (by omega)
        by_cases h2 : k.length = 0
        · have m2 : (((k.length : Nat) : Int) == 0) = true := beq_iff_eq.2 (by omega)
          have HS : Hid (shapedE (.mk ⟨#[]⟩ tag k) = true) := by
            show _ = _
            rw [sh_none, ← Lib.toList_data, n0, Lib.toList_data, show tag.data.toList.all tagB = true from hall, List.eq_nil_of_length_eq_zero h2]
            rfl
          clear ha h1 hall h2 he
          go_enter Tryd.func31, Tryd.ntmps31
          go_wp2_with fail
          have g0 := fun x : Kept _ => Kept.cell d0 x
          have g1 := fun x : Kept _ => Kept.cell d1 x
          have g2 := fun x : Kept _ => Kept.cell d2 x
          clear d0 d1 d2
          refine wp_region_kept hmx (by kernel_rfl) ?_
          repeat (go_big_quiet_step (first | (go_at_call 40; exact kept_call (c1 _))))
          refine wpQuiet_nil ?_
          rintro _ ⟨v, rfl⟩
          have HV := Lib.hid (HW1.out.trans (v.h.mono HW1.out.size))
          generalize v.W = X at *
          go_wp2
          go_ret
          refine ⟨?_, HV.out⟩
          rw [HS.out]
          rfl
        · have m2 : (((k.length : Nat) : Int) == 0) = false := beq_eq_false_iff_ne.2 (by omega)
          have HS : Hid (shapedE (.mk ⟨#[]⟩ tag k) = false) := by
            show _ = _
            rw [sh_none, show k.isEmpty = false by cases k with | nil => exact absurd rfl h2 | cons _ _ => rfl, Bool.and_false]
          clear ha h1 hall h2 he
          go_enter Tryd.func31, Tryd.ntmps31
          go_wp2_with fail
          have g0 := fun x : Kept _ => Kept.cell d0 x
          have g1 := fun x : Kept _ => Kept.cell d1 x
          have g2 := fun x : Kept _ => Kept.cell d2 x
          clear d0 d1 d2
          refine wp_region_kept hmx (by kernel_rfl) ?_
          repeat (go_big_quiet_step (first | (go_at_call 40; exact kept_call (c1 _))))
          refine wpQuiet_nil ?_
          rintro _ ⟨v, rfl⟩
          have HV := Lib.hid (HW1.out.trans (v.h.mono HW1.out.size))
          generalize v.W = X at *
          go_wp2
          go_ret
          refine ⟨?_, HV.out⟩
          rw [HS.out]
          rfl
      · have m1 : (((e : Nat) : Int) == ((tag.size : Nat) : Int)) = false := beq_eq_false_iff_ne.2 (by omega)
        have HS : Hid (shapedE (.mk ⟨#[]⟩ tag k) = false) := by
          show _ = _
          rw [sh_none, show tag.data.toList.all tagB = false from Bool.eq_false_iff.2 fun h => h1 (ha.2 h), Bool.and_false, Bool.false_and]
        clear ha h1 he
        go_enter Tryd.func31, Tryd.ntmps31
        go_wp2_with fail
        have g0 := fun x : Kept _ => Kept.cell d0 x
        have g1 := fun x : Kept _ => Kept.cell d1 x
        have g2 := fun x : Kept _ => Kept.cell d2 x
        clear d0 d1 d2
        refine wp_region_kept hmx (by kernel_rfl) ?_
        repeat (go_big_quiet_step (first | (go_at_call 40; exact kept_call (c1 _))))
        refine wpQuiet_nil ?_
        rintro _ ⟨v, rfl⟩
        have HV := Lib.hid (HW1.out.trans (v.h.mono HW1.out.size))
        generalize v.W = X at *
        go_wp2
        go_ret
        refine ⟨?_, HV.out⟩
        rw [HS.out]
        rfl
  · by_cases h0 : tag = ⟨#[]⟩
    · subst h0
      go_enter Tryd.func31, Tryd.ntmps31
      go_wp2
      go_ret
      refine ⟨?_, HW1.out⟩
      rw [sh_not]
      show Ending.returned (.bool (((k.length : Nat) : Int) == 1)) = _
      rw [int_one]
      rfl
    · obtain ⟨n0, n0'⟩ := str_empty h0
      go_enter Tryd.func31, Tryd.ntmps31
      go_wp2
      go_ret
      refine ⟨?_, HW1.out⟩
      rw [sh_not]
      show Ending.returned (.bool false) = _
      rw [← Lib.toList_data, n0]
      rfl
  · by_cases h0 : tag = ⟨#[]⟩
    · subst h0
      go_enter Tryd.func31, Tryd.ntmps31
      go_wp2
      go_ret
      refine ⟨?_, HW1.out⟩
      rw [sh_and]
      show Ending.returned (.bool (decide (2 ≤ ((k.length : Nat) : Int)))) = _
      rw [int_two]
      rfl
    · obtain ⟨n0, n0'⟩ := str_empty h0
      go_enter Tryd.func31, Tryd.ntmps31
      go_wp2
      go_ret
      refine ⟨?_, HW1.out⟩
      rw [sh_and]
      show Ending.returned (.bool false) = _
      rw [← Lib.toList_data, n0]
      rfl
  · by_cases h0 : tag = ⟨#[]⟩
    · subst h0
      go_enter Tryd.func31, Tryd.ntmps31
      go_wp2
      go_ret
      refine ⟨?_, HW1.out⟩
      rw [sh_or]
      show Ending.returned (.bool (decide (2 ≤ ((k.length : Nat) : Int)))) = _
      rw [int_two]
      rfl
    · obtain ⟨n0, n0'⟩ := str_empty h0
      go_enter Tryd.func31, Tryd.ntmps31
      go_wp2
      go_ret
      refine ⟨?_, HW1.out⟩
      rw [sh_or]
      show Ending.returned (.bool false) = _
      rw [← Lib.toList_data, n0]
      rfl
  · obtain ⟨n0, n0'⟩ := str_empty n0
    obtain ⟨n1, n1'⟩ := str_ne (l := [33]) n1
    obtain ⟨n2, n2'⟩ := str_ne (l := [38, 38]) n2
    obtain ⟨n3, n3'⟩ := str_ne (l := [124, 124]) n3
    go_enter Tryd.func31, Tryd.ntmps31
    go_wp2
    go_ret
    refine ⟨?_, HW1.out⟩
    rw [sh_other _ _ _ n0' n1' n2' n3']
    rfl
end Go.Proofs.YtojdhlmmnhjolaaDoor
