/- TagBack: what is written is read as it was. -/
import Derived.Test.YtojdhlmmnhjolaaDoorTag20
import Derived.Test.YtojdhlmmnhjolaaDoorTagS
import Derived.Test.YtojdhlmmnhjolaaDoorTagF
import Derived.Test.YtojdhlmmnhjolaaDoorTagE
import Derived.Test.YtojdhlmmnhjolaaDoorTagG
namespace Go.Proofs.YtojdhlmmnhjolaaDoor
open Go.RowKit
set_option linter.unusedVariables false

theorem rowW_bulk {op : List UInt8} (h2 : op.length = 2) : ∀ (l : List Ex) (first : Bool), (∀ k ∈ l, (withinL k op).length + 4 ≤ 2 * bulkE k) → (rowW op first l).length ≤ 2 * bulkL l
  | [], first, h => Nat.zero_le _
  | x :: r, first, h => by
    have h1 := h x List.mem_cons_self
    have h3 := rowW_bulk h2 r false (fun k hk => h k (List.mem_cons_of_mem _ hk))
    have h4 : (if first = true then ([] : List UInt8) else 32 :: (op ++ [32])).length ≤ 4 := by
      cases first
      · simp [h2]
      · simp
    rw [rowW, bulkL, List.length_append, List.length_append]
    show _ + ((withinL x op).length + _) ≤ _
    omega
theorem written_bulk : ∀ (n : Nat) (x : Ex), cntE x ≤ n → (∃ m, rightE m x = true) → (writtenE x).length + 6 ≤ 2 * bulkE x
  | 0, .mk op tag kids, hn, _ => by rw [cntE] at hn; omega
  | n + 1, .mk op tag kids, hn, ⟨m, hm⟩ => by
    rw [cntE] at hn
    obtain ⟨_, hsh, hrl⟩ := right_parts hm
    have ih : ∀ (o : List UInt8), ∀ k ∈ kids, (withinL k o).length + 4 ≤ 2 * bulkE k := fun o k hk => by
      have h1 := written_bulk n k (by have := cnt_mem _ _ hk; omega) ⟨m - 1, rightL_in hrl hk⟩
      have h2 := withinL_two k o
      omega
    rw [shapedE] at hsh
    split at hsh
    · rename_i h0
      rw [writtenE, if_pos h0, bulkE]
      show tag.data.toList.length + 6 ≤ _
      rw [Array.length_toList]
      show tag.size + 6 ≤ _
      omega
    split at hsh
    · rename_i h0 h1
      rw [Bool.and_eq_true, beq_iff_eq] at hsh
      obtain ⟨y, rfl⟩ := List.length_eq_one_iff.1 hsh.2
      have h2 := ih notL y List.mem_cons_self
      obtain rfl := bytes_of h1
      rw [show writtenE (.mk ⟨notL.toArray⟩ tag [y]) = 33 :: withinL y notL from wr_not _ y, bulkE, bulkL, bulkL, List.length_cons]
      omega
    split at hsh
    · rename_i h0 h1 h2
      rw [wr_row _ _ _ h0 h1, bulkE]
      have h3 : op.data.toList.length = 2 := by rcases h2 with h2 | h2 <;> rw [h2] <;> rfl
      have h4 := rowW_bulk h3 kids true (ih op.data.toList)
      have h5 : op.size = 2 := by rw [Array.length_toList] at h3; exact h3
      omega
    · cases hsh
theorem writeM_bulk (x : Ex) (hb : bulkE x ≤ 1048576) : (writeM x).length ≤ 3000000 := by
  unfold writeM
  split
  · rename_i h
    have := written_bulk _ x (Nat.le_refl _) ⟨100, h⟩
    omega
  · exact Nat.zero_le _
theorem write_back {x : Ex} (h0 : writeM x ≠ []) (hl : (writeM x).length ≤ 500) : readM ⟨(writeM x).toArray⟩ = some x := by
  unfold writeM at h0 hl ⊢
  split at h0
  · rename_i h
    rw [if_pos h] at hl ⊢
    exact read_back h hl
  · exact absurd rfl h0

set_option maxHeartbeats 1000000 in
set_option maxRecDepth 100000 in
theorem back_walk (x : Ex) (v : Value) (w : World) (ok : Nat → Prop) (hb : bulkE x ≤ 1048576) (hx : ExtAt w ok x v) :
    Calls Tryd.prog 4 #[v] w fun e w' => e = .returned (.bool true) ∧ Below w.heap.size w w' := by
  have hback := write_back (x := x)
  have hwb := writeM_bulk x hb
  obtain ⟨op, tag, k⟩ := x
  have hx' := hx
  rw [ExtAt_eq] at hx'
  obtain ⟨b, c, rfl, hk⟩ := hx'
  have hW1 := (Below.refl w.heap.size w).alloc (Nat.le_refl _) (.cells #[.string op, .string tag, .slice b k.length c] 24)
  have hq := heap_alloc_new w (.cells #[.string op, .string tag, .slice b k.length c] 24)
  obtain ⟨⟨d0, d1, d2⟩, -⟩ := three_cells hq
  have c1 := size_any (.mk op tag k) (.agg #[.string op, .string tag, .slice b k.length c]) _ ok hb (by rw [ExtAt_eq]; exact ⟨b, c, rfl, hk.below hW1⟩)
  have COF := Lib.hid (fun W (h : Below w.heap.size w W) => of_any (.mk op tag k) (.agg #[.string op, .string tag, .slice b k.length c]) W ok hb (by rw [ExtAt_eq]; exact ⟨b, c, rfl, hk.below h⟩))
  have HK := Lib.hid hk
  have HW1 := Lib.hid hW1
  have HQ := Lib.hid hq
  have HBU := Lib.hid hb
  have HSM := Lib.hid (small_bulk _ hb)
  have HWB := Lib.hid hwb
  clear hW1 hx hk hb hq hwb
  generalize nodesE (.mk op tag k) = q at *
  by_cases h1 : 200 < q
  · have g1 : decide ((200 : Int) < (q : Int)) = true := by simp; omega
    go_enter Tryd.func4, Tryd.ntmps4
    go_wp2_with fail
    refine c1.mono ?_
    rintro e w2 ⟨rfl, hb2⟩
    go_wp2
    go_ret
    exact ⟨rfl, HW1.out.trans (hb2.mono HW1.out.size)⟩
  have g1 : decide ((200 : Int) < (q : Int)) = false := by simp; omega
  have CW := Lib.hid (fun W a5 c5 ok5 (h : ExtK W ok5 k a5 c5) => Write_any (.mk op tag k) (.agg #[.string op, .string tag, .slice a5 k.length c5]) W ok5 HSM.out HWB.out (by rw [ExtAt_eq]; exact ⟨a5, c5, rfl, h⟩))
  have hsz : (⟨(writeM (.mk op tag k)).toArray⟩ : ByteArray).size = (writeM (.mk op tag k)).length := by
    show (writeM (.mk op tag k)).toArray.size = _
    rw [List.size_toArray]
  have hemp : (⟨(writeM (.mk op tag k)).toArray⟩ : ByteArray) = ⟨#[]⟩ ∨ ((⟨(writeM (.mk op tag k)).toArray⟩ : ByteArray) ≠ ⟨#[]⟩ ∧ writeM (.mk op tag k) ≠ []) := by
    by_cases e : writeM (.mk op tag k) = []
    · left; rw [e]
    · right
      refine ⟨fun h => e ?_, e⟩
      have := congrArg (fun s : ByteArray => s.data.toList) h
      simpa using this
  rw [← hsz] at hback
  generalize (⟨(writeM (.mk op tag k)).toArray⟩ : ByteArray) = s at *
  rcases hemp with rfl | ⟨hne, hw0⟩
  · clear hback hsz
    go_enter Tryd.func4, Tryd.ntmps4
    go_wp2_with fail
    refine c1.mono ?_
    rintro e w2 ⟨rfl, hb2⟩
    have HB2 := Lib.hid (HW1.out.trans (hb2.mono HW1.out.size))
    have HQ2 := Lib.hid ((hb2.block _ (lt_of_block HQ.out)).trans HQ.out)
    clear d0 d1 d2 hb2
    obtain ⟨⟨d0, d1, d2⟩, -⟩ := three_cells HQ2.out
    go_wp2_with fail
    refine (COF.out _ HB2.out).mono ?_
    rintro e w3 ⟨hb3, u3, rfl, hx3⟩
    rw [ExtAt_eq] at hx3
    obtain ⟨a5, c5, rfl, hk3⟩ := hx3
    have HB3 := Lib.hid (HB2.out.trans (hb3.mono HB2.out.size))
    have HK3 := Lib.hid hk3
    clear d0 d1 d2 hb3 hk3
    go_wp2_with fail
    refine (CW.out _ _ _ _ HK3.out).mono ?_
    rintro e w4 ⟨rfl, hb4⟩
    have HB4 := Lib.hid (HB3.out.trans (hb4.mono HB3.out.size))
    clear hb4
    go_wp2_with fail
    refine (awake_any _).mono ?_
    rintro e w5 ⟨rfl, hb5⟩
    go_wp2
    go_ret
    exact ⟨rfl, HB4.out.trans (hb5.mono HB4.out.size)⟩
  obtain ⟨n0, n1⟩ := str_empty hne
  by_cases hl : 500 < s.size
  · have g5 : decide ((500 : Int) < (s.size : Int)) = true := by simp; omega
    clear hback hsz hne hw0 hl
    go_enter Tryd.func4, Tryd.ntmps4
    go_wp2_with fail
    refine c1.mono ?_
    rintro e w2 ⟨rfl, hb2⟩
    have HB2 := Lib.hid (HW1.out.trans (hb2.mono HW1.out.size))
    have HQ2 := Lib.hid ((hb2.block _ (lt_of_block HQ.out)).trans HQ.out)
    clear d0 d1 d2 hb2
    obtain ⟨⟨d0, d1, d2⟩, -⟩ := three_cells HQ2.out
    go_wp2_with fail
    refine (COF.out _ HB2.out).mono ?_
    rintro e w3 ⟨hb3, u3, rfl, hx3⟩
    rw [ExtAt_eq] at hx3
    obtain ⟨a5, c5, rfl, hk3⟩ := hx3
    have HB3 := Lib.hid (HB2.out.trans (hb3.mono HB2.out.size))
    have HK3 := Lib.hid hk3
    clear d0 d1 d2 hb3 hk3
    go_wp2_with fail
    refine (CW.out _ _ _ _ HK3.out).mono ?_
    rintro e w4 ⟨rfl, hb4⟩
    have HB4 := Lib.hid (HB3.out.trans (hb4.mono HB3.out.size))
    clear hb4
    go_wp2_with fail
    refine (awake_any _).mono ?_
    rintro e w5 ⟨rfl, hb5⟩
    go_wp2
    go_ret
    exact ⟨rfl, HB4.out.trans (hb5.mono HB4.out.size)⟩
  have g5 : decide ((500 : Int) < (s.size : Int)) = false := by simp; omega
  have c5' := fun w => Read_any s w
  rw [hback hw0 (by omega)] at c5'
  have C5 := Lib.hid c5'
  clear hback hsz hne hw0 hl c5'
  go_enter Tryd.func4, Tryd.ntmps4
  go_wp2_with fail
  refine c1.mono ?_
  rintro e w2 ⟨rfl, hb2⟩
  have HB2 := Lib.hid (HW1.out.trans (hb2.mono HW1.out.size))
  have HQ2 := Lib.hid ((hb2.block _ (lt_of_block HQ.out)).trans HQ.out)
  clear d0 d1 d2 hb2
  obtain ⟨⟨d0, d1, d2⟩, -⟩ := three_cells HQ2.out
  go_wp2_with fail
  refine (COF.out _ HB2.out).mono ?_
  rintro e w3 ⟨hb3, u3, rfl, hx3⟩
  rw [ExtAt_eq] at hx3
  obtain ⟨a5, c5, rfl, hk3⟩ := hx3
  have HB3 := Lib.hid (HB2.out.trans (hb3.mono HB2.out.size))
  have HQ3 := Lib.hid ((hb3.block _ (lt_of_block HQ2.out)).trans HQ2.out)
  have HK3 := Lib.hid hk3
  clear d0 d1 d2 hb3 hk3
  go_wp2_with fail
  refine (CW.out _ _ _ _ HK3.out).mono ?_
  rintro e w4 ⟨rfl, hb4⟩
  have HB4 := Lib.hid (HB3.out.trans (hb4.mono HB3.out.size))
  have HQ4 := Lib.hid ((hb4.block _ (lt_of_block HQ3.out)).trans HQ3.out)
  clear hb4
  go_wp2_with fail
  refine (C5.out _).mono ?_
  rintro e w5 ⟨hb5, v5, rfl, hx5⟩
  rw [ExtAt_eq] at hx5
  obtain ⟨a6, c6, rfl, hk5⟩ := hx5
  have hb6 := (Below.refl w5.heap.size w5).alloc (Nat.le_refl _) (.cells #[.string op, .string tag, .slice a6 k.length c6] 29)
  have hq6 := heap_alloc_new w5 (.cells #[.string op, .string tag, .slice a6 k.length c6] 29)
  have hq5 := (heap_alloc_old w5 (.cells #[.string op, .string tag, .slice a6 k.length c6] 29) (lt_of_block ((hb5.block _ (lt_of_block HQ4.out)).trans HQ4.out))).trans ((hb5.block _ (lt_of_block HQ4.out)).trans HQ4.out)
  obtain ⟨⟨x0, x1, x2⟩, -⟩ := three_cells hq6
  obtain ⟨⟨y0, y1, y2⟩, -⟩ := three_cells hq5
  have HB5 := Lib.hid (HB4.out.trans (hb5.mono HB4.out.size))
  have HB6 := Lib.hid (HB5.out.trans (hb6.mono HB5.out.size))
  have CSM := Lib.hid (same_any (.mk op tag k) (.agg #[.string op, .string tag, .slice a6 k.length c6]) (.agg #[.string op, .string tag, .slice b k.length c]) _ _ ok HBU.out (by rw [ExtAt_eq]; exact ⟨a6, c6, rfl, hk5.below hb6⟩) (by rw [ExtAt_eq]; exact ⟨b, c, rfl, HK.out.below HB6.out⟩))
  clear hb5 hk5 hb6 hq6 hq5
  go_wp2_with fail
  refine CSM.out.mono ?_
  rintro e w7 ⟨rfl, hb7⟩
  have HB7 := Lib.hid (HB6.out.trans (hb7.mono HB6.out.size))
  clear hb7
  go_wp2_with fail
  refine (awake_any _).mono ?_
  rintro e w8 ⟨rfl, hb8⟩
  go_wp2
  go_ret
  exact ⟨rfl, HB7.out.trans (hb8.mono HB7.out.size)⟩
end Go.Proofs.YtojdhlmmnhjolaaDoor
