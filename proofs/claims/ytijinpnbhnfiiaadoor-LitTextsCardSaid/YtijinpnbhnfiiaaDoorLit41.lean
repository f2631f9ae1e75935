/- The document's texts: Text's signs (made by tools/gen41t.py). -/
import Derived.Test.YtijinpnbhnfiiaaDoorLit40
import Derived.Test.YtijinpnbhnfiiaaDoorApp
import Derived.Test.YtijinpnbhnfiiaaDoorLit30
namespace Go.Proofs.YtijinpnbhnfiiaaDoor
open Go.RowKit
set_option linter.unusedVariables false

theorem signB_size (n : Nat) : (signB n).size ≤ 4 := by
  unfold signB
  repeat' split
  all_goals (show (Array.size _) ≤ 4; simp)
theorem oneB_facts (o : Option Nat) : (oneB o).1.size ≤ 4 ∧ (oneB o).2 ≤ 9 ∧ ((oneB o).2 ≠ 0 → 0 < (oneB o).1.size) := by
  unfold oneB
  cases o with
  | none => exact ⟨Nat.zero_le _, Nat.zero_le _, fun h => absurd rfl h⟩
  | some v =>
    dsimp only
    by_cases h : v < 256
    · rw [if_pos h]; exact ⟨(show 1 ≤ 4 by decide), (show 3 ≤ 9 by decide), fun _ => (show 0 < 1 by decide)⟩
    · rw [if_neg h]; exact ⟨Nat.zero_le _, Nat.zero_le _, fun h => absurd rfl h⟩
theorem uniB_facts (n : Nat) (hn : n ≤ 8) (o : Option Nat) : (uniB n o).1.size ≤ 4 ∧ (uniB n o).2 ≤ 9 ∧ ((uniB n o).2 ≠ 0 → 0 < (uniB n o).1.size) := by
  unfold uniB
  cases o with
  | none => exact ⟨Nat.zero_le _, Nat.zero_le _, fun h => absurd rfl h⟩
  | some v =>
    dsimp only
    by_cases h : (signB v).size = 0
    · rw [if_pos h]; exact ⟨Nat.zero_le _, Nat.zero_le _, fun h => absurd rfl h⟩
    · rw [if_neg h]; exact ⟨signB_size v, by omega, fun _ => Nat.pos_of_ne_zero h⟩
theorem partB_facts (s : ByteArray) (p : Nat) : (partB s p).1.size ≤ 4 ∧ (partB s p).2 ≤ 9 ∧ ((partB s p).2 ≠ 0 → 0 < (partB s p).1.size) := by
  unfold partB
  by_cases h : p = s.size
  · rw [if_pos h]; exact ⟨Nat.zero_le _, Nat.zero_le _, fun h => absurd rfl h⟩
  · rw [if_neg h]
    cases stkB (bt s p) with
    | some d => exact ⟨(show 1 ≤ 4 by decide), (show 1 ≤ 9 by decide), fun _ => (show 0 < 1 by decide)⟩
    | none =>
      dsimp only
      repeat' split
      · exact oneB_facts _
      · exact uniB_facts 4 (by omega) _
      · exact uniB_facts 8 (by omega) _
      · exact oneB_facts _
theorem bytL_app {w : World} {B : Nat} {v : Value} {l : List UInt8} {b : ByteArray} (h : w.ownsRow B 5 1 v (l.length + b.size) ((l.map fun b => Value.int .u8 b.toNat) ++ byteCells b)) : BytL w B v (l ++ b.data.toList) := by
  show w.ownsRow _ _ _ _ _ _
  rw [List.length_append, List.map_append, show b.data.toList.length = b.size by simp]
  exact h
theorem ofNat_bt (t : ByteArray) (k : Nat) (h : k < t.size) : UInt8.ofNat (bt t k) = t[k] := by
  rw [bt_eq t k h]
  simp

set_option maxHeartbeats 4000000 in
set_option maxRecDepth 1000000 in
theorem refText_good34 (s : ByteArray) (w : World) (hs : s.size ≤ 500) (n : Nat) (h : s.size = n + 1) (hn : 0 < n) (heq : bt s 0 = bt s n) (hq : bt s 0 = 34) (hw : wrongR s < 0) :
    Calls Tryd.prog 13 #[.string s] w fun e w' => TxtEnds w (refTxt s) e w' := by
  have HE : Hid (refTxt s = refTxtE (refTxtF 34 (s.extract 1 n) s.size 0 [])) := by
    show _ = _
    unfold refTxt
    rw [if_neg (by rw [show s.size - 1 = n from by omega]; omega), hq, show s.size - 1 = n from by omega]
  have gw : decide ((0 : Int) ≤ wrongR s) = false := decide_eq_false (by omega)
  have zt : (s.extract 1 n).size = n - 1 := by rw [ByteArray.size_extract]; omega
  have hp0 : 0 < s.size := by omega
  have gs34 : (((s[0].toNat : Nat) : Int) == 34) = true := by rw [← bt_eq s 0 hp0, hq]; rfl
  have gs96 : (((s[0].toNat : Nat) : Int) == 96) = false := by rw [← bt_eq s 0 hp0, hq]; rfl
  have HQ0 : Hid (((s[0].toNat : Nat) : Int) = 34) := by show _ = _; rw [← bt_eq s 0 hp0, hq]; rfl
  have h0 : 0 < s.size := by omega
  have hlt : n < s.size := by omega
  have e0 := bt_eq s 0 h0
  have e1 := bt_eq s n hlt
  have H1 : Hid (s.size = n + 1) := h
  have gz : decide ((65536 : Int) < (s.size : Int)) = false := decide_eq_false (by omega)
  have gq : (((s[0].toNat : Nat) : Int) != ((s[n].toNat : Nat) : Int)) = false := by rw [← e0, ← e1, heq]; simp
  have g34 : (((s[0].toNat : Nat) : Int) != 34) = false := by rw [← e0, hq]; rfl
  clear e0 e1 h heq
  obtain ⟨wc, cap, hcv, hcap, htx, hbc⟩ := conv_text w.drew s
  have hz : w.drew.heap.size = w.heap.size := rfl
  rw [hz] at hcv htx hbc
  have HBC := Lib.hid (((Below.refl w.heap.size w).drew).trans hbc)
  have HW := Lib.hid (refWrong_any s _ cap wc (by omega) htx)
  clear htx hbc hz hcap
  go_enter Tryd.func13, Tryd.ntmps13
  go_wp2_with fail
  refine wp_region_any (by kernel_rfl) ?_
  change wpAny _ _ _ _ _ _ _ (World.drew _)
  change wpAny _ _ _ _ _ #[false, false, false, false, false, false, false, false, false, false, false, false, false, false, false, false, false, false, false, false, false, false, false, false, false, false, false, false, false] ⟨#[.string s, undef, .string ⟨#[]⟩, .int .i64 0, undef, undef, undef, undef, undef, undef, .string s, .int .i64 s.size, .bool false, undef, undef, undef, undef, undef, undef, undef, undef, undef, undef, undef, undef, undef, undef, undef, undef, undef, undef, undef, undef, undef, undef, undef, undef, undef, undef, undef, undef, undef, undef, undef, undef, undef, undef, undef, undef, undef, undef, undef, undef, undef, undef, undef, undef, undef, undef, undef, undef, undef, undef, undef, undef, undef, undef, undef, undef, undef, undef, undef, undef, undef, undef, undef, undef, undef, undef, undef, undef, undef, undef, undef, undef, undef, undef, undef, undef, undef, undef, undef, undef, undef, undef, undef, undef, undef, undef, undef, undef, undef, undef, undef], []⟩ _
  refine wpAny_take (i := 0) (v := .string s) rfl (by kernel_rfl) (by kernel_rfl) (by kernel_rfl) (fun _ _ _ h => h) (Or.inl ⟨by rfl, ?_⟩) ?_
  · intro w
    go_simp
    try with_reducible rfl
  change wpAny _ _ _ _ _ #[true, false, false, false, false, false, false, false, false, false, false, false, false, false, false, false, false, false, false, false, false, false, false, false, false, false, false, false, false] ⟨#[.string s, undef, .string ⟨#[]⟩, .int .i64 0, undef, undef, undef, undef, undef, undef, .string s, .int .i64 s.size, .bool false, .string s, undef, undef, undef, undef, undef, undef, undef, undef, undef, undef, undef, undef, undef, undef, undef, undef, undef, undef, undef, undef, undef, undef, undef, undef, undef, undef, undef, undef, undef, undef, undef, undef, undef, undef, undef, undef, undef, undef, undef, undef, undef, undef, undef, undef, undef, undef, undef, undef, undef, undef, undef, undef, undef, undef, undef, undef, undef, undef, undef, undef, undef, undef, undef, undef, undef, undef, undef, undef, undef, undef, undef, undef, undef, undef, undef, undef, undef, undef, undef, undef, undef, undef, undef, undef, undef, undef, undef, undef, undef, undef], []⟩ _
  refine wpAny_take (i := 1) (v := .int .i64 s.size) rfl (by kernel_rfl) (by kernel_rfl) (by kernel_rfl) (fun _ _ _ h => h) (Or.inl ⟨by rfl, ?_⟩) ?_
  · intro w
    go_simp
    try with_reducible rfl
  change wpAny _ _ _ _ _ #[true, true, false, false, false, false, false, false, false, false, false, false, false, false, false, false, false, false, false, false, false, false, false, false, false, false, false, false, false] ⟨#[.string s, undef, .string ⟨#[]⟩, .int .i64 0, undef, undef, undef, undef, undef, undef, .string s, .int .i64 s.size, .bool false, .string s, .int .i64 s.size, undef, undef, undef, undef, undef, undef, undef, undef, undef, undef, undef, undef, undef, undef, undef, undef, undef, undef, undef, undef, undef, undef, undef, undef, undef, undef, undef, undef, undef, undef, undef, undef, undef, undef, undef, undef, undef, undef, undef, undef, undef, undef, undef, undef, undef, undef, undef, undef, undef, undef, undef, undef, undef, undef, undef, undef, undef, undef, undef, undef, undef, undef, undef, undef, undef, undef, undef, undef, undef, undef, undef, undef, undef, undef, undef, undef, undef, undef, undef, undef, undef, undef, undef, undef, undef, undef, undef, undef, undef], []⟩ _
  refine wpAny_take (i := 2) (v := .bool false) rfl (by kernel_rfl) (by kernel_rfl) (by kernel_rfl) (fun _ _ _ h => h) (Or.inl ⟨by rfl, ?_⟩) ?_
  · intro w
    go_simp
    have := H1.out; omega
  change wpAny _ _ _ _ _ #[true, true, true, false, false, false, false, false, false, false, false, false, false, false, false, false, false, false, false, false, false, false, false, false, false, false, false, false, false] ⟨#[.string s, undef, .string ⟨#[]⟩, .int .i64 0, undef, undef, undef, undef, undef, undef, .string s, .int .i64 s.size, .bool false, .string s, .int .i64 s.size, .bool false, undef, undef, undef, undef, undef, undef, undef, undef, undef, undef, undef, undef, undef, undef, undef, undef, undef, undef, undef, undef, undef, undef, undef, undef, undef, undef, undef, undef, undef, undef, undef, undef, undef, undef, undef, undef, undef, undef, undef, undef, undef, undef, undef, undef, undef, undef, undef, undef, undef, undef, undef, undef, undef, undef, undef, undef, undef, undef, undef, undef, undef, undef, undef, undef, undef, undef, undef, undef, undef, undef, undef, undef, undef, undef, undef, undef, undef, undef, undef, undef, undef, undef, undef, undef, undef, undef, undef, undef], []⟩ _
  refine wpAny_take (i := 3) (v := .bool false) rfl (by kernel_rfl) (by kernel_rfl) (by kernel_rfl) (fun _ _ _ h => h) (Or.inl ⟨by rfl, ?_⟩) ?_
  · intro w
    go_simp
    try with_reducible rfl
  change wpAny _ _ _ _ _ #[true, true, true, true, false, false, false, false, false, false, false, false, false, false, false, false, false, false, false, false, false, false, false, false, false, false, false, false, false] ⟨#[.string s, undef, .string ⟨#[]⟩, .int .i64 0, undef, undef, undef, undef, undef, undef, .string s, .int .i64 s.size, .bool false, .string s, .int .i64 s.size, .bool false, .bool false, undef, undef, undef, undef, undef, undef, undef, undef, undef, undef, undef, undef, undef, undef, undef, undef, undef, undef, undef, undef, undef, undef, undef, undef, undef, undef, undef, undef, undef, undef, undef, undef, undef, undef, undef, undef, undef, undef, undef, undef, undef, undef, undef, undef, undef, undef, undef, undef, undef, undef, undef, undef, undef, undef, undef, undef, undef, undef, undef, undef, undef, undef, undef, undef, undef, undef, undef, undef, undef, undef, undef, undef, undef, undef, undef, undef, undef, undef, undef, undef, undef, undef, undef, undef, undef, undef, undef], []⟩ _
  refine wpAny_take (i := 4) (v := .string s) rfl (by kernel_rfl) (by kernel_rfl) (by kernel_rfl) (fun _ _ _ h => h) (Or.inl ⟨by rfl, ?_⟩) ?_
  · intro w
    go_simp
    try with_reducible rfl
  change wpAny _ _ _ _ _ #[true, true, true, true, true, false, false, false, false, false, false, false, false, false, false, false, false, false, false, false, false, false, false, false, false, false, false, false, false] ⟨#[.string s, undef, .string ⟨#[]⟩, .int .i64 0, undef, undef, undef, undef, undef, undef, .string s, .int .i64 s.size, .bool false, .string s, .int .i64 s.size, .bool false, .bool false, .string s, undef, undef, undef, undef, undef, undef, undef, undef, undef, undef, undef, undef, undef, undef, undef, undef, undef, undef, undef, undef, undef, undef, undef, undef, undef, undef, undef, undef, undef, undef, undef, undef, undef, undef, undef, undef, undef, undef, undef, undef, undef, undef, undef, undef, undef, undef, undef, undef, undef, undef, undef, undef, undef, undef, undef, undef, undef, undef, undef, undef, undef, undef, undef, undef, undef, undef, undef, undef, undef, undef, undef, undef, undef, undef, undef, undef, undef, undef, undef, undef, undef, undef, undef, undef, undef, undef], []⟩ _
  refine wpAny_take (i := 5) (v := .int .u8 ((s[0].toNat : Nat) : Int)) rfl (by kernel_rfl) (by kernel_rfl) (by kernel_rfl) (fun _ _ _ h => h) (Or.inl ⟨by rfl, ?_⟩) ?_
  · intro w
    go_simp
    try with_reducible rfl
  change wpAny _ _ _ _ _ #[true, true, true, true, true, true, false, false, false, false, false, false, false, false, false, false, false, false, false, false, false, false, false, false, false, false, false, false, false] ⟨#[.string s, undef, .string ⟨#[]⟩, .int .i64 0, undef, undef, undef, undef, undef, undef, .string s, .int .i64 s.size, .bool false, .string s, .int .i64 s.size, .bool false, .bool false, .string s, .int .u8 ((s[0].toNat : Nat) : Int), undef, undef, undef, undef, undef, undef, undef, undef, undef, undef, undef, undef, undef, undef, undef, undef, undef, undef, undef, undef, undef, undef, undef, undef, undef, undef, undef, undef, undef, undef, undef, undef, undef, undef, undef, undef, undef, undef, undef, undef, undef, undef, undef, undef, undef, undef, undef, undef, undef, undef, undef, undef, undef, undef, undef, undef, undef, undef, undef, undef, undef, undef, undef, undef, undef, undef, undef, undef, undef, undef, undef, undef, undef, undef, undef, undef, undef, undef, undef, undef, undef, undef, undef, undef, undef], []⟩ _
  refine wpAny_take (i := 6) (v := .string s) rfl (by kernel_rfl) (by kernel_rfl) (by kernel_rfl) (fun _ _ _ h => h) (Or.inl ⟨by rfl, ?_⟩) ?_
  · intro w
    go_simp
    try with_reducible rfl
  change wpAny _ _ _ _ _ #[true, true, true, true, true, true, true, false, false, false, false, false, false, false, false, false, false, false, false, false, false, false, false, false, false, false, false, false, false] ⟨#[.string s, undef, .string ⟨#[]⟩, .int .i64 0, undef, undef, undef, undef, undef, undef, .string s, .int .i64 s.size, .bool false, .string s, .int .i64 s.size, .bool false, .bool false, .string s, .int .u8 ((s[0].toNat : Nat) : Int), .string s, undef, undef, undef, undef, undef, undef, undef, undef, undef, undef, undef, undef, undef, undef, undef, undef, undef, undef, undef, undef, undef, undef, undef, undef, undef, undef, undef, undef, undef, undef, undef, undef, undef, undef, undef, undef, undef, undef, undef, undef, undef, undef, undef, undef, undef, undef, undef, undef, undef, undef, undef, undef, undef, undef, undef, undef, undef, undef, undef, undef, undef, undef, undef, undef, undef, undef, undef, undef, undef, undef, undef, undef, undef, undef, undef, undef, undef, undef, undef, undef, undef, undef, undef, undef], []⟩ _
  refine wpAny_take (i := 7) (v := .string s) rfl (by kernel_rfl) (by kernel_rfl) (by kernel_rfl) (fun _ _ _ h => h) (Or.inl ⟨by rfl, ?_⟩) ?_
  · intro w
    go_simp
    try with_reducible rfl
  change wpAny _ _ _ _ _ #[true, true, true, true, true, true, true, true, false, false, false, false, false, false, false, false, false, false, false, false, false, false, false, false, false, false, false, false, false] ⟨#[.string s, undef, .string ⟨#[]⟩, .int .i64 0, undef, undef, undef, undef, undef, undef, .string s, .int .i64 s.size, .bool false, .string s, .int .i64 s.size, .bool false, .bool false, .string s, .int .u8 ((s[0].toNat : Nat) : Int), .string s, .string s, undef, undef, undef, undef, undef, undef, undef, undef, undef, undef, undef, undef, undef, undef, undef, undef, undef, undef, undef, undef, undef, undef, undef, undef, undef, undef, undef, undef, undef, undef, undef, undef, undef, undef, undef, undef, undef, undef, undef, undef, undef, undef, undef, undef, undef, undef, undef, undef, undef, undef, undef, undef, undef, undef, undef, undef, undef, undef, undef, undef, undef, undef, undef, undef, undef, undef, undef, undef, undef, undef, undef, undef, undef, undef, undef, undef, undef, undef, undef, undef, undef, undef, undef], []⟩ _
  refine wpAny_take (i := 8) (v := .int .i64 s.size) rfl (by kernel_rfl) (by kernel_rfl) (by kernel_rfl) (fun _ _ _ h => h) (Or.inl ⟨by rfl, ?_⟩) ?_
  · intro w
    go_simp
    try with_reducible rfl
  change wpAny _ _ _ _ _ #[true, true, true, true, true, true, true, true, true, false, false, false, false, false, false, false, false, false, false, false, false, false, false, false, false, false, false, false, false] ⟨#[.string s, undef, .string ⟨#[]⟩, .int .i64 0, undef, undef, undef, undef, undef, undef, .string s, .int .i64 s.size, .bool false, .string s, .int .i64 s.size, .bool false, .bool false, .string s, .int .u8 ((s[0].toNat : Nat) : Int), .string s, .string s, .int .i64 s.size, undef, undef, undef, undef, undef, undef, undef, undef, undef, undef, undef, undef, undef, undef, undef, undef, undef, undef, undef, undef, undef, undef, undef, undef, undef, undef, undef, undef, undef, undef, undef, undef, undef, undef, undef, undef, undef, undef, undef, undef, undef, undef, undef, undef, undef, undef, undef, undef, undef, undef, undef, undef, undef, undef, undef, undef, undef, undef, undef, undef, undef, undef, undef, undef, undef, undef, undef, undef, undef, undef, undef, undef, undef, undef, undef, undef, undef, undef, undef, undef, undef, undef], []⟩ _
  refine wpAny_take (i := 9) (v := .int .i64 (n : Int)) rfl (by kernel_rfl) (by kernel_rfl) (by kernel_rfl) (fun _ _ _ h => h) (Or.inl ⟨by rfl, ?_⟩) ?_
  · intro w
    go_simp
    have e := H1.out; rw [show (s.size : Int) - 1 = (n : Int) by omega]; exact IntWalk.i64_in _ (by omega)
  change wpAny _ _ _ _ _ #[true, true, true, true, true, true, true, true, true, true, false, false, false, false, false, false, false, false, false, false, false, false, false, false, false, false, false, false, false] ⟨#[.string s, undef, .string ⟨#[]⟩, .int .i64 0, undef, undef, undef, undef, undef, undef, .string s, .int .i64 s.size, .bool false, .string s, .int .i64 s.size, .bool false, .bool false, .string s, .int .u8 ((s[0].toNat : Nat) : Int), .string s, .string s, .int .i64 s.size, .int .i64 (n : Int), undef, undef, undef, undef, undef, undef, undef, undef, undef, undef, undef, undef, undef, undef, undef, undef, undef, undef, undef, undef, undef, undef, undef, undef, undef, undef, undef, undef, undef, undef, undef, undef, undef, undef, undef, undef, undef, undef, undef, undef, undef, undef, undef, undef, undef, undef, undef, undef, undef, undef, undef, undef, undef, undef, undef, undef, undef, undef, undef, undef, undef, undef, undef, undef, undef, undef, undef, undef, undef, undef, undef, undef, undef, undef, undef, undef, undef, undef, undef, undef, undef], []⟩ _
  refine wpAny_take (i := 10) (v := .int .u8 ((s[n].toNat : Nat) : Int)) rfl (by kernel_rfl) (by kernel_rfl) (by kernel_rfl) (fun _ _ _ h => h) (Or.inl ⟨by rfl, ?_⟩) ?_
  · intro w
    go_simp
    try with_reducible rfl
  change wpAny _ _ _ _ _ #[true, true, true, true, true, true, true, true, true, true, true, false, false, false, false, false, false, false, false, false, false, false, false, false, false, false, false, false, false] ⟨#[.string s, undef, .string ⟨#[]⟩, .int .i64 0, undef, undef, undef, undef, undef, undef, .string s, .int .i64 s.size, .bool false, .string s, .int .i64 s.size, .bool false, .bool false, .string s, .int .u8 ((s[0].toNat : Nat) : Int), .string s, .string s, .int .i64 s.size, .int .i64 (n : Int), .int .u8 ((s[n].toNat : Nat) : Int), undef, undef, undef, undef, undef, undef, undef, undef, undef, undef, undef, undef, undef, undef, undef, undef, undef, undef, undef, undef, undef, undef, undef, undef, undef, undef, undef, undef, undef, undef, undef, undef, undef, undef, undef, undef, undef, undef, undef, undef, undef, undef, undef, undef, undef, undef, undef, undef, undef, undef, undef, undef, undef, undef, undef, undef, undef, undef, undef, undef, undef, undef, undef, undef, undef, undef, undef, undef, undef, undef, undef, undef, undef, undef, undef, undef, undef, undef, undef, undef], []⟩ _
  refine wpAny_take (i := 11) (v := .bool false) rfl (by kernel_rfl) (by kernel_rfl) (by kernel_rfl) (fun _ _ _ h => h) (Or.inl ⟨by rfl, ?_⟩) ?_
  · intro w
    go_simp
    try with_reducible rfl
  change wpAny _ _ _ _ _ #[true, true, true, true, true, true, true, true, true, true, true, true, false, false, false, false, false, false, false, false, false, false, false, false, false, false, false, false, false] ⟨#[.string s, undef, .string ⟨#[]⟩, .int .i64 0, undef, undef, undef, undef, undef, undef, .string s, .int .i64 s.size, .bool false, .string s, .int .i64 s.size, .bool false, .bool false, .string s, .int .u8 ((s[0].toNat : Nat) : Int), .string s, .string s, .int .i64 s.size, .int .i64 (n : Int), .int .u8 ((s[n].toNat : Nat) : Int), .bool false, undef, undef, undef, undef, undef, undef, undef, undef, undef, undef, undef, undef, undef, undef, undef, undef, undef, undef, undef, undef, undef, undef, undef, undef, undef, undef, undef, undef, undef, undef, undef, undef, undef, undef, undef, undef, undef, undef, undef, undef, undef, undef, undef, undef, undef, undef, undef, undef, undef, undef, undef, undef, undef, undef, undef, undef, undef, undef, undef, undef, undef, undef, undef, undef, undef, undef, undef, undef, undef, undef, undef, undef, undef, undef, undef, undef, undef, undef, undef], []⟩ _
  refine wpAny_take (i := 12) (v := .bool false) rfl (by kernel_rfl) (by kernel_rfl) (by kernel_rfl) (fun _ _ _ h => h) (Or.inl ⟨by rfl, ?_⟩) ?_
  · intro w
    go_simp
    try with_reducible rfl
  change wpAny _ _ _ _ _ #[true, true, true, true, true, true, true, true, true, true, true, true, true, false, false, false, false, false, false, false, false, false, false, false, false, false, false, false, false] ⟨#[.string s, undef, .string ⟨#[]⟩, .int .i64 0, undef, undef, undef, undef, undef, undef, .string s, .int .i64 s.size, .bool false, .string s, .int .i64 s.size, .bool false, .bool false, .string s, .int .u8 ((s[0].toNat : Nat) : Int), .string s, .string s, .int .i64 s.size, .int .i64 (n : Int), .int .u8 ((s[n].toNat : Nat) : Int), .bool false, .bool false, undef, undef, undef, undef, undef, undef, undef, undef, undef, undef, undef, undef, undef, undef, undef, undef, undef, undef, undef, undef, undef, undef, undef, undef, undef, undef, undef, undef, undef, undef, undef, undef, undef, undef, undef, undef, undef, undef, undef, undef, undef, undef, undef, undef, undef, undef, undef, undef, undef, undef, undef, undef, undef, undef, undef, undef, undef, undef, undef, undef, undef, undef, undef, undef, undef, undef, undef, undef, undef, undef, undef, undef, undef, undef, undef, undef, undef, undef], []⟩ _
  refine wpAny_take (i := 13) (v := .bool false) rfl (by kernel_rfl) (by kernel_rfl) (by kernel_rfl) (fun _ _ _ h => h) (Or.inl ⟨by rfl, ?_⟩) ?_
  · intro w
    go_simp
    try with_reducible rfl
  change wpAny _ _ _ _ _ #[true, true, true, true, true, true, true, true, true, true, true, true, true, true, false, false, false, false, false, false, false, false, false, false, false, false, false, false, false] ⟨#[.string s, undef, .string ⟨#[]⟩, .int .i64 0, undef, undef, undef, undef, undef, undef, .string s, .int .i64 s.size, .bool false, .string s, .int .i64 s.size, .bool false, .bool false, .string s, .int .u8 ((s[0].toNat : Nat) : Int), .string s, .string s, .int .i64 s.size, .int .i64 (n : Int), .int .u8 ((s[n].toNat : Nat) : Int), .bool false, .bool false, .bool false, undef, undef, undef, undef, undef, undef, undef, undef, undef, undef, undef, undef, undef, undef, undef, undef, undef, undef, undef, undef, undef, undef, undef, undef, undef, undef, undef, undef, undef, undef, undef, undef, undef, undef, undef, undef, undef, undef, undef, undef, undef, undef, undef, undef, undef, undef, undef, undef, undef, undef, undef, undef, undef, undef, undef, undef, undef, undef, undef, undef, undef, undef, undef, undef, undef, undef, undef, undef, undef, undef, undef, undef, undef, undef, undef, undef, undef], []⟩ _
  refine wpAny_take (i := 14) (v := .string s) rfl (by kernel_rfl) (by kernel_rfl) (by kernel_rfl) (fun _ _ _ h => h) (Or.inl ⟨by rfl, ?_⟩) ?_
  · intro w
    go_simp
    try with_reducible rfl
  change wpAny _ _ _ _ _ #[true, true, true, true, true, true, true, true, true, true, true, true, true, true, true, false, false, false, false, false, false, false, false, false, false, false, false, false, false] ⟨#[.string s, undef, .string ⟨#[]⟩, .int .i64 0, undef, undef, undef, undef, undef, undef, .string s, .int .i64 s.size, .bool false, .string s, .int .i64 s.size, .bool false, .bool false, .string s, .int .u8 ((s[0].toNat : Nat) : Int), .string s, .string s, .int .i64 s.size, .int .i64 (n : Int), .int .u8 ((s[n].toNat : Nat) : Int), .bool false, .bool false, .bool false, .string s, undef, undef, undef, undef, undef, undef, undef, undef, undef, undef, undef, undef, undef, undef, undef, undef, undef, undef, undef, undef, undef, undef, undef, undef, undef, undef, undef, undef, undef, undef, undef, undef, undef, undef, undef, undef, undef, undef, undef, undef, undef, undef, undef, undef, undef, undef, undef, undef, undef, undef, undef, undef, undef, undef, undef, undef, undef, undef, undef, undef, undef, undef, undef, undef, undef, undef, undef, undef, undef, undef, undef, undef, undef, undef, undef, undef], []⟩ _
  refine wpAny_take (i := 15) (v := .int .u8 ((s[0].toNat : Nat) : Int)) rfl (by kernel_rfl) (by kernel_rfl) (by kernel_rfl) (fun _ _ _ h => h) (Or.inl ⟨by rfl, ?_⟩) ?_
  · intro w
    go_simp
    try with_reducible rfl
  change wpAny _ _ _ _ _ #[true, true, true, true, true, true, true, true, true, true, true, true, true, true, true, true, false, false, false, false, false, false, false, false, false, false, false, false, false] ⟨#[.string s, undef, .string ⟨#[]⟩, .int .i64 0, undef, undef, undef, undef, undef, undef, .string s, .int .i64 s.size, .bool false, .string s, .int .i64 s.size, .bool false, .bool false, .string s, .int .u8 ((s[0].toNat : Nat) : Int), .string s, .string s, .int .i64 s.size, .int .i64 (n : Int), .int .u8 ((s[n].toNat : Nat) : Int), .bool false, .bool false, .bool false, .string s, .int .u8 ((s[0].toNat : Nat) : Int), undef, undef, undef, undef, undef, undef, undef, undef, undef, undef, undef, undef, undef, undef, undef, undef, undef, undef, undef, undef, undef, undef, undef, undef, undef, undef, undef, undef, undef, undef, undef, undef, undef, undef, undef, undef, undef, undef, undef, undef, undef, undef, undef, undef, undef, undef, undef, undef, undef, undef, undef, undef, undef, undef, undef, undef, undef, undef, undef, undef, undef, undef, undef, undef, undef, undef, undef, undef, undef, undef, undef, undef, undef, undef, undef], []⟩ _
  refine wpAny_take (i := 16) (v := .bool false) rfl (by kernel_rfl) (by kernel_rfl) (by kernel_rfl) (fun _ _ _ h => h) (Or.inl ⟨by rfl, ?_⟩) ?_
  · intro w
    go_simp
    try with_reducible rfl
  change wpAny _ _ _ _ _ #[true, true, true, true, true, true, true, true, true, true, true, true, true, true, true, true, true, false, false, false, false, false, false, false, false, false, false, false, false] ⟨#[.string s, undef, .string ⟨#[]⟩, .int .i64 0, undef, undef, undef, undef, undef, undef, .string s, .int .i64 s.size, .bool false, .string s, .int .i64 s.size, .bool false, .bool false, .string s, .int .u8 ((s[0].toNat : Nat) : Int), .string s, .string s, .int .i64 s.size, .int .i64 (n : Int), .int .u8 ((s[n].toNat : Nat) : Int), .bool false, .bool false, .bool false, .string s, .int .u8 ((s[0].toNat : Nat) : Int), .bool false, undef, undef, undef, undef, undef, undef, undef, undef, undef, undef, undef, undef, undef, undef, undef, undef, undef, undef, undef, undef, undef, undef, undef, undef, undef, undef, undef, undef, undef, undef, undef, undef, undef, undef, undef, undef, undef, undef, undef, undef, undef, undef, undef, undef, undef, undef, undef, undef, undef, undef, undef, undef, undef, undef, undef, undef, undef, undef, undef, undef, undef, undef, undef, undef, undef, undef, undef, undef, undef, undef, undef, undef, undef, undef], []⟩ _
  refine wpAny_take (i := 17) (v := .bool false) rfl (by kernel_rfl) (by kernel_rfl) (by kernel_rfl) (fun _ _ _ h => h) (Or.inl ⟨by rfl, ?_⟩) ?_
  · intro w
    go_simp
    try with_reducible rfl
  change wpAny _ _ _ _ _ #[true, true, true, true, true, true, true, true, true, true, true, true, true, true, true, true, true, true, false, false, false, false, false, false, false, false, false, false, false] ⟨#[.string s, undef, .string ⟨#[]⟩, .int .i64 0, undef, undef, undef, undef, undef, undef, .string s, .int .i64 s.size, .bool false, .string s, .int .i64 s.size, .bool false, .bool false, .string s, .int .u8 ((s[0].toNat : Nat) : Int), .string s, .string s, .int .i64 s.size, .int .i64 (n : Int), .int .u8 ((s[n].toNat : Nat) : Int), .bool false, .bool false, .bool false, .string s, .int .u8 ((s[0].toNat : Nat) : Int), .bool false, .bool false, undef, undef, undef, undef, undef, undef, undef, undef, undef, undef, undef, undef, undef, undef, undef, undef, undef, undef, undef, undef, undef, undef, undef, undef, undef, undef, undef, undef, undef, undef, undef, undef, undef, undef, undef, undef, undef, undef, undef, undef, undef, undef, undef, undef, undef, undef, undef, undef, undef, undef, undef, undef, undef, undef, undef, undef, undef, undef, undef, undef, undef, undef, undef, undef, undef, undef, undef, undef, undef, undef, undef, undef, undef], []⟩ _
  refine wpAny_take (i := 18) (v := undef) rfl (by kernel_rfl) (by kernel_rfl) (by kernel_rfl) (fun _ _ _ h => h) (Or.inr ⟨by rfl, rfl⟩) ?_
  change wpAny _ _ _ _ _ #[true, true, true, true, true, true, true, true, true, true, true, true, true, true, true, true, true, true, true, false, false, false, false, false, false, false, false, false, false] ⟨#[.string s, undef, .string ⟨#[]⟩, .int .i64 0, undef, undef, undef, undef, undef, undef, .string s, .int .i64 s.size, .bool false, .string s, .int .i64 s.size, .bool false, .bool false, .string s, .int .u8 ((s[0].toNat : Nat) : Int), .string s, .string s, .int .i64 s.size, .int .i64 (n : Int), .int .u8 ((s[n].toNat : Nat) : Int), .bool false, .bool false, .bool false, .string s, .int .u8 ((s[0].toNat : Nat) : Int), .bool false, .bool false, undef, undef, undef, undef, undef, undef, undef, undef, undef, undef, undef, undef, undef, undef, undef, undef, undef, undef, undef, undef, undef, undef, undef, undef, undef, undef, undef, undef, undef, undef, undef, undef, undef, undef, undef, undef, undef, undef, undef, undef, undef, undef, undef, undef, undef, undef, undef, undef, undef, undef, undef, undef, undef, undef, undef, undef, undef, undef, undef, undef, undef, undef, undef, undef, undef, undef, undef, undef, undef, undef, undef, undef, undef], []⟩ _
  refine wpAny_take (i := 19) (v := undef) rfl (by kernel_rfl) (by kernel_rfl) (by kernel_rfl) (fun _ _ _ h => h) (Or.inr ⟨by rfl, rfl⟩) ?_
  change wpAny _ _ _ _ _ #[true, true, true, true, true, true, true, true, true, true, true, true, true, true, true, true, true, true, true, true, false, false, false, false, false, false, false, false, false] ⟨#[.string s, undef, .string ⟨#[]⟩, .int .i64 0, undef, undef, undef, undef, undef, undef, .string s, .int .i64 s.size, .bool false, .string s, .int .i64 s.size, .bool false, .bool false, .string s, .int .u8 ((s[0].toNat : Nat) : Int), .string s, .string s, .int .i64 s.size, .int .i64 (n : Int), .int .u8 ((s[n].toNat : Nat) : Int), .bool false, .bool false, .bool false, .string s, .int .u8 ((s[0].toNat : Nat) : Int), .bool false, .bool false, undef, undef, undef, undef, undef, undef, undef, undef, undef, undef, undef, undef, undef, undef, undef, undef, undef, undef, undef, undef, undef, undef, undef, undef, undef, undef, undef, undef, undef, undef, undef, undef, undef, undef, undef, undef, undef, undef, undef, undef, undef, undef, undef, undef, undef, undef, undef, undef, undef, undef, undef, undef, undef, undef, undef, undef, undef, undef, undef, undef, undef, undef, undef, undef, undef, undef, undef, undef, undef, undef, undef, undef, undef], []⟩ _
  refine wpAny_take (i := 20) (v := undef) rfl (by kernel_rfl) (by kernel_rfl) (by kernel_rfl) (fun _ _ _ h => h) (Or.inr ⟨by rfl, rfl⟩) ?_
  change wpAny _ _ _ _ _ #[true, true, true, true, true, true, true, true, true, true, true, true, true, true, true, true, true, true, true, true, true, false, false, false, false, false, false, false, false] ⟨#[.string s, undef, .string ⟨#[]⟩, .int .i64 0, undef, undef, undef, undef, undef, undef, .string s, .int .i64 s.size, .bool false, .string s, .int .i64 s.size, .bool false, .bool false, .string s, .int .u8 ((s[0].toNat : Nat) : Int), .string s, .string s, .int .i64 s.size, .int .i64 (n : Int), .int .u8 ((s[n].toNat : Nat) : Int), .bool false, .bool false, .bool false, .string s, .int .u8 ((s[0].toNat : Nat) : Int), .bool false, .bool false, undef, undef, undef, undef, undef, undef, undef, undef, undef, undef, undef, undef, undef, undef, undef, undef, undef, undef, undef, undef, undef, undef, undef, undef, undef, undef, undef, undef, undef, undef, undef, undef, undef, undef, undef, undef, undef, undef, undef, undef, undef, undef, undef, undef, undef, undef, undef, undef, undef, undef, undef, undef, undef, undef, undef, undef, undef, undef, undef, undef, undef, undef, undef, undef, undef, undef, undef, undef, undef, undef, undef, undef, undef], []⟩ _
  refine wpAny_take (i := 21) (v := .bool false) rfl (by kernel_rfl) (by kernel_rfl) (by kernel_rfl) (fun _ _ _ h => h) (Or.inl ⟨by rfl, ?_⟩) ?_
  · intro w
    go_simp
    try with_reducible rfl
  change wpAny _ _ _ _ _ #[true, true, true, true, true, true, true, true, true, true, true, true, true, true, true, true, true, true, true, true, true, true, false, false, false, false, false, false, false] ⟨#[.string s, undef, .string ⟨#[]⟩, .int .i64 0, undef, undef, undef, undef, undef, undef, .string s, .int .i64 s.size, .bool false, .string s, .int .i64 s.size, .bool false, .bool false, .string s, .int .u8 ((s[0].toNat : Nat) : Int), .string s, .string s, .int .i64 s.size, .int .i64 (n : Int), .int .u8 ((s[n].toNat : Nat) : Int), .bool false, .bool false, .bool false, .string s, .int .u8 ((s[0].toNat : Nat) : Int), .bool false, .bool false, undef, undef, undef, .bool false, undef, undef, undef, undef, undef, undef, undef, undef, undef, undef, undef, undef, undef, undef, undef, undef, undef, undef, undef, undef, undef, undef, undef, undef, undef, undef, undef, undef, undef, undef, undef, undef, undef, undef, undef, undef, undef, undef, undef, undef, undef, undef, undef, undef, undef, undef, undef, undef, undef, undef, undef, undef, undef, undef, undef, undef, undef, undef, undef, undef, undef, undef, undef, undef, undef, undef, undef, undef, undef], []⟩ _
  refine wpAny_take (i := 22) (v := .bool false) rfl (by kernel_rfl) (by kernel_rfl) (by kernel_rfl) (fun _ _ _ h => h) (Or.inl ⟨by rfl, ?_⟩) ?_
  · intro w
    go_simp
    try with_reducible rfl
  change wpAny _ _ _ _ _ #[true, true, true, true, true, true, true, true, true, true, true, true, true, true, true, true, true, true, true, true, true, true, true, false, false, false, false, false, false] ⟨#[.string s, undef, .string ⟨#[]⟩, .int .i64 0, undef, undef, undef, undef, undef, undef, .string s, .int .i64 s.size, .bool false, .string s, .int .i64 s.size, .bool false, .bool false, .string s, .int .u8 ((s[0].toNat : Nat) : Int), .string s, .string s, .int .i64 s.size, .int .i64 (n : Int), .int .u8 ((s[n].toNat : Nat) : Int), .bool false, .bool false, .bool false, .string s, .int .u8 ((s[0].toNat : Nat) : Int), .bool false, .bool false, undef, undef, undef, .bool false, .bool false, undef, undef, undef, undef, undef, undef, undef, undef, undef, undef, undef, undef, undef, undef, undef, undef, undef, undef, undef, undef, undef, undef, undef, undef, undef, undef, undef, undef, undef, undef, undef, undef, undef, undef, undef, undef, undef, undef, undef, undef, undef, undef, undef, undef, undef, undef, undef, undef, undef, undef, undef, undef, undef, undef, undef, undef, undef, undef, undef, undef, undef, undef, undef, undef, undef, undef, undef, undef], []⟩ _
  refine wpAny_take (i := 23) (v := .bool false) rfl (by kernel_rfl) (by kernel_rfl) (by kernel_rfl) (fun _ _ _ h => h) (Or.inl ⟨by rfl, ?_⟩) ?_
  · intro w
    go_simp
    try with_reducible rfl
  change wpAny _ _ _ _ _ #[true, true, true, true, true, true, true, true, true, true, true, true, true, true, true, true, true, true, true, true, true, true, true, true, false, false, false, false, false] ⟨#[.string s, undef, .string ⟨#[]⟩, .int .i64 0, undef, undef, undef, undef, undef, undef, .string s, .int .i64 s.size, .bool false, .string s, .int .i64 s.size, .bool false, .bool false, .string s, .int .u8 ((s[0].toNat : Nat) : Int), .string s, .string s, .int .i64 s.size, .int .i64 (n : Int), .int .u8 ((s[n].toNat : Nat) : Int), .bool false, .bool false, .bool false, .string s, .int .u8 ((s[0].toNat : Nat) : Int), .bool false, .bool false, undef, undef, undef, .bool false, .bool false, .bool false, undef, undef, undef, undef, undef, undef, undef, undef, undef, undef, undef, undef, undef, undef, undef, undef, undef, undef, undef, undef, undef, undef, undef, undef, undef, undef, undef, undef, undef, undef, undef, undef, undef, undef, undef, undef, undef, undef, undef, undef, undef, undef, undef, undef, undef, undef, undef, undef, undef, undef, undef, undef, undef, undef, undef, undef, undef, undef, undef, undef, undef, undef, undef, undef, undef, undef, undef], []⟩ _
  refine wpAny_take (i := 24) (v := .string s) rfl (by kernel_rfl) (by kernel_rfl) (by kernel_rfl) (fun _ _ _ h => h) (Or.inl ⟨by rfl, ?_⟩) ?_
  · intro w
    go_simp
    try with_reducible rfl
  change wpAny _ _ _ _ _ #[true, true, true, true, true, true, true, true, true, true, true, true, true, true, true, true, true, true, true, true, true, true, true, true, true, false, false, false, false] ⟨#[.string s, undef, .string ⟨#[]⟩, .int .i64 0, undef, undef, undef, undef, undef, undef, .string s, .int .i64 s.size, .bool false, .string s, .int .i64 s.size, .bool false, .bool false, .string s, .int .u8 ((s[0].toNat : Nat) : Int), .string s, .string s, .int .i64 s.size, .int .i64 (n : Int), .int .u8 ((s[n].toNat : Nat) : Int), .bool false, .bool false, .bool false, .string s, .int .u8 ((s[0].toNat : Nat) : Int), .bool false, .bool false, undef, undef, undef, .bool false, .bool false, .bool false, .string s, undef, undef, undef, undef, undef, undef, undef, undef, undef, undef, undef, undef, undef, undef, undef, undef, undef, undef, undef, undef, undef, undef, undef, undef, undef, undef, undef, undef, undef, undef, undef, undef, undef, undef, undef, undef, undef, undef, undef, undef, undef, undef, undef, undef, undef, undef, undef, undef, undef, undef, undef, undef, undef, undef, undef, undef, undef, undef, undef, undef, undef, undef, undef, undef, undef, undef], []⟩ _
  refine wpAny_ready (rs := [25]) (by kernel_rfl) (by simp) ?_
  refine AllReady.cons rfl (fun K hK => ?_) AllReady.nil
  go_simp
  refine hK _ _ ?_
  clear hK K
  change wpAny _ _ _ _ _ #[true, true, true, true, true, true, true, true, true, true, true, true, true, true, true, true, true, true, true, true, true, true, true, true, true, true, false, false, false] ⟨#[.string s, undef, .string ⟨#[]⟩, .int .i64 0, undef, undef, undef, undef, undef, undef, .string s, .int .i64 s.size, .bool false, .string s, .int .i64 s.size, .bool false, .bool false, .string s, .int .u8 ((s[0].toNat : Nat) : Int), .string s, .string s, .int .i64 s.size, .int .i64 (n : Int), .int .u8 ((s[n].toNat : Nat) : Int), .bool false, .bool false, .bool false, .string s, .int .u8 ((s[0].toNat : Nat) : Int), .bool false, .bool false, undef, undef, undef, .bool false, .bool false, .bool false, .string s, .slice (some ⟨w.heap.size, 0, none⟩) s.size cap, undef, undef, undef, undef, undef, undef, undef, undef, undef, undef, undef, undef, undef, undef, undef, undef, undef, undef, undef, undef, undef, undef, undef, undef, undef, undef, undef, undef, undef, undef, undef, undef, undef, undef, undef, undef, undef, undef, undef, undef, undef, undef, undef, undef, undef, undef, undef, undef, undef, undef, undef, undef, undef, undef, undef, undef, undef, undef, undef, undef, undef, undef, undef, undef, undef], []⟩ _
  refine wpAny_ready (rs := [26]) (by kernel_rfl) (by simp) ?_
  refine AllReady.cons rfl (fun K hK => ?_) AllReady.nil
  go_simp
  go_at_call 22
  refine HW.out.mono ?_
  rintro e w2 ⟨rfl, rfl⟩
  refine hK _ _ ?_
  clear hK K
  change wpAny _ _ _ _ _ #[true, true, true, true, true, true, true, true, true, true, true, true, true, true, true, true, true, true, true, true, true, true, true, true, true, true, true, false, false] ⟨#[.string s, undef, .string ⟨#[]⟩, .int .i64 0, undef, undef, undef, undef, undef, undef, .string s, .int .i64 s.size, .bool false, .string s, .int .i64 s.size, .bool false, .bool false, .string s, .int .u8 ((s[0].toNat : Nat) : Int), .string s, .string s, .int .i64 s.size, .int .i64 (n : Int), .int .u8 ((s[n].toNat : Nat) : Int), .bool false, .bool false, .bool false, .string s, .int .u8 ((s[0].toNat : Nat) : Int), .bool false, .bool false, undef, undef, undef, .bool false, .bool false, .bool false, .string s, .slice (some ⟨w.heap.size, 0, none⟩) s.size cap, .int .i64 (wrongR s), undef, undef, undef, undef, undef, undef, undef, undef, undef, undef, undef, undef, undef, undef, undef, undef, undef, undef, undef, undef, undef, undef, undef, undef, undef, undef, undef, undef, undef, undef, undef, undef, undef, undef, undef, undef, undef, undef, undef, undef, undef, undef, undef, undef, undef, undef, undef, undef, undef, undef, undef, undef, undef, undef, undef, undef, undef, undef, undef, undef, undef, undef, undef, undef], []⟩ _
  refine wpAny_take (i := 27) (v := .bool false) rfl (by kernel_rfl) (by kernel_rfl) (by kernel_rfl) (fun _ _ _ h => h) (Or.inl ⟨by rfl, ?_⟩) ?_
  · intro w
    go_simp
    try with_reducible rfl
  change wpAny _ _ _ _ _ #[true, true, true, true, true, true, true, true, true, true, true, true, true, true, true, true, true, true, true, true, true, true, true, true, true, true, true, true, false] ⟨#[.string s, undef, .string ⟨#[]⟩, .int .i64 0, undef, undef, undef, undef, undef, undef, .string s, .int .i64 s.size, .bool false, .string s, .int .i64 s.size, .bool false, .bool false, .string s, .int .u8 ((s[0].toNat : Nat) : Int), .string s, .string s, .int .i64 s.size, .int .i64 (n : Int), .int .u8 ((s[n].toNat : Nat) : Int), .bool false, .bool false, .bool false, .string s, .int .u8 ((s[0].toNat : Nat) : Int), .bool false, .bool false, undef, undef, undef, .bool false, .bool false, .bool false, .string s, .slice (some ⟨w.heap.size, 0, none⟩) s.size cap, .int .i64 (wrongR s), .bool false, undef, undef, undef, undef, undef, undef, undef, undef, undef, undef, undef, undef, undef, undef, undef, undef, undef, undef, undef, undef, undef, undef, undef, undef, undef, undef, undef, undef, undef, undef, undef, undef, undef, undef, undef, undef, undef, undef, undef, undef, undef, undef, undef, undef, undef, undef, undef, undef, undef, undef, undef, undef, undef, undef, undef, undef, undef, undef, undef, undef, undef, undef, undef], []⟩ _
  refine wpAny_take (i := 28) (v := .bool false) rfl (by kernel_rfl) (by kernel_rfl) (by kernel_rfl) (fun _ _ _ h => h) (Or.inl ⟨by rfl, ?_⟩) ?_
  · intro w
    go_simp
    try with_reducible rfl
  change wpAny _ _ _ _ _ #[true, true, true, true, true, true, true, true, true, true, true, true, true, true, true, true, true, true, true, true, true, true, true, true, true, true, true, true, true] ⟨#[.string s, undef, .string ⟨#[]⟩, .int .i64 0, undef, undef, undef, undef, undef, undef, .string s, .int .i64 s.size, .bool false, .string s, .int .i64 s.size, .bool false, .bool false, .string s, .int .u8 ((s[0].toNat : Nat) : Int), .string s, .string s, .int .i64 s.size, .int .i64 (n : Int), .int .u8 ((s[n].toNat : Nat) : Int), .bool false, .bool false, .bool false, .string s, .int .u8 ((s[0].toNat : Nat) : Int), .bool false, .bool false, undef, undef, undef, .bool false, .bool false, .bool false, .string s, .slice (some ⟨w.heap.size, 0, none⟩) s.size cap, .int .i64 (wrongR s), .bool false, .bool false, undef, undef, undef, undef, undef, undef, undef, undef, undef, undef, undef, undef, undef, undef, undef, undef, undef, undef, undef, undef, undef, undef, undef, undef, undef, undef, undef, undef, undef, undef, undef, undef, undef, undef, undef, undef, undef, undef, undef, undef, undef, undef, undef, undef, undef, undef, undef, undef, undef, undef, undef, undef, undef, undef, undef, undef, undef, undef, undef, undef, undef, undef], []⟩ _
  refine wpAny_done (by kernel_rfl) ?_ _
  clear HW hcv
  have en : (s.size : Int) - 1 = (n : Int) := by have := H1.out; omega
  go_wp2
  generalize s.extract 1 n = t at *
  have zf : t.size ≤ s.size := by have := H1.out; omega
  go_loopw [4, 6] (fun v kv wr => ∃ (k f : Nat) (l : List UInt8), kv = .int .i64 k ∧ k ≤ t.size + 9 ∧ t.size ≤ k + f ∧ l.length ≤ 4 * k ∧ Hid (BytL wr w.heap.size v l) ∧ Hid (Below w.heap.size w wr) ∧ Hid (refTxtF 34 t f k l = refTxtF 34 t s.size 0 [])) (fun _ kv _ => t.size + 10 - (intOf kv).toNat)
  case atStart => exact ⟨0, s.size, [], rfl, Nat.zero_le _, by omega, Nat.zero_le _, ⟨rfl, .inl ⟨rfl, rfl⟩⟩, HBC.out, rfl⟩
  case round =>
    obtain ⟨k, f, l, rfl, hk, hf, hl, HO, HB, HR⟩ := hrel
    have hsz : w.heap.size ≤ wr.heap.size := HB.out.size
    by_cases hkt : k < t.size
    case neg =>
      have gk : decide (k < t.size) = false := decide_eq_false hkt
      have HX : Hid (refTxtF 34 t s.size 0 [] = some l) := by
        show _ = _
        rw [← HR.out]
        cases f with
        | zero => rfl
        | succ f => rw [refTxtF, if_neg hkt]
      obtain ⟨a3, c3, hv3, ht3, hc3⟩ := rowB_text HO.out
      subst hv3
      have hcv := (ht3.below (Below.refl _ wr)).conv c3
      have HE2 : Hid (refTxt s = (⟨l.toArray⟩, 0)) := by show _ = _; rw [HE.out, HX.out]; rfl
      clear HO HR HX ht3
      generalize (⟨l.toArray⟩ : ByteArray) = S at *
      go_wp2
      go_ret2
      rw [HE2.out]
      exact ⟨rfl, HB.out⟩
    have gk : decide (k < t.size) = true := decide_eq_true hkt
    obtain ⟨f, rfl⟩ : ∃ f', f = f' + 1 := ⟨f - 1, by omega⟩
    have ek := bt_eq t k hkt
    have lk := bt_lt t k
    have lu : t[k].toNat < 256 := by rw [← ek]; exact lk
    have HR2 : Hid ((if bt t k = 34 ∨ (34 = 34 ∧ bt t k = 10) then none
      else if 34 = 96 ∧ bt t k = 13 then refTxtF 34 t f (k + 1) l
      else if 34 = 34 ∧ bt t k = 92 then (if (partB t (k + 1)).2 = 0 then none else refTxtF 34 t f (k + (partB t (k + 1)).2 + 1) (l ++ (partB t (k + 1)).1.data.toList))
      else refTxtF 34 t f (k + 1) (l ++ [t[k]])) = refTxtF 34 t s.size 0 []) := by
      show _ = _
      rw [← HR.out, refTxtF, if_pos hkt, ofNat_bt t k hkt]
    clear HR
    by_cases cq : bt t k = 34
    · have HX : Hid (refTxtF 34 t s.size 0 [] = none) := by show _ = _; rw [← HR2.out, if_pos (.inl cq)]
      have r1 : (((t[k].toNat : Nat) : Int) == ((s[0].toNat : Nat) : Int)) = true := by rw [HQ0.out, ← ek, cq]; rfl
      have HE2 : Hid (refTxt s = (⟨#[]⟩, 4)) := by show _ = _; rw [HE.out, HX.out]; rfl
      clear cq ek HR2 HX
      go_wp2
      go_ret2
      rw [HE2.out]
      exact ⟨rfl, HB.out⟩
    have r1 : (((t[k].toNat : Nat) : Int) == ((s[0].toNat : Nat) : Int)) = false := by rw [HQ0.out, ← ek]; exact beq_eq_false_iff_ne.2 (by omega)
    by_cases c10 : bt t k = 10
    · have HX : Hid (refTxtF 34 t s.size 0 [] = none) := by show _ = _; rw [← HR2.out, if_pos (.inr ⟨rfl, c10⟩)]
      have r2 : (((t[k].toNat : Nat) : Int) == 10) = true := by rw [← ek, c10]; rfl
      have HE2 : Hid (refTxt s = (⟨#[]⟩, 4)) := by show _ = _; rw [HE.out, HX.out]; rfl
      clear cq ek HR2 HX c10
      go_wp2
      go_ret2
      rw [HE2.out]
      exact ⟨rfl, HB.out⟩
    have r2 : (((t[k].toNat : Nat) : Int) == 10) = false := by rw [← ek]; exact beq_eq_false_iff_ne.2 (by omega)
    by_cases c92 : bt t k = 92
    · have r3 : (((t[k].toNat : Nat) : Int) == 92) = true := by rw [← ek, c92]; rfl
      have HX0 : Hid ((if (partB t (k + 1)).2 = 0 then none else refTxtF 34 t f (k + (partB t (k + 1)).2 + 1) (l ++ (partB t (k + 1)).1.data.toList)) = refTxtF 34 t s.size 0 []) := by
        show _ = _
        have e := HR2.out
        rw [if_neg (by omega), if_neg (by omega), if_pos ⟨rfl, c92⟩] at e
        exact e
      have HP : Hid (∀ W, Calls Tryd.prog 23 #[.string t, .int .i64 ((k : Int) + 1)] W fun e w' => PartEnd W (partB t (k + 1)) e w') := fun W => refPart_any t (k + 1) (by omega) (by omega) W
      obtain ⟨pf1, pf2, pf3⟩ := partB_facts t (k + 1)
      clear cq ek HR2 c10 c92
      generalize partB t (k + 1) = r at *
      obtain ⟨b, m⟩ := r
      dsimp only at pf1 pf2 pf3 HX0
      by_cases hm : m = 0
      · have gm : ((m : Int) == 0) = true := by rw [hm]; rfl
        have HE2 : Hid (refTxt s = (⟨#[]⟩, 4)) := by show _ = _; rw [HE.out, ← HX0.out, if_pos hm]; rfl
        clear hm pf3 HX0
        go_wp2_with fail
        refine (HP.out _).mono ?_
        rintro e w3 ⟨a, cp, rfl, ht, hb⟩
        have HB3 := Lib.hid (HB.out.trans (hb.mono hsz))
        clear ht hb
        go_wp2
        go_ret2
        rw [HE2.out]
        exact ⟨rfl, HB3.out⟩
      · have gm : ((m : Int) == 0) = false := beq_eq_false_iff_ne.2 (by omega)
        have HX : Hid (refTxtF 34 t f (k + m + 1) (l ++ b.data.toList) = refTxtF 34 t s.size 0 []) := by show _ = _; rw [← HX0.out, if_neg hm]
        have hb0 := pf3 hm
        clear hm pf3 HX0
        go_wp2_with fail
        refine (HP.out _).mono ?_
        rintro e w3 ⟨a, cp, rfl, ht, hb⟩
        dsimp only at ht
        have HB3 := Lib.hid (HB.out.trans (hb.mono hsz))
        have HO3 : Hid (BytL w3 w.heap.size _ l) := owns_below HO.out hb
        have ha : a = none → cp = 0 := by
          rcases ht with h | ⟨b', o, rfl, _, _⟩
          · omega
          · exact fun h => by cases h
        have HT3 := Lib.hid ht
        clear ht hb HO
        have hsz3 := HB3.out.size
        go_wp2_with (at_builtin; refine app_text rfl (.tmp 92) (.tmp 93) rfl w.heap.size _ l.length _ rfl HO3.out a b cp rfl HT3.out ha (by omega) hsz3 ?_)
        intro v1 w1 hown1 hgr1
        have hb1 := below_own HB3.out hgr1 hsz3 HO3.out
        have HO1 := Lib.hid (bytL_app hown1)
        have HB1 := Lib.hid hb1
        clear hown1 hgr1 hb1
        go_wp2
        go_roundw
        case rel => exact ⟨k + m + 1, f, l ++ b.data.toList, by go_num, by omega, by omega, by rw [List.length_append, show b.data.toList.length = b.size by simp]; omega, HO1.out, HB1.out, HX.out⟩
        case measure => simp [intOf]; omega
    have r3 : (((t[k].toNat : Nat) : Int) == 92) = false := by rw [← ek]; exact beq_eq_false_iff_ne.2 (by omega)
    have HX : Hid (refTxtF 34 t f (k + 1) (l ++ [t[k]]) = refTxtF 34 t s.size 0 []) := by show _ = _; rw [← HR2.out, if_neg (by omega), if_neg (by omega), if_neg (by omega)]
    clear cq ek HR2 c10 c92
    go_wp2_with (at_builtin; refine app_text rfl (.tmp 98) (.tmp 100) rfl w.heap.size _ l.length _ rfl (HO.out.alloc _) (some ⟨wr.heap.size, 0, none⟩) ⟨[t[k]].toArray⟩ 1 rfl (text_fresh wr [t[k]] _ _ rfl) (fun h => by cases h) (by show _ + 1 ≤ _; omega) (by simp; omega) ?_)
    intro v1 w1 hown1 hgr1
    have hb1 := below_own (HB.out.alloc hsz _) hgr1 (by simp; omega) (HO.out.alloc _)
    have HO1 := Lib.hid (bytL_app hown1)
    have HB1 := Lib.hid hb1
    clear hown1 hgr1 hb1
    go_wp2
    go_roundw
    case rel => exact ⟨k + 1, f, l ++ [t[k]], by go_num, by omega, by omega, by rw [List.length_append]; show _ + 1 ≤ _; omega, HO1.out, HB1.out, HX.out⟩
    case measure => simp [intOf]; omega

set_option maxHeartbeats 4000000 in
set_option maxRecDepth 1000000 in
theorem refText_good96 (s : ByteArray) (w : World) (hs : s.size ≤ 500) (n : Nat) (h : s.size = n + 1) (hn : 0 < n) (heq : bt s 0 = bt s n) (hq : bt s 0 = 96) (hw : wrongR s < 0) :
    Calls Tryd.prog 13 #[.string s] w fun e w' => TxtEnds w (refTxt s) e w' := by
  have HE : Hid (refTxt s = refTxtE (refTxtF 96 (s.extract 1 n) s.size 0 [])) := by
    show _ = _
    unfold refTxt
    rw [if_neg (by rw [show s.size - 1 = n from by omega]; omega), hq, show s.size - 1 = n from by omega]
  have gw : decide ((0 : Int) ≤ wrongR s) = false := decide_eq_false (by omega)
  have zt : (s.extract 1 n).size = n - 1 := by rw [ByteArray.size_extract]; omega
  have hp0 : 0 < s.size := by omega
  have gs34 : (((s[0].toNat : Nat) : Int) == 34) = false := by rw [← bt_eq s 0 hp0, hq]; rfl
  have gs96 : (((s[0].toNat : Nat) : Int) == 96) = true := by rw [← bt_eq s 0 hp0, hq]; rfl
  have HQ0 : Hid (((s[0].toNat : Nat) : Int) = 96) := by show _ = _; rw [← bt_eq s 0 hp0, hq]; rfl
  have h0 : 0 < s.size := by omega
  have hlt : n < s.size := by omega
  have e0 := bt_eq s 0 h0
  have e1 := bt_eq s n hlt
  have H1 : Hid (s.size = n + 1) := h
  have gz : decide ((65536 : Int) < (s.size : Int)) = false := decide_eq_false (by omega)
  have gq : (((s[0].toNat : Nat) : Int) != ((s[n].toNat : Nat) : Int)) = false := by rw [← e0, ← e1, heq]; simp
  have g34 : (((s[0].toNat : Nat) : Int) != 34) = true := by rw [← e0, hq]; rfl
  have g96 : (((s[0].toNat : Nat) : Int) != 96) = false := by rw [← e0, hq]; rfl
  clear e0 e1 h heq
  obtain ⟨wc, cap, hcv, hcap, htx, hbc⟩ := conv_text w.drew s
  have hz : w.drew.heap.size = w.heap.size := rfl
  rw [hz] at hcv htx hbc
  have HBC := Lib.hid (((Below.refl w.heap.size w).drew).trans hbc)
  have HW := Lib.hid (refWrong_any s _ cap wc (by omega) htx)
  clear htx hbc hz hcap
  go_enter Tryd.func13, Tryd.ntmps13
  go_wp2_with fail
  refine wp_region_any (by kernel_rfl) ?_
  change wpAny _ _ _ _ _ _ _ (World.drew _)
  change wpAny _ _ _ _ _ #[false, false, false, false, false, false, false, false, false, false, false, false, false, false, false, false, false, false, false, false, false, false, false, false, false, false, false, false, false] ⟨#[.string s, undef, .string ⟨#[]⟩, .int .i64 0, undef, undef, undef, undef, undef, undef, .string s, .int .i64 s.size, .bool false, undef, undef, undef, undef, undef, undef, undef, undef, undef, undef, undef, undef, undef, undef, undef, undef, undef, undef, undef, undef, undef, undef, undef, undef, undef, undef, undef, undef, undef, undef, undef, undef, undef, undef, undef, undef, undef, undef, undef, undef, undef, undef, undef, undef, undef, undef, undef, undef, undef, undef, undef, undef, undef, undef, undef, undef, undef, undef, undef, undef, undef, undef, undef, undef, undef, undef, undef, undef, undef, undef, undef, undef, undef, undef, undef, undef, undef, undef, undef, undef, undef, undef, undef, undef, undef, undef, undef, undef, undef, undef, undef], []⟩ _
  refine wpAny_take (i := 0) (v := .string s) rfl (by kernel_rfl) (by kernel_rfl) (by kernel_rfl) (fun _ _ _ h => h) (Or.inl ⟨by rfl, ?_⟩) ?_
  · intro w
    go_simp
    try with_reducible rfl
  change wpAny _ _ _ _ _ #[true, false, false, false, false, false, false, false, false, false, false, false, false, false, false, false, false, false, false, false, false, false, false, false, false, false, false, false, false] ⟨#[.string s, undef, .string ⟨#[]⟩, .int .i64 0, undef, undef, undef, undef, undef, undef, .string s, .int .i64 s.size, .bool false, .string s, undef, undef, undef, undef, undef, undef, undef, undef, undef, undef, undef, undef, undef, undef, undef, undef, undef, undef, undef, undef, undef, undef, undef, undef, undef, undef, undef, undef, undef, undef, undef, undef, undef, undef, undef, undef, undef, undef, undef, undef, undef, undef, undef, undef, undef, undef, undef, undef, undef, undef, undef, undef, undef, undef, undef, undef, undef, undef, undef, undef, undef, undef, undef, undef, undef, undef, undef, undef, undef, undef, undef, undef, undef, undef, undef, undef, undef, undef, undef, undef, undef, undef, undef, undef, undef, undef, undef, undef, undef, undef], []⟩ _
  refine wpAny_take (i := 1) (v := .int .i64 s.size) rfl (by kernel_rfl) (by kernel_rfl) (by kernel_rfl) (fun _ _ _ h => h) (Or.inl ⟨by rfl, ?_⟩) ?_
  · intro w
    go_simp
    try with_reducible rfl
  change wpAny _ _ _ _ _ #[true, true, false, false, false, false, false, false, false, false, false, false, false, false, false, false, false, false, false, false, false, false, false, false, false, false, false, false, false] ⟨#[.string s, undef, .string ⟨#[]⟩, .int .i64 0, undef, undef, undef, undef, undef, undef, .string s, .int .i64 s.size, .bool false, .string s, .int .i64 s.size, undef, undef, undef, undef, undef, undef, undef, undef, undef, undef, undef, undef, undef, undef, undef, undef, undef, undef, undef, undef, undef, undef, undef, undef, undef, undef, undef, undef, undef, undef, undef, undef, undef, undef, undef, undef, undef, undef, undef, undef, undef, undef, undef, undef, undef, undef, undef, undef, undef, undef, undef, undef, undef, undef, undef, undef, undef, undef, undef, undef, undef, undef, undef, undef, undef, undef, undef, undef, undef, undef, undef, undef, undef, undef, undef, undef, undef, undef, undef, undef, undef, undef, undef, undef, undef, undef, undef, undef, undef], []⟩ _
  refine wpAny_take (i := 2) (v := .bool false) rfl (by kernel_rfl) (by kernel_rfl) (by kernel_rfl) (fun _ _ _ h => h) (Or.inl ⟨by rfl, ?_⟩) ?_
  · intro w
    go_simp
    have := H1.out; omega
  change wpAny _ _ _ _ _ #[true, true, true, false, false, false, false, false, false, false, false, false, false, false, false, false, false, false, false, false, false, false, false, false, false, false, false, false, false] ⟨#[.string s, undef, .string ⟨#[]⟩, .int .i64 0, undef, undef, undef, undef, undef, undef, .string s, .int .i64 s.size, .bool false, .string s, .int .i64 s.size, .bool false, undef, undef, undef, undef, undef, undef, undef, undef, undef, undef, undef, undef, undef, undef, undef, undef, undef, undef, undef, undef, undef, undef, undef, undef, undef, undef, undef, undef, undef, undef, undef, undef, undef, undef, undef, undef, undef, undef, undef, undef, undef, undef, undef, undef, undef, undef, undef, undef, undef, undef, undef, undef, undef, undef, undef, undef, undef, undef, undef, undef, undef, undef, undef, undef, undef, undef, undef, undef, undef, undef, undef, undef, undef, undef, undef, undef, undef, undef, undef, undef, undef, undef, undef, undef, undef, undef, undef, undef], []⟩ _
  refine wpAny_take (i := 3) (v := .bool false) rfl (by kernel_rfl) (by kernel_rfl) (by kernel_rfl) (fun _ _ _ h => h) (Or.inl ⟨by rfl, ?_⟩) ?_
  · intro w
    go_simp
    try with_reducible rfl
  change wpAny _ _ _ _ _ #[true, true, true, true, false, false, false, false, false, false, false, false, false, false, false, false, false, false, false, false, false, false, false, false, false, false, false, false, false] ⟨#[.string s, undef, .string ⟨#[]⟩, .int .i64 0, undef, undef, undef, undef, undef, undef, .string s, .int .i64 s.size, .bool false, .string s, .int .i64 s.size, .bool false, .bool false, undef, undef, undef, undef, undef, undef, undef, undef, undef, undef, undef, undef, undef, undef, undef, undef, undef, undef, undef, undef, undef, undef, undef, undef, undef, undef, undef, undef, undef, undef, undef, undef, undef, undef, undef, undef, undef, undef, undef, undef, undef, undef, undef, undef, undef, undef, undef, undef, undef, undef, undef, undef, undef, undef, undef, undef, undef, undef, undef, undef, undef, undef, undef, undef, undef, undef, undef, undef, undef, undef, undef, undef, undef, undef, undef, undef, undef, undef, undef, undef, undef, undef, undef, undef, undef, undef, undef], []⟩ _
  refine wpAny_take (i := 4) (v := .string s) rfl (by kernel_rfl) (by kernel_rfl) (by kernel_rfl) (fun _ _ _ h => h) (Or.inl ⟨by rfl, ?_⟩) ?_
  · intro w
    go_simp
    try with_reducible rfl
  change wpAny _ _ _ _ _ #[true, true, true, true, true, false, false, false, false, false, false, false, false, false, false, false, false, false, false, false, false, false, false, false, false, false, false, false, false] ⟨#[.string s, undef, .string ⟨#[]⟩, .int .i64 0, undef, undef, undef, undef, undef, undef, .string s, .int .i64 s.size, .bool false, .string s, .int .i64 s.size, .bool false, .bool false, .string s, undef, undef, undef, undef, undef, undef, undef, undef, undef, undef, undef, undef, undef, undef, undef, undef, undef, undef, undef, undef, undef, undef, undef, undef, undef, undef, undef, undef, undef, undef, undef, undef, undef, undef, undef, undef, undef, undef, undef, undef, undef, undef, undef, undef, undef, undef, undef, undef, undef, undef, undef, undef, undef, undef, undef, undef, undef, undef, undef, undef, undef, undef, undef, undef, undef, undef, undef, undef, undef, undef, undef, undef, undef, undef, undef, undef, undef, undef, undef, undef, undef, undef, undef, undef, undef, undef], []⟩ _
  refine wpAny_take (i := 5) (v := .int .u8 ((s[0].toNat : Nat) : Int)) rfl (by kernel_rfl) (by kernel_rfl) (by kernel_rfl) (fun _ _ _ h => h) (Or.inl ⟨by rfl, ?_⟩) ?_
  · intro w
    go_simp
    try with_reducible rfl
  change wpAny _ _ _ _ _ #[true, true, true, true, true, true, false, false, false, false, false, false, false, false, false, false, false, false, false, false, false, false, false, false, false, false, false, false, false] ⟨#[.string s, undef, .string ⟨#[]⟩, .int .i64 0, undef, undef, undef, undef, undef, undef, .string s, .int .i64 s.size, .bool false, .string s, .int .i64 s.size, .bool false, .bool false, .string s, .int .u8 ((s[0].toNat : Nat) : Int), undef, undef, undef, undef, undef, undef, undef, undef, undef, undef, undef, undef, undef, undef, undef, undef, undef, undef, undef, undef, undef, undef, undef, undef, undef, undef, undef, undef, undef, undef, undef, undef, undef, undef, undef, undef, undef, undef, undef, undef, undef, undef, undef, undef, undef, undef, undef, undef, undef, undef, undef, undef, undef, undef, undef, undef, undef, undef, undef, undef, undef, undef, undef, undef, undef, undef, undef, undef, undef, undef, undef, undef, undef, undef, undef, undef, undef, undef, undef, undef, undef, undef, undef, undef, undef], []⟩ _
  refine wpAny_take (i := 6) (v := .string s) rfl (by kernel_rfl) (by kernel_rfl) (by kernel_rfl) (fun _ _ _ h => h) (Or.inl ⟨by rfl, ?_⟩) ?_
  · intro w
    go_simp
    try with_reducible rfl
  change wpAny _ _ _ _ _ #[true, true, true, true, true, true, true, false, false, false, false, false, false, false, false, false, false, false, false, false, false, false, false, false, false, false, false, false, false] ⟨#[.string s, undef, .string ⟨#[]⟩, .int .i64 0, undef, undef, undef, undef, undef, undef, .string s, .int .i64 s.size, .bool false, .string s, .int .i64 s.size, .bool false, .bool false, .string s, .int .u8 ((s[0].toNat : Nat) : Int), .string s, undef, undef, undef, undef, undef, undef, undef, undef, undef, undef, undef, undef, undef, undef, undef, undef, undef, undef, undef, undef, undef, undef, undef, undef, undef, undef, undef, undef, undef, undef, undef, undef, undef, undef, undef, undef, undef, undef, undef, undef, undef, undef, undef, undef, undef, undef, undef, undef, undef, undef, undef, undef, undef, undef, undef, undef, undef, undef, undef, undef, undef, undef, undef, undef, undef, undef, undef, undef, undef, undef, undef, undef, undef, undef, undef, undef, undef, undef, undef, undef, undef, undef, undef, undef], []⟩ _
  refine wpAny_take (i := 7) (v := .string s) rfl (by kernel_rfl) (by kernel_rfl) (by kernel_rfl) (fun _ _ _ h => h) (Or.inl ⟨by rfl, ?_⟩) ?_
  · intro w
    go_simp
    try with_reducible rfl
  change wpAny _ _ _ _ _ #[true, true, true, true, true, true, true, true, false, false, false, false, false, false, false, false, false, false, false, false, false, false, false, false, false, false, false, false, false] ⟨#[.string s, undef, .string ⟨#[]⟩, .int .i64 0, undef, undef, undef, undef, undef, undef, .string s, .int .i64 s.size, .bool false, .string s, .int .i64 s.size, .bool false, .bool false, .string s, .int .u8 ((s[0].toNat : Nat) : Int), .string s, .string s, undef, undef, undef, undef, undef, undef, undef, undef, undef, undef, undef, undef, undef, undef, undef, undef, undef, undef, undef, undef, undef, undef, undef, undef, undef, undef, undef, undef, undef, undef, undef, undef, undef, undef, undef, undef, undef, undef, undef, undef, undef, undef, undef, undef, undef, undef, undef, undef, undef, undef, undef, undef, undef, undef, undef, undef, undef, undef, undef, undef, undef, undef, undef, undef, undef, undef, undef, undef, undef, undef, undef, undef, undef, undef, undef, undef, undef, undef, undef, undef, undef, undef, undef], []⟩ _
  refine wpAny_take (i := 8) (v := .int .i64 s.size) rfl (by kernel_rfl) (by kernel_rfl) (by kernel_rfl) (fun _ _ _ h => h) (Or.inl ⟨by rfl, ?_⟩) ?_
  · intro w
    go_simp
    try with_reducible rfl
  change wpAny _ _ _ _ _ #[true, true, true, true, true, true, true, true, true, false, false, false, false, false, false, false, false, false, false, false, false, false, false, false, false, false, false, false, false] ⟨#[.string s, undef, .string ⟨#[]⟩, .int .i64 0, undef, undef, undef, undef, undef, undef, .string s, .int .i64 s.size, .bool false, .string s, .int .i64 s.size, .bool false, .bool false, .string s, .int .u8 ((s[0].toNat : Nat) : Int), .string s, .string s, .int .i64 s.size, undef, undef, undef, undef, undef, undef, undef, undef, undef, undef, undef, undef, undef, undef, undef, undef, undef, undef, undef, undef, undef, undef, undef, undef, undef, undef, undef, undef, undef, undef, undef, undef, undef, undef, undef, undef, undef, undef, undef, undef, undef, undef, undef, undef, undef, undef, undef, undef, undef, undef, undef, undef, undef, undef, undef, undef, undef, undef, undef, undef, undef, undef, undef, undef, undef, undef, undef, undef, undef, undef, undef, undef, undef, undef, undef, undef, undef, undef, undef, undef, undef, undef], []⟩ _
  refine wpAny_take (i := 9) (v := .int .i64 (n : Int)) rfl (by kernel_rfl) (by kernel_rfl) (by kernel_rfl) (fun _ _ _ h => h) (Or.inl ⟨by rfl, ?_⟩) ?_
  · intro w
    go_simp
    have e := H1.out; rw [show (s.size : Int) - 1 = (n : Int) by omega]; exact IntWalk.i64_in _ (by omega)
  change wpAny _ _ _ _ _ #[true, true, true, true, true, true, true, true, true, true, false, false, false, false, false, false, false, false, false, false, false, false, false, false, false, false, false, false, false] ⟨#[.string s, undef, .string ⟨#[]⟩, .int .i64 0, undef, undef, undef, undef, undef, undef, .string s, .int .i64 s.size, .bool false, .string s, .int .i64 s.size, .bool false, .bool false, .string s, .int .u8 ((s[0].toNat : Nat) : Int), .string s, .string s, .int .i64 s.size, .int .i64 (n : Int), undef, undef, undef, undef, undef, undef, undef, undef, undef, undef, undef, undef, undef, undef, undef, undef, undef, undef, undef, undef, undef, undef, undef, undef, undef, undef, undef, undef, undef, undef, undef, undef, undef, undef, undef, undef, undef, undef, undef, undef, undef, undef, undef, undef, undef, undef, undef, undef, undef, undef, undef, undef, undef, undef, undef, undef, undef, undef, undef, undef, undef, undef, undef, undef, undef, undef, undef, undef, undef, undef, undef, undef, undef, undef, undef, undef, undef, undef, undef, undef, undef], []⟩ _
  refine wpAny_take (i := 10) (v := .int .u8 ((s[n].toNat : Nat) : Int)) rfl (by kernel_rfl) (by kernel_rfl) (by kernel_rfl) (fun _ _ _ h => h) (Or.inl ⟨by rfl, ?_⟩) ?_
  · intro w
    go_simp
    try with_reducible rfl
  change wpAny _ _ _ _ _ #[true, true, true, true, true, true, true, true, true, true, true, false, false, false, false, false, false, false, false, false, false, false, false, false, false, false, false, false, false] ⟨#[.string s, undef, .string ⟨#[]⟩, .int .i64 0, undef, undef, undef, undef, undef, undef, .string s, .int .i64 s.size, .bool false, .string s, .int .i64 s.size, .bool false, .bool false, .string s, .int .u8 ((s[0].toNat : Nat) : Int), .string s, .string s, .int .i64 s.size, .int .i64 (n : Int), .int .u8 ((s[n].toNat : Nat) : Int), undef, undef, undef, undef, undef, undef, undef, undef, undef, undef, undef, undef, undef, undef, undef, undef, undef, undef, undef, undef, undef, undef, undef, undef, undef, undef, undef, undef, undef, undef, undef, undef, undef, undef, undef, undef, undef, undef, undef, undef, undef, undef, undef, undef, undef, undef, undef, undef, undef, undef, undef, undef, undef, undef, undef, undef, undef, undef, undef, undef, undef, undef, undef, undef, undef, undef, undef, undef, undef, undef, undef, undef, undef, undef, undef, undef, undef, undef, undef, undef], []⟩ _
  refine wpAny_take (i := 11) (v := .bool false) rfl (by kernel_rfl) (by kernel_rfl) (by kernel_rfl) (fun _ _ _ h => h) (Or.inl ⟨by rfl, ?_⟩) ?_
  · intro w
    go_simp
    try with_reducible rfl
  change wpAny _ _ _ _ _ #[true, true, true, true, true, true, true, true, true, true, true, true, false, false, false, false, false, false, false, false, false, false, false, false, false, false, false, false, false] ⟨#[.string s, undef, .string ⟨#[]⟩, .int .i64 0, undef, undef, undef, undef, undef, undef, .string s, .int .i64 s.size, .bool false, .string s, .int .i64 s.size, .bool false, .bool false, .string s, .int .u8 ((s[0].toNat : Nat) : Int), .string s, .string s, .int .i64 s.size, .int .i64 (n : Int), .int .u8 ((s[n].toNat : Nat) : Int), .bool false, undef, undef, undef, undef, undef, undef, undef, undef, undef, undef, undef, undef, undef, undef, undef, undef, undef, undef, undef, undef, undef, undef, undef, undef, undef, undef, undef, undef, undef, undef, undef, undef, undef, undef, undef, undef, undef, undef, undef, undef, undef, undef, undef, undef, undef, undef, undef, undef, undef, undef, undef, undef, undef, undef, undef, undef, undef, undef, undef, undef, undef, undef, undef, undef, undef, undef, undef, undef, undef, undef, undef, undef, undef, undef, undef, undef, undef, undef, undef], []⟩ _
  refine wpAny_take (i := 12) (v := .bool false) rfl (by kernel_rfl) (by kernel_rfl) (by kernel_rfl) (fun _ _ _ h => h) (Or.inl ⟨by rfl, ?_⟩) ?_
  · intro w
    go_simp
    try with_reducible rfl
  change wpAny _ _ _ _ _ #[true, true, true, true, true, true, true, true, true, true, true, true, true, false, false, false, false, false, false, false, false, false, false, false, false, false, false, false, false] ⟨#[.string s, undef, .string ⟨#[]⟩, .int .i64 0, undef, undef, undef, undef, undef, undef, .string s, .int .i64 s.size, .bool false, .string s, .int .i64 s.size, .bool false, .bool false, .string s, .int .u8 ((s[0].toNat : Nat) : Int), .string s, .string s, .int .i64 s.size, .int .i64 (n : Int), .int .u8 ((s[n].toNat : Nat) : Int), .bool false, .bool false, undef, undef, undef, undef, undef, undef, undef, undef, undef, undef, undef, undef, undef, undef, undef, undef, undef, undef, undef, undef, undef, undef, undef, undef, undef, undef, undef, undef, undef, undef, undef, undef, undef, undef, undef, undef, undef, undef, undef, undef, undef, undef, undef, undef, undef, undef, undef, undef, undef, undef, undef, undef, undef, undef, undef, undef, undef, undef, undef, undef, undef, undef, undef, undef, undef, undef, undef, undef, undef, undef, undef, undef, undef, undef, undef, undef, undef, undef], []⟩ _
  refine wpAny_take (i := 13) (v := .bool false) rfl (by kernel_rfl) (by kernel_rfl) (by kernel_rfl) (fun _ _ _ h => h) (Or.inl ⟨by rfl, ?_⟩) ?_
  · intro w
    go_simp
    try with_reducible rfl
  change wpAny _ _ _ _ _ #[true, true, true, true, true, true, true, true, true, true, true, true, true, true, false, false, false, false, false, false, false, false, false, false, false, false, false, false, false] ⟨#[.string s, undef, .string ⟨#[]⟩, .int .i64 0, undef, undef, undef, undef, undef, undef, .string s, .int .i64 s.size, .bool false, .string s, .int .i64 s.size, .bool false, .bool false, .string s, .int .u8 ((s[0].toNat : Nat) : Int), .string s, .string s, .int .i64 s.size, .int .i64 (n : Int), .int .u8 ((s[n].toNat : Nat) : Int), .bool false, .bool false, .bool false, undef, undef, undef, undef, undef, undef, undef, undef, undef, undef, undef, undef, undef, undef, undef, undef, undef, undef, undef, undef, undef, undef, undef, undef, undef, undef, undef, undef, undef, undef, undef, undef, undef, undef, undef, undef, undef, undef, undef, undef, undef, undef, undef, undef, undef, undef, undef, undef, undef, undef, undef, undef, undef, undef, undef, undef, undef, undef, undef, undef, undef, undef, undef, undef, undef, undef, undef, undef, undef, undef, undef, undef, undef, undef, undef, undef, undef], []⟩ _
  refine wpAny_take (i := 14) (v := .string s) rfl (by kernel_rfl) (by kernel_rfl) (by kernel_rfl) (fun _ _ _ h => h) (Or.inl ⟨by rfl, ?_⟩) ?_
  · intro w
    go_simp
    try with_reducible rfl
  change wpAny _ _ _ _ _ #[true, true, true, true, true, true, true, true, true, true, true, true, true, true, true, false, false, false, false, false, false, false, false, false, false, false, false, false, false] ⟨#[.string s, undef, .string ⟨#[]⟩, .int .i64 0, undef, undef, undef, undef, undef, undef, .string s, .int .i64 s.size, .bool false, .string s, .int .i64 s.size, .bool false, .bool false, .string s, .int .u8 ((s[0].toNat : Nat) : Int), .string s, .string s, .int .i64 s.size, .int .i64 (n : Int), .int .u8 ((s[n].toNat : Nat) : Int), .bool false, .bool false, .bool false, .string s, undef, undef, undef, undef, undef, undef, undef, undef, undef, undef, undef, undef, undef, undef, undef, undef, undef, undef, undef, undef, undef, undef, undef, undef, undef, undef, undef, undef, undef, undef, undef, undef, undef, undef, undef, undef, undef, undef, undef, undef, undef, undef, undef, undef, undef, undef, undef, undef, undef, undef, undef, undef, undef, undef, undef, undef, undef, undef, undef, undef, undef, undef, undef, undef, undef, undef, undef, undef, undef, undef, undef, undef, undef, undef, undef, undef], []⟩ _
  refine wpAny_take (i := 15) (v := .int .u8 ((s[0].toNat : Nat) : Int)) rfl (by kernel_rfl) (by kernel_rfl) (by kernel_rfl) (fun _ _ _ h => h) (Or.inl ⟨by rfl, ?_⟩) ?_
  · intro w
    go_simp
    try with_reducible rfl
  change wpAny _ _ _ _ _ #[true, true, true, true, true, true, true, true, true, true, true, true, true, true, true, true, false, false, false, false, false, false, false, false, false, false, false, false, false] ⟨#[.string s, undef, .string ⟨#[]⟩, .int .i64 0, undef, undef, undef, undef, undef, undef, .string s, .int .i64 s.size, .bool false, .string s, .int .i64 s.size, .bool false, .bool false, .string s, .int .u8 ((s[0].toNat : Nat) : Int), .string s, .string s, .int .i64 s.size, .int .i64 (n : Int), .int .u8 ((s[n].toNat : Nat) : Int), .bool false, .bool false, .bool false, .string s, .int .u8 ((s[0].toNat : Nat) : Int), undef, undef, undef, undef, undef, undef, undef, undef, undef, undef, undef, undef, undef, undef, undef, undef, undef, undef, undef, undef, undef, undef, undef, undef, undef, undef, undef, undef, undef, undef, undef, undef, undef, undef, undef, undef, undef, undef, undef, undef, undef, undef, undef, undef, undef, undef, undef, undef, undef, undef, undef, undef, undef, undef, undef, undef, undef, undef, undef, undef, undef, undef, undef, undef, undef, undef, undef, undef, undef, undef, undef, undef, undef, undef, undef], []⟩ _
  refine wpAny_take (i := 16) (v := .bool true) rfl (by kernel_rfl) (by kernel_rfl) (by kernel_rfl) (fun _ _ _ h => h) (Or.inl ⟨by rfl, ?_⟩) ?_
  · intro w
    go_simp
    try with_reducible rfl
  change wpAny _ _ _ _ _ #[true, true, true, true, true, true, true, true, true, true, true, true, true, true, true, true, true, false, false, false, false, false, false, false, false, false, false, false, false] ⟨#[.string s, undef, .string ⟨#[]⟩, .int .i64 0, undef, undef, undef, undef, undef, undef, .string s, .int .i64 s.size, .bool false, .string s, .int .i64 s.size, .bool false, .bool false, .string s, .int .u8 ((s[0].toNat : Nat) : Int), .string s, .string s, .int .i64 s.size, .int .i64 (n : Int), .int .u8 ((s[n].toNat : Nat) : Int), .bool false, .bool false, .bool false, .string s, .int .u8 ((s[0].toNat : Nat) : Int), .bool true, undef, undef, undef, undef, undef, undef, undef, undef, undef, undef, undef, undef, undef, undef, undef, undef, undef, undef, undef, undef, undef, undef, undef, undef, undef, undef, undef, undef, undef, undef, undef, undef, undef, undef, undef, undef, undef, undef, undef, undef, undef, undef, undef, undef, undef, undef, undef, undef, undef, undef, undef, undef, undef, undef, undef, undef, undef, undef, undef, undef, undef, undef, undef, undef, undef, undef, undef, undef, undef, undef, undef, undef, undef, undef], []⟩ _
  refine wpAny_take (i := 17) (v := .bool true) rfl (by kernel_rfl) (by kernel_rfl) (by kernel_rfl) (fun _ _ _ h => h) (Or.inl ⟨by rfl, ?_⟩) ?_
  · intro w
    go_simp
    try with_reducible rfl
  change wpAny _ _ _ _ _ #[true, true, true, true, true, true, true, true, true, true, true, true, true, true, true, true, true, true, false, false, false, false, false, false, false, false, false, false, false] ⟨#[.string s, undef, .string ⟨#[]⟩, .int .i64 0, undef, undef, undef, undef, undef, undef, .string s, .int .i64 s.size, .bool false, .string s, .int .i64 s.size, .bool false, .bool false, .string s, .int .u8 ((s[0].toNat : Nat) : Int), .string s, .string s, .int .i64 s.size, .int .i64 (n : Int), .int .u8 ((s[n].toNat : Nat) : Int), .bool false, .bool false, .bool false, .string s, .int .u8 ((s[0].toNat : Nat) : Int), .bool true, .bool true, undef, undef, undef, undef, undef, undef, undef, undef, undef, undef, undef, undef, undef, undef, undef, undef, undef, undef, undef, undef, undef, undef, undef, undef, undef, undef, undef, undef, undef, undef, undef, undef, undef, undef, undef, undef, undef, undef, undef, undef, undef, undef, undef, undef, undef, undef, undef, undef, undef, undef, undef, undef, undef, undef, undef, undef, undef, undef, undef, undef, undef, undef, undef, undef, undef, undef, undef, undef, undef, undef, undef, undef, undef], []⟩ _
  refine wpAny_take (i := 18) (v := .string s) rfl (by kernel_rfl) (by kernel_rfl) (by kernel_rfl) (fun _ _ _ h => h) (Or.inl ⟨by rfl, ?_⟩) ?_
  · intro w
    go_simp
    try with_reducible rfl
  change wpAny _ _ _ _ _ #[true, true, true, true, true, true, true, true, true, true, true, true, true, true, true, true, true, true, true, false, false, false, false, false, false, false, false, false, false] ⟨#[.string s, undef, .string ⟨#[]⟩, .int .i64 0, undef, undef, undef, undef, undef, undef, .string s, .int .i64 s.size, .bool false, .string s, .int .i64 s.size, .bool false, .bool false, .string s, .int .u8 ((s[0].toNat : Nat) : Int), .string s, .string s, .int .i64 s.size, .int .i64 (n : Int), .int .u8 ((s[n].toNat : Nat) : Int), .bool false, .bool false, .bool false, .string s, .int .u8 ((s[0].toNat : Nat) : Int), .bool true, .bool true, .string s, undef, undef, undef, undef, undef, undef, undef, undef, undef, undef, undef, undef, undef, undef, undef, undef, undef, undef, undef, undef, undef, undef, undef, undef, undef, undef, undef, undef, undef, undef, undef, undef, undef, undef, undef, undef, undef, undef, undef, undef, undef, undef, undef, undef, undef, undef, undef, undef, undef, undef, undef, undef, undef, undef, undef, undef, undef, undef, undef, undef, undef, undef, undef, undef, undef, undef, undef, undef, undef, undef, undef, undef], []⟩ _
  refine wpAny_take (i := 19) (v := .int .u8 ((s[0].toNat : Nat) : Int)) rfl (by kernel_rfl) (by kernel_rfl) (by kernel_rfl) (fun _ _ _ h => h) (Or.inl ⟨by rfl, ?_⟩) ?_
  · intro w
    go_simp
    try with_reducible rfl
  change wpAny _ _ _ _ _ #[true, true, true, true, true, true, true, true, true, true, true, true, true, true, true, true, true, true, true, true, false, false, false, false, false, false, false, false, false] ⟨#[.string s, undef, .string ⟨#[]⟩, .int .i64 0, undef, undef, undef, undef, undef, undef, .string s, .int .i64 s.size, .bool false, .string s, .int .i64 s.size, .bool false, .bool false, .string s, .int .u8 ((s[0].toNat : Nat) : Int), .string s, .string s, .int .i64 s.size, .int .i64 (n : Int), .int .u8 ((s[n].toNat : Nat) : Int), .bool false, .bool false, .bool false, .string s, .int .u8 ((s[0].toNat : Nat) : Int), .bool true, .bool true, .string s, .int .u8 ((s[0].toNat : Nat) : Int), undef, undef, undef, undef, undef, undef, undef, undef, undef, undef, undef, undef, undef, undef, undef, undef, undef, undef, undef, undef, undef, undef, undef, undef, undef, undef, undef, undef, undef, undef, undef, undef, undef, undef, undef, undef, undef, undef, undef, undef, undef, undef, undef, undef, undef, undef, undef, undef, undef, undef, undef, undef, undef, undef, undef, undef, undef, undef, undef, undef, undef, undef, undef, undef, undef, undef, undef, undef, undef, undef, undef], []⟩ _
  refine wpAny_take (i := 20) (v := .bool false) rfl (by kernel_rfl) (by kernel_rfl) (by kernel_rfl) (fun _ _ _ h => h) (Or.inl ⟨by rfl, ?_⟩) ?_
  · intro w
    go_simp
    try with_reducible rfl
  change wpAny _ _ _ _ _ #[true, true, true, true, true, true, true, true, true, true, true, true, true, true, true, true, true, true, true, true, true, false, false, false, false, false, false, false, false] ⟨#[.string s, undef, .string ⟨#[]⟩, .int .i64 0, undef, undef, undef, undef, undef, undef, .string s, .int .i64 s.size, .bool false, .string s, .int .i64 s.size, .bool false, .bool false, .string s, .int .u8 ((s[0].toNat : Nat) : Int), .string s, .string s, .int .i64 s.size, .int .i64 (n : Int), .int .u8 ((s[n].toNat : Nat) : Int), .bool false, .bool false, .bool false, .string s, .int .u8 ((s[0].toNat : Nat) : Int), .bool true, .bool true, .string s, .int .u8 ((s[0].toNat : Nat) : Int), .bool false, undef, undef, undef, undef, undef, undef, undef, undef, undef, undef, undef, undef, undef, undef, undef, undef, undef, undef, undef, undef, undef, undef, undef, undef, undef, undef, undef, undef, undef, undef, undef, undef, undef, undef, undef, undef, undef, undef, undef, undef, undef, undef, undef, undef, undef, undef, undef, undef, undef, undef, undef, undef, undef, undef, undef, undef, undef, undef, undef, undef, undef, undef, undef, undef, undef, undef, undef, undef, undef, undef], []⟩ _
  refine wpAny_take (i := 21) (v := .bool false) rfl (by kernel_rfl) (by kernel_rfl) (by kernel_rfl) (fun _ _ _ h => h) (Or.inl ⟨by rfl, ?_⟩) ?_
  · intro w
    go_simp
    try with_reducible rfl
  change wpAny _ _ _ _ _ #[true, true, true, true, true, true, true, true, true, true, true, true, true, true, true, true, true, true, true, true, true, true, false, false, false, false, false, false, false] ⟨#[.string s, undef, .string ⟨#[]⟩, .int .i64 0, undef, undef, undef, undef, undef, undef, .string s, .int .i64 s.size, .bool false, .string s, .int .i64 s.size, .bool false, .bool false, .string s, .int .u8 ((s[0].toNat : Nat) : Int), .string s, .string s, .int .i64 s.size, .int .i64 (n : Int), .int .u8 ((s[n].toNat : Nat) : Int), .bool false, .bool false, .bool false, .string s, .int .u8 ((s[0].toNat : Nat) : Int), .bool true, .bool true, .string s, .int .u8 ((s[0].toNat : Nat) : Int), .bool false, .bool false, undef, undef, undef, undef, undef, undef, undef, undef, undef, undef, undef, undef, undef, undef, undef, undef, undef, undef, undef, undef, undef, undef, undef, undef, undef, undef, undef, undef, undef, undef, undef, undef, undef, undef, undef, undef, undef, undef, undef, undef, undef, undef, undef, undef, undef, undef, undef, undef, undef, undef, undef, undef, undef, undef, undef, undef, undef, undef, undef, undef, undef, undef, undef, undef, undef, undef, undef, undef, undef], []⟩ _
  refine wpAny_take (i := 22) (v := .bool false) rfl (by kernel_rfl) (by kernel_rfl) (by kernel_rfl) (fun _ _ _ h => h) (Or.inl ⟨by rfl, ?_⟩) ?_
  · intro w
    go_simp
    try with_reducible rfl
  change wpAny _ _ _ _ _ #[true, true, true, true, true, true, true, true, true, true, true, true, true, true, true, true, true, true, true, true, true, true, true, false, false, false, false, false, false] ⟨#[.string s, undef, .string ⟨#[]⟩, .int .i64 0, undef, undef, undef, undef, undef, undef, .string s, .int .i64 s.size, .bool false, .string s, .int .i64 s.size, .bool false, .bool false, .string s, .int .u8 ((s[0].toNat : Nat) : Int), .string s, .string s, .int .i64 s.size, .int .i64 (n : Int), .int .u8 ((s[n].toNat : Nat) : Int), .bool false, .bool false, .bool false, .string s, .int .u8 ((s[0].toNat : Nat) : Int), .bool true, .bool true, .string s, .int .u8 ((s[0].toNat : Nat) : Int), .bool false, .bool false, .bool false, undef, undef, undef, undef, undef, undef, undef, undef, undef, undef, undef, undef, undef, undef, undef, undef, undef, undef, undef, undef, undef, undef, undef, undef, undef, undef, undef, undef, undef, undef, undef, undef, undef, undef, undef, undef, undef, undef, undef, undef, undef, undef, undef, undef, undef, undef, undef, undef, undef, undef, undef, undef, undef, undef, undef, undef, undef, undef, undef, undef, undef, undef, undef, undef, undef, undef, undef, undef], []⟩ _
  refine wpAny_take (i := 23) (v := .bool false) rfl (by kernel_rfl) (by kernel_rfl) (by kernel_rfl) (fun _ _ _ h => h) (Or.inl ⟨by rfl, ?_⟩) ?_
  · intro w
    go_simp
    try with_reducible rfl
  change wpAny _ _ _ _ _ #[true, true, true, true, true, true, true, true, true, true, true, true, true, true, true, true, true, true, true, true, true, true, true, true, false, false, false, false, false] ⟨#[.string s, undef, .string ⟨#[]⟩, .int .i64 0, undef, undef, undef, undef, undef, undef, .string s, .int .i64 s.size, .bool false, .string s, .int .i64 s.size, .bool false, .bool false, .string s, .int .u8 ((s[0].toNat : Nat) : Int), .string s, .string s, .int .i64 s.size, .int .i64 (n : Int), .int .u8 ((s[n].toNat : Nat) : Int), .bool false, .bool false, .bool false, .string s, .int .u8 ((s[0].toNat : Nat) : Int), .bool true, .bool true, .string s, .int .u8 ((s[0].toNat : Nat) : Int), .bool false, .bool false, .bool false, .bool false, undef, undef, undef, undef, undef, undef, undef, undef, undef, undef, undef, undef, undef, undef, undef, undef, undef, undef, undef, undef, undef, undef, undef, undef, undef, undef, undef, undef, undef, undef, undef, undef, undef, undef, undef, undef, undef, undef, undef, undef, undef, undef, undef, undef, undef, undef, undef, undef, undef, undef, undef, undef, undef, undef, undef, undef, undef, undef, undef, undef, undef, undef, undef, undef, undef, undef, undef], []⟩ _
  refine wpAny_take (i := 24) (v := .string s) rfl (by kernel_rfl) (by kernel_rfl) (by kernel_rfl) (fun _ _ _ h => h) (Or.inl ⟨by rfl, ?_⟩) ?_
  · intro w
    go_simp
    try with_reducible rfl
  change wpAny _ _ _ _ _ #[true, true, true, true, true, true, true, true, true, true, true, true, true, true, true, true, true, true, true, true, true, true, true, true, true, false, false, false, false] ⟨#[.string s, undef, .string ⟨#[]⟩, .int .i64 0, undef, undef, undef, undef, undef, undef, .string s, .int .i64 s.size, .bool false, .string s, .int .i64 s.size, .bool false, .bool false, .string s, .int .u8 ((s[0].toNat : Nat) : Int), .string s, .string s, .int .i64 s.size, .int .i64 (n : Int), .int .u8 ((s[n].toNat : Nat) : Int), .bool false, .bool false, .bool false, .string s, .int .u8 ((s[0].toNat : Nat) : Int), .bool true, .bool true, .string s, .int .u8 ((s[0].toNat : Nat) : Int), .bool false, .bool false, .bool false, .bool false, .string s, undef, undef, undef, undef, undef, undef, undef, undef, undef, undef, undef, undef, undef, undef, undef, undef, undef, undef, undef, undef, undef, undef, undef, undef, undef, undef, undef, undef, undef, undef, undef, undef, undef, undef, undef, undef, undef, undef, undef, undef, undef, undef, undef, undef, undef, undef, undef, undef, undef, undef, undef, undef, undef, undef, undef, undef, undef, undef, undef, undef, undef, undef, undef, undef, undef, undef], []⟩ _
  refine wpAny_ready (rs := [25]) (by kernel_rfl) (by simp) ?_
  refine AllReady.cons rfl (fun K hK => ?_) AllReady.nil
  go_simp
  refine hK _ _ ?_
  clear hK K
  change wpAny _ _ _ _ _ #[true, true, true, true, true, true, true, true, true, true, true, true, true, true, true, true, true, true, true, true, true, true, true, true, true, true, false, false, false] ⟨#[.string s, undef, .string ⟨#[]⟩, .int .i64 0, undef, undef, undef, undef, undef, undef, .string s, .int .i64 s.size, .bool false, .string s, .int .i64 s.size, .bool false, .bool false, .string s, .int .u8 ((s[0].toNat : Nat) : Int), .string s, .string s, .int .i64 s.size, .int .i64 (n : Int), .int .u8 ((s[n].toNat : Nat) : Int), .bool false, .bool false, .bool false, .string s, .int .u8 ((s[0].toNat : Nat) : Int), .bool true, .bool true, .string s, .int .u8 ((s[0].toNat : Nat) : Int), .bool false, .bool false, .bool false, .bool false, .string s, .slice (some ⟨w.heap.size, 0, none⟩) s.size cap, undef, undef, undef, undef, undef, undef, undef, undef, undef, undef, undef, undef, undef, undef, undef, undef, undef, undef, undef, undef, undef, undef, undef, undef, undef, undef, undef, undef, undef, undef, undef, undef, undef, undef, undef, undef, undef, undef, undef, undef, undef, undef, undef, undef, undef, undef, undef, undef, undef, undef, undef, undef, undef, undef, undef, undef, undef, undef, undef, undef, undef, undef, undef, undef, undef], []⟩ _
  refine wpAny_ready (rs := [26]) (by kernel_rfl) (by simp) ?_
  refine AllReady.cons rfl (fun K hK => ?_) AllReady.nil
  go_simp
  go_at_call 22
  refine HW.out.mono ?_
  rintro e w2 ⟨rfl, rfl⟩
  refine hK _ _ ?_
  clear hK K
  change wpAny _ _ _ _ _ #[true, true, true, true, true, true, true, true, true, true, true, true, true, true, true, true, true, true, true, true, true, true, true, true, true, true, true, false, false] ⟨#[.string s, undef, .string ⟨#[]⟩, .int .i64 0, undef, undef, undef, undef, undef, undef, .string s, .int .i64 s.size, .bool false, .string s, .int .i64 s.size, .bool false, .bool false, .string s, .int .u8 ((s[0].toNat : Nat) : Int), .string s, .string s, .int .i64 s.size, .int .i64 (n : Int), .int .u8 ((s[n].toNat : Nat) : Int), .bool false, .bool false, .bool false, .string s, .int .u8 ((s[0].toNat : Nat) : Int), .bool true, .bool true, .string s, .int .u8 ((s[0].toNat : Nat) : Int), .bool false, .bool false, .bool false, .bool false, .string s, .slice (some ⟨w.heap.size, 0, none⟩) s.size cap, .int .i64 (wrongR s), undef, undef, undef, undef, undef, undef, undef, undef, undef, undef, undef, undef, undef, undef, undef, undef, undef, undef, undef, undef, undef, undef, undef, undef, undef, undef, undef, undef, undef, undef, undef, undef, undef, undef, undef, undef, undef, undef, undef, undef, undef, undef, undef, undef, undef, undef, undef, undef, undef, undef, undef, undef, undef, undef, undef, undef, undef, undef, undef, undef, undef, undef, undef, undef], []⟩ _
  refine wpAny_take (i := 27) (v := .bool false) rfl (by kernel_rfl) (by kernel_rfl) (by kernel_rfl) (fun _ _ _ h => h) (Or.inl ⟨by rfl, ?_⟩) ?_
  · intro w
    go_simp
    try with_reducible rfl
  change wpAny _ _ _ _ _ #[true, true, true, true, true, true, true, true, true, true, true, true, true, true, true, true, true, true, true, true, true, true, true, true, true, true, true, true, false] ⟨#[.string s, undef, .string ⟨#[]⟩, .int .i64 0, undef, undef, undef, undef, undef, undef, .string s, .int .i64 s.size, .bool false, .string s, .int .i64 s.size, .bool false, .bool false, .string s, .int .u8 ((s[0].toNat : Nat) : Int), .string s, .string s, .int .i64 s.size, .int .i64 (n : Int), .int .u8 ((s[n].toNat : Nat) : Int), .bool false, .bool false, .bool false, .string s, .int .u8 ((s[0].toNat : Nat) : Int), .bool true, .bool true, .string s, .int .u8 ((s[0].toNat : Nat) : Int), .bool false, .bool false, .bool false, .bool false, .string s, .slice (some ⟨w.heap.size, 0, none⟩) s.size cap, .int .i64 (wrongR s), .bool false, undef, undef, undef, undef, undef, undef, undef, undef, undef, undef, undef, undef, undef, undef, undef, undef, undef, undef, undef, undef, undef, undef, undef, undef, undef, undef, undef, undef, undef, undef, undef, undef, undef, undef, undef, undef, undef, undef, undef, undef, undef, undef, undef, undef, undef, undef, undef, undef, undef, undef, undef, undef, undef, undef, undef, undef, undef, undef, undef, undef, undef, undef, undef], []⟩ _
  refine wpAny_take (i := 28) (v := .bool false) rfl (by kernel_rfl) (by kernel_rfl) (by kernel_rfl) (fun _ _ _ h => h) (Or.inl ⟨by rfl, ?_⟩) ?_
  · intro w
    go_simp
    try with_reducible rfl
  change wpAny _ _ _ _ _ #[true, true, true, true, true, true, true, true, true, true, true, true, true, true, true, true, true, true, true, true, true, true, true, true, true, true, true, true, true] ⟨#[.string s, undef, .string ⟨#[]⟩, .int .i64 0, undef, undef, undef, undef, undef, undef, .string s, .int .i64 s.size, .bool false, .string s, .int .i64 s.size, .bool false, .bool false, .string s, .int .u8 ((s[0].toNat : Nat) : Int), .string s, .string s, .int .i64 s.size, .int .i64 (n : Int), .int .u8 ((s[n].toNat : Nat) : Int), .bool false, .bool false, .bool false, .string s, .int .u8 ((s[0].toNat : Nat) : Int), .bool true, .bool true, .string s, .int .u8 ((s[0].toNat : Nat) : Int), .bool false, .bool false, .bool false, .bool false, .string s, .slice (some ⟨w.heap.size, 0, none⟩) s.size cap, .int .i64 (wrongR s), .bool false, .bool false, undef, undef, undef, undef, undef, undef, undef, undef, undef, undef, undef, undef, undef, undef, undef, undef, undef, undef, undef, undef, undef, undef, undef, undef, undef, undef, undef, undef, undef, undef, undef, undef, undef, undef, undef, undef, undef, undef, undef, undef, undef, undef, undef, undef, undef, undef, undef, undef, undef, undef, undef, undef, undef, undef, undef, undef, undef, undef, undef, undef, undef, undef], []⟩ _
  refine wpAny_done (by kernel_rfl) ?_ _
  clear HW hcv
  have en : (s.size : Int) - 1 = (n : Int) := by have := H1.out; omega
  go_wp2
  generalize s.extract 1 n = t at *
  have zf : t.size ≤ s.size := by have := H1.out; omega
  go_loopw [4, 6] (fun v kv wr => ∃ (k f : Nat) (l : List UInt8), kv = .int .i64 k ∧ k ≤ t.size + 9 ∧ t.size ≤ k + f ∧ l.length ≤ 4 * k ∧ Hid (BytL wr w.heap.size v l) ∧ Hid (Below w.heap.size w wr) ∧ Hid (refTxtF 96 t f k l = refTxtF 96 t s.size 0 [])) (fun _ kv _ => t.size + 10 - (intOf kv).toNat)
  case atStart => exact ⟨0, s.size, [], rfl, Nat.zero_le _, by omega, Nat.zero_le _, ⟨rfl, .inl ⟨rfl, rfl⟩⟩, HBC.out, rfl⟩
  case round =>
    obtain ⟨k, f, l, rfl, hk, hf, hl, HO, HB, HR⟩ := hrel
    have hsz : w.heap.size ≤ wr.heap.size := HB.out.size
    by_cases hkt : k < t.size
    case neg =>
      have gk : decide (k < t.size) = false := decide_eq_false hkt
      have HX : Hid (refTxtF 96 t s.size 0 [] = some l) := by
        show _ = _
        rw [← HR.out]
        cases f with
        | zero => rfl
        | succ f => rw [refTxtF, if_neg hkt]
      obtain ⟨a3, c3, hv3, ht3, hc3⟩ := rowB_text HO.out
      subst hv3
      have hcv := (ht3.below (Below.refl _ wr)).conv c3
      have HE2 : Hid (refTxt s = (⟨l.toArray⟩, 0)) := by show _ = _; rw [HE.out, HX.out]; rfl
      clear HO HR HX ht3
      generalize (⟨l.toArray⟩ : ByteArray) = S at *
      go_wp2
      go_ret2
      rw [HE2.out]
      exact ⟨rfl, HB.out⟩
    have gk : decide (k < t.size) = true := decide_eq_true hkt
    obtain ⟨f, rfl⟩ : ∃ f', f = f' + 1 := ⟨f - 1, by omega⟩
    have ek := bt_eq t k hkt
    have lk := bt_lt t k
    have lu : t[k].toNat < 256 := by rw [← ek]; exact lk
    have HR2 : Hid ((if bt t k = 96 ∨ (96 = 34 ∧ bt t k = 10) then none
      else if 96 = 96 ∧ bt t k = 13 then refTxtF 96 t f (k + 1) l
      else if 96 = 34 ∧ bt t k = 92 then (if (partB t (k + 1)).2 = 0 then none else refTxtF 96 t f (k + (partB t (k + 1)).2 + 1) (l ++ (partB t (k + 1)).1.data.toList))
      else refTxtF 96 t f (k + 1) (l ++ [t[k]])) = refTxtF 96 t s.size 0 []) := by
      show _ = _
      rw [← HR.out, refTxtF, if_pos hkt, ofNat_bt t k hkt]
    clear HR
    by_cases cq : bt t k = 96
    · have HX : Hid (refTxtF 96 t s.size 0 [] = none) := by show _ = _; rw [← HR2.out, if_pos (.inl cq)]
      have r1 : (((t[k].toNat : Nat) : Int) == ((s[0].toNat : Nat) : Int)) = true := by rw [HQ0.out, ← ek, cq]; rfl
      have HE2 : Hid (refTxt s = (⟨#[]⟩, 4)) := by show _ = _; rw [HE.out, HX.out]; rfl
      clear cq ek HR2 HX
      go_wp2
      go_ret2
      rw [HE2.out]
      exact ⟨rfl, HB.out⟩
    have r1 : (((t[k].toNat : Nat) : Int) == ((s[0].toNat : Nat) : Int)) = false := by rw [HQ0.out, ← ek]; exact beq_eq_false_iff_ne.2 (by omega)
    by_cases c13 : bt t k = 13
    · have HX : Hid (refTxtF 96 t f (k + 1) l = refTxtF 96 t s.size 0 []) := by show _ = _; rw [← HR2.out, if_neg (by omega), if_pos ⟨rfl, c13⟩]
      have r2 : (((t[k].toNat : Nat) : Int) == 13) = true := by rw [← ek, c13]; rfl
      clear cq ek HR2 c13
      go_wp2
      go_roundw
      case rel => exact ⟨k + 1, f, l, by go_num, by omega, by omega, by omega, HO.out, HB.out, HX.out⟩
      case measure => simp [intOf]; omega
    have r2 : (((t[k].toNat : Nat) : Int) == 13) = false := by rw [← ek]; exact beq_eq_false_iff_ne.2 (by omega)
    have HX : Hid (refTxtF 96 t f (k + 1) (l ++ [t[k]]) = refTxtF 96 t s.size 0 []) := by show _ = _; rw [← HR2.out, if_neg (by omega), if_neg (by omega), if_neg (by omega)]
    clear cq ek HR2 c13
    go_wp2_with (at_builtin; refine app_text rfl (.tmp 98) (.tmp 100) rfl w.heap.size _ l.length _ rfl (HO.out.alloc _) (some ⟨wr.heap.size, 0, none⟩) ⟨[t[k]].toArray⟩ 1 rfl (text_fresh wr [t[k]] _ _ rfl) (fun h => by cases h) (by show _ + 1 ≤ _; omega) (by simp; omega) ?_)
    intro v1 w1 hown1 hgr1
    have hb1 := below_own (HB.out.alloc hsz _) hgr1 (by simp; omega) (HO.out.alloc _)
    have HO1 := Lib.hid (bytL_app hown1)
    have HB1 := Lib.hid hb1
    clear hown1 hgr1 hb1
    go_wp2
    go_roundw
    case rel => exact ⟨k + 1, f, l ++ [t[k]], by go_num, by omega, by omega, by rw [List.length_append]; show _ + 1 ≤ _; omega, HO1.out, HB1.out, HX.out⟩
    case measure => simp [intOf]; omega

theorem refText_any (s : ByteArray) (hs : s.size ≤ 500) (w : World) : Calls Tryd.prog 13 #[.string s] w fun e w' => TxtEnds w (refTxt s) e w' := by
  by_cases hb : s.size < 2 ∨ bt s 0 ≠ bt s (s.size - 1) ∨ (bt s 0 ≠ 34 ∧ bt s 0 ≠ 96)
  · exact refText_bad s hs w hb
  obtain ⟨n, h⟩ : ∃ n, s.size = n + 1 := ⟨s.size - 1, by omega⟩
  have e : s.size - 1 = n := by omega
  rw [e] at hb
  have hn : 0 < n := by omega
  have heq : bt s 0 = bt s n := by omega
  by_cases hw : 0 ≤ wrongR s
  · by_cases hq : bt s 0 = 34
    · exact refText_wrong34 s w hs n h hn heq hq hw
    · exact refText_wrong96 s w hs n h hn heq (by omega) hw
  · by_cases hq : bt s 0 = 34
    · exact refText_good34 s w hs n h hn heq hq (by omega)
    · exact refText_good96 s w hs n h hn heq (by omega) (by omega)
end Go.Proofs.YtijinpnbhnfiiaaDoor
