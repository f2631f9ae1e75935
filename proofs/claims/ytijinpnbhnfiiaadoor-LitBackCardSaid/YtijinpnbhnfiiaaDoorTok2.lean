/- package token: which texts are words, what kind a name's text has, behind which tokens a line ends. -/
import Derived.Test.YtijinpnbhnfiiaaDoorTok1
namespace Go.Proofs.YtijinpnbhnfiiaaDoor
open Go.RowKit

def words1 : List (List UInt8) := [[98, 114, 101, 97, 107],
  [99, 111, 110, 116, 105, 110, 117, 101],
  [101, 108, 115, 101],
  [102, 111, 114],
  [102, 117, 110, 99],
  [105, 102],
  [105, 109, 112, 111, 114, 116],
  [105, 110, 116, 101, 114, 102, 97, 99, 101],
  [112, 97, 99, 107, 97, 103, 101],
  [114, 97, 110, 103, 101],
  [114, 101, 116, 117, 114, 110],
  [115, 116, 114, 117, 99, 116],
  [116, 121, 112, 101],
  [118, 97, 114]]
def words2 : List (List UInt8) := [[99, 97, 115, 101],
  [99, 104, 97, 110],
  [99, 111, 110, 115, 116],
  [100, 101, 102, 97, 117, 108, 116],
  [100, 101, 102, 101, 114],
  [102, 97, 108, 108, 116, 104, 114, 111, 117, 103, 104],
  [103, 111],
  [103, 111, 116, 111],
  [109, 97, 112],
  [115, 101, 108, 101, 99, 116],
  [115, 119, 105, 116, 99, 104]]
/-- 1 of a word of the fragment, 2 of another one, 0 of what is none. -/
def wordN (s : ByteArray) : Nat := if words1.contains s.toList then 1 else if words2.contains s.toList then 2 else 0

theorem word_of (s : ByteArray) (n : Nat) (l : List UInt8) (h : s.toList = l) (hn : (if words1.contains l then 1 else if words2.contains l then 2 else 0) = n) : wordN s = n := by
  unfold wordN
  rw [h]
  exact hn

theorem not_in {l : List UInt8} {ws : List (List UInt8)} (h : ws.contains l = false) : ∀ k ∈ ws, (l == k) = false := by
  intro k hk
  cases e : l == k
  · rfl
  · have e' := eq_of_beq e
    subst e'
    rw [List.contains_iff_mem.2 hk] at h
    cases h

set_option maxHeartbeats 1000000 in
set_option maxRecDepth 100000 in
theorem word_none (s : ByteArray) (w : World) (h1 : words1.contains s.toList = false) (h2 : words2.contains s.toList = false) : Calls Tryd.prog 82 #[.string s] w fun e w' => e = .returned (.int .i64 (wordN s)) ∧ w = w' := by
  have HN : Hid (wordN s = 0) := by show _ = _; unfold wordN; rw [h1, h2]; rfl
  have a0 := not_in h1 [98, 114, 101, 97, 107] (by decide)
  have a1 := not_in h1 [99, 111, 110, 116, 105, 110, 117, 101] (by decide)
  have a2 := not_in h1 [101, 108, 115, 101] (by decide)
  have a3 := not_in h1 [102, 111, 114] (by decide)
  have a4 := not_in h1 [102, 117, 110, 99] (by decide)
  have a5 := not_in h1 [105, 102] (by decide)
  have a6 := not_in h1 [105, 109, 112, 111, 114, 116] (by decide)
  have a7 := not_in h1 [105, 110, 116, 101, 114, 102, 97, 99, 101] (by decide)
  have a8 := not_in h1 [112, 97, 99, 107, 97, 103, 101] (by decide)
  have a9 := not_in h1 [114, 97, 110, 103, 101] (by decide)
  have a10 := not_in h1 [114, 101, 116, 117, 114, 110] (by decide)
  have a11 := not_in h1 [115, 116, 114, 117, 99, 116] (by decide)
  have a12 := not_in h1 [116, 121, 112, 101] (by decide)
  have a13 := not_in h1 [118, 97, 114] (by decide)
  have b0 := not_in h2 [99, 97, 115, 101] (by decide)
  have b1 := not_in h2 [99, 104, 97, 110] (by decide)
  have b2 := not_in h2 [99, 111, 110, 115, 116] (by decide)
  have b3 := not_in h2 [100, 101, 102, 97, 117, 108, 116] (by decide)
  have b4 := not_in h2 [100, 101, 102, 101, 114] (by decide)
  have b5 := not_in h2 [102, 97, 108, 108, 116, 104, 114, 111, 117, 103, 104] (by decide)
  have b6 := not_in h2 [103, 111] (by decide)
  have b7 := not_in h2 [103, 111, 116, 111] (by decide)
  have b8 := not_in h2 [109, 97, 112] (by decide)
  have b9 := not_in h2 [115, 101, 108, 101, 99, 116] (by decide)
  have b10 := not_in h2 [115, 119, 105, 116, 99, 104] (by decide)
  clear h1 h2
  go_enter Tryd.func82, Tryd.ntmps82
  go_wp2
  go_ret
  rw [HN.out]
  exact ⟨rfl, rfl⟩

set_option maxRecDepth 100000 in
theorem word_break (s : ByteArray) (w : World) (h : s.toList = [98, 114, 101, 97, 107]) : Calls Tryd.prog 82 #[.string s] w fun e w' => e = .returned (.int .i64 (wordN s)) ∧ w = w' := by
  have HN : Hid (wordN s = 1) := word_of s 1 _ h (by decide)
  go_enter Tryd.func82, Tryd.ntmps82
  go_wp2
  go_ret
  rw [HN.out]
  exact ⟨rfl, rfl⟩

set_option maxRecDepth 100000 in
theorem word_continue (s : ByteArray) (w : World) (h : s.toList = [99, 111, 110, 116, 105, 110, 117, 101]) : Calls Tryd.prog 82 #[.string s] w fun e w' => e = .returned (.int .i64 (wordN s)) ∧ w = w' := by
  have HN : Hid (wordN s = 1) := word_of s 1 _ h (by decide)
  go_enter Tryd.func82, Tryd.ntmps82
  go_wp2
  go_ret
  rw [HN.out]
  exact ⟨rfl, rfl⟩

set_option maxRecDepth 100000 in
theorem word_else (s : ByteArray) (w : World) (h : s.toList = [101, 108, 115, 101]) : Calls Tryd.prog 82 #[.string s] w fun e w' => e = .returned (.int .i64 (wordN s)) ∧ w = w' := by
  have HN : Hid (wordN s = 1) := word_of s 1 _ h (by decide)
  go_enter Tryd.func82, Tryd.ntmps82
  go_wp2
  go_ret
  rw [HN.out]
  exact ⟨rfl, rfl⟩

set_option maxRecDepth 100000 in
theorem word_for (s : ByteArray) (w : World) (h : s.toList = [102, 111, 114]) : Calls Tryd.prog 82 #[.string s] w fun e w' => e = .returned (.int .i64 (wordN s)) ∧ w = w' := by
  have HN : Hid (wordN s = 1) := word_of s 1 _ h (by decide)
  go_enter Tryd.func82, Tryd.ntmps82
  go_wp2
  go_ret
  rw [HN.out]
  exact ⟨rfl, rfl⟩

set_option maxRecDepth 100000 in
theorem word_func (s : ByteArray) (w : World) (h : s.toList = [102, 117, 110, 99]) : Calls Tryd.prog 82 #[.string s] w fun e w' => e = .returned (.int .i64 (wordN s)) ∧ w = w' := by
  have HN : Hid (wordN s = 1) := word_of s 1 _ h (by decide)
  go_enter Tryd.func82, Tryd.ntmps82
  go_wp2
  go_ret
  rw [HN.out]
  exact ⟨rfl, rfl⟩

set_option maxRecDepth 100000 in
theorem word_if (s : ByteArray) (w : World) (h : s.toList = [105, 102]) : Calls Tryd.prog 82 #[.string s] w fun e w' => e = .returned (.int .i64 (wordN s)) ∧ w = w' := by
  have HN : Hid (wordN s = 1) := word_of s 1 _ h (by decide)
  go_enter Tryd.func82, Tryd.ntmps82
  go_wp2
  go_ret
  rw [HN.out]
  exact ⟨rfl, rfl⟩

set_option maxRecDepth 100000 in
theorem word_import (s : ByteArray) (w : World) (h : s.toList = [105, 109, 112, 111, 114, 116]) : Calls Tryd.prog 82 #[.string s] w fun e w' => e = .returned (.int .i64 (wordN s)) ∧ w = w' := by
  have HN : Hid (wordN s = 1) := word_of s 1 _ h (by decide)
  go_enter Tryd.func82, Tryd.ntmps82
  go_wp2
  go_ret
  rw [HN.out]
  exact ⟨rfl, rfl⟩

set_option maxRecDepth 100000 in
theorem word_interface (s : ByteArray) (w : World) (h : s.toList = [105, 110, 116, 101, 114, 102, 97, 99, 101]) : Calls Tryd.prog 82 #[.string s] w fun e w' => e = .returned (.int .i64 (wordN s)) ∧ w = w' := by
  have HN : Hid (wordN s = 1) := word_of s 1 _ h (by decide)
  go_enter Tryd.func82, Tryd.ntmps82
  go_wp2
  go_ret
  rw [HN.out]
  exact ⟨rfl, rfl⟩

set_option maxRecDepth 100000 in
theorem word_package (s : ByteArray) (w : World) (h : s.toList = [112, 97, 99, 107, 97, 103, 101]) : Calls Tryd.prog 82 #[.string s] w fun e w' => e = .returned (.int .i64 (wordN s)) ∧ w = w' := by
  have HN : Hid (wordN s = 1) := word_of s 1 _ h (by decide)
  go_enter Tryd.func82, Tryd.ntmps82
  go_wp2
  go_ret
  rw [HN.out]
  exact ⟨rfl, rfl⟩

set_option maxRecDepth 100000 in
theorem word_range (s : ByteArray) (w : World) (h : s.toList = [114, 97, 110, 103, 101]) : Calls Tryd.prog 82 #[.string s] w fun e w' => e = .returned (.int .i64 (wordN s)) ∧ w = w' := by
  have HN : Hid (wordN s = 1) := word_of s 1 _ h (by decide)
  go_enter Tryd.func82, Tryd.ntmps82
  go_wp2
  go_ret
  rw [HN.out]
  exact ⟨rfl, rfl⟩

set_option maxRecDepth 100000 in
theorem word_return (s : ByteArray) (w : World) (h : s.toList = [114, 101, 116, 117, 114, 110]) : Calls Tryd.prog 82 #[.string s] w fun e w' => e = .returned (.int .i64 (wordN s)) ∧ w = w' := by
  have HN : Hid (wordN s = 1) := word_of s 1 _ h (by decide)
  go_enter Tryd.func82, Tryd.ntmps82
  go_wp2
  go_ret
  rw [HN.out]
  exact ⟨rfl, rfl⟩

set_option maxRecDepth 100000 in
theorem word_struct (s : ByteArray) (w : World) (h : s.toList = [115, 116, 114, 117, 99, 116]) : Calls Tryd.prog 82 #[.string s] w fun e w' => e = .returned (.int .i64 (wordN s)) ∧ w = w' := by
  have HN : Hid (wordN s = 1) := word_of s 1 _ h (by decide)
  go_enter Tryd.func82, Tryd.ntmps82
  go_wp2
  go_ret
  rw [HN.out]
  exact ⟨rfl, rfl⟩

set_option maxRecDepth 100000 in
theorem word_type (s : ByteArray) (w : World) (h : s.toList = [116, 121, 112, 101]) : Calls Tryd.prog 82 #[.string s] w fun e w' => e = .returned (.int .i64 (wordN s)) ∧ w = w' := by
  have HN : Hid (wordN s = 1) := word_of s 1 _ h (by decide)
  go_enter Tryd.func82, Tryd.ntmps82
  go_wp2
  go_ret
  rw [HN.out]
  exact ⟨rfl, rfl⟩

set_option maxRecDepth 100000 in
theorem word_var (s : ByteArray) (w : World) (h : s.toList = [118, 97, 114]) : Calls Tryd.prog 82 #[.string s] w fun e w' => e = .returned (.int .i64 (wordN s)) ∧ w = w' := by
  have HN : Hid (wordN s = 1) := word_of s 1 _ h (by decide)
  go_enter Tryd.func82, Tryd.ntmps82
  go_wp2
  go_ret
  rw [HN.out]
  exact ⟨rfl, rfl⟩

set_option maxRecDepth 100000 in
theorem word_case (s : ByteArray) (w : World) (h : s.toList = [99, 97, 115, 101]) : Calls Tryd.prog 82 #[.string s] w fun e w' => e = .returned (.int .i64 (wordN s)) ∧ w = w' := by
  have HN : Hid (wordN s = 2) := word_of s 2 _ h (by decide)
  go_enter Tryd.func82, Tryd.ntmps82
  go_wp2
  go_ret
  rw [HN.out]
  exact ⟨rfl, rfl⟩

set_option maxRecDepth 100000 in
theorem word_chan (s : ByteArray) (w : World) (h : s.toList = [99, 104, 97, 110]) : Calls Tryd.prog 82 #[.string s] w fun e w' => e = .returned (.int .i64 (wordN s)) ∧ w = w' := by
  have HN : Hid (wordN s = 2) := word_of s 2 _ h (by decide)
  go_enter Tryd.func82, Tryd.ntmps82
  go_wp2
  go_ret
  rw [HN.out]
  exact ⟨rfl, rfl⟩

set_option maxRecDepth 100000 in
theorem word_const (s : ByteArray) (w : World) (h : s.toList = [99, 111, 110, 115, 116]) : Calls Tryd.prog 82 #[.string s] w fun e w' => e = .returned (.int .i64 (wordN s)) ∧ w = w' := by
  have HN : Hid (wordN s = 2) := word_of s 2 _ h (by decide)
  go_enter Tryd.func82, Tryd.ntmps82
  go_wp2
  go_ret
  rw [HN.out]
  exact ⟨rfl, rfl⟩

set_option maxRecDepth 100000 in
theorem word_default (s : ByteArray) (w : World) (h : s.toList = [100, 101, 102, 97, 117, 108, 116]) : Calls Tryd.prog 82 #[.string s] w fun e w' => e = .returned (.int .i64 (wordN s)) ∧ w = w' := by
  have HN : Hid (wordN s = 2) := word_of s 2 _ h (by decide)
  go_enter Tryd.func82, Tryd.ntmps82
  go_wp2
  go_ret
  rw [HN.out]
  exact ⟨rfl, rfl⟩

set_option maxRecDepth 100000 in
theorem word_defer (s : ByteArray) (w : World) (h : s.toList = [100, 101, 102, 101, 114]) : Calls Tryd.prog 82 #[.string s] w fun e w' => e = .returned (.int .i64 (wordN s)) ∧ w = w' := by
  have HN : Hid (wordN s = 2) := word_of s 2 _ h (by decide)
  go_enter Tryd.func82, Tryd.ntmps82
  go_wp2
  go_ret
  rw [HN.out]
  exact ⟨rfl, rfl⟩

set_option maxRecDepth 100000 in
theorem word_fallthrough (s : ByteArray) (w : World) (h : s.toList = [102, 97, 108, 108, 116, 104, 114, 111, 117, 103, 104]) : Calls Tryd.prog 82 #[.string s] w fun e w' => e = .returned (.int .i64 (wordN s)) ∧ w = w' := by
  have HN : Hid (wordN s = 2) := word_of s 2 _ h (by decide)
  go_enter Tryd.func82, Tryd.ntmps82
  go_wp2
  go_ret
  rw [HN.out]
  exact ⟨rfl, rfl⟩

set_option maxRecDepth 100000 in
theorem word_go (s : ByteArray) (w : World) (h : s.toList = [103, 111]) : Calls Tryd.prog 82 #[.string s] w fun e w' => e = .returned (.int .i64 (wordN s)) ∧ w = w' := by
  have HN : Hid (wordN s = 2) := word_of s 2 _ h (by decide)
  go_enter Tryd.func82, Tryd.ntmps82
  go_wp2
  go_ret
  rw [HN.out]
  exact ⟨rfl, rfl⟩

set_option maxRecDepth 100000 in
theorem word_goto (s : ByteArray) (w : World) (h : s.toList = [103, 111, 116, 111]) : Calls Tryd.prog 82 #[.string s] w fun e w' => e = .returned (.int .i64 (wordN s)) ∧ w = w' := by
  have HN : Hid (wordN s = 2) := word_of s 2 _ h (by decide)
  go_enter Tryd.func82, Tryd.ntmps82
  go_wp2
  go_ret
  rw [HN.out]
  exact ⟨rfl, rfl⟩

set_option maxRecDepth 100000 in
theorem word_map (s : ByteArray) (w : World) (h : s.toList = [109, 97, 112]) : Calls Tryd.prog 82 #[.string s] w fun e w' => e = .returned (.int .i64 (wordN s)) ∧ w = w' := by
  have HN : Hid (wordN s = 2) := word_of s 2 _ h (by decide)
  go_enter Tryd.func82, Tryd.ntmps82
  go_wp2
  go_ret
  rw [HN.out]
  exact ⟨rfl, rfl⟩

set_option maxRecDepth 100000 in
theorem word_select (s : ByteArray) (w : World) (h : s.toList = [115, 101, 108, 101, 99, 116]) : Calls Tryd.prog 82 #[.string s] w fun e w' => e = .returned (.int .i64 (wordN s)) ∧ w = w' := by
  have HN : Hid (wordN s = 2) := word_of s 2 _ h (by decide)
  go_enter Tryd.func82, Tryd.ntmps82
  go_wp2
  go_ret
  rw [HN.out]
  exact ⟨rfl, rfl⟩

set_option maxRecDepth 100000 in
theorem word_switch (s : ByteArray) (w : World) (h : s.toList = [115, 119, 105, 116, 99, 104]) : Calls Tryd.prog 82 #[.string s] w fun e w' => e = .returned (.int .i64 (wordN s)) ∧ w = w' := by
  have HN : Hid (wordN s = 2) := word_of s 2 _ h (by decide)
  go_enter Tryd.func82, Tryd.ntmps82
  go_wp2
  go_ret
  rw [HN.out]
  exact ⟨rfl, rfl⟩

theorem mem_contains {l : List UInt8} {ws : List (List UInt8)} (h : ws.contains l = true) : l ∈ ws := List.contains_iff_mem.1 h

theorem word_any (s : ByteArray) (w : World) : Calls Tryd.prog 82 #[.string s] w fun e w' => e = .returned (.int .i64 (wordN s)) ∧ w = w' := by
  cases h1 : words1.contains s.toList
  · cases h2 : words2.contains s.toList
    · exact word_none s w h1 h2
    · have h := mem_contains h2
      simp only [words2, List.mem_cons, List.not_mem_nil, or_false] at h
      rcases h with h | h | h | h | h | h | h | h | h | h | h
      · exact word_case s w h
      · exact word_chan s w h
      · exact word_const s w h
      · exact word_default s w h
      · exact word_defer s w h
      · exact word_fallthrough s w h
      · exact word_go s w h
      · exact word_goto s w h
      · exact word_map s w h
      · exact word_select s w h
      · exact word_switch s w h
  · have h := mem_contains h1
    simp only [words1, List.mem_cons, List.not_mem_nil, or_false] at h
    rcases h with h | h | h | h | h | h | h | h | h | h | h | h | h | h
    · exact word_break s w h
    · exact word_continue s w h
    · exact word_else s w h
    · exact word_for s w h
    · exact word_func s w h
    · exact word_if s w h
    · exact word_import s w h
    · exact word_interface s w h
    · exact word_package s w h
    · exact word_range s w h
    · exact word_return s w h
    · exact word_struct s w h
    · exact word_type s w h
    · exact word_var s w h
end Go.Proofs.YtijinpnbhnfiiaaDoor
