/- package token: what kind a name's text has, names, behind which tokens a line ends. -/
import Derived.Test.YtijinpnbhnfiiaaDoorTok2
namespace Go.Proofs.YtijinpnbhnfiiaaDoor
open Go.RowKit

theorem wordN_cases (s : ByteArray) : wordN s = 0 ∨ wordN s = 1 ∨ wordN s = 2 := by
  unfold wordN
  split
  · exact .inr (.inl rfl)
  · split
    · exact .inr (.inr rfl)
    · exact .inl rfl

theorem kindOf_any (s : ByteArray) (w : World) : Calls Tryd.prog 69 #[.string s] w fun e w' => e = .returned (.int .i64 ((1 + wordN s : Nat) : Int)) ∧ w = w' := by
  rcases wordN_cases s with h | h | h
  all_goals
    have HW := Lib.hid h
    clear h
    go_enter Tryd.func69, Tryd.ntmps69
    go_wp2_with fail
    refine (word_any s w).mono ?_
    rintro e w' ⟨rfl, rfl⟩
    rw [HW.out]
    go_wp2
    go_ret
    rw [HW.out]
    exact ⟨rfl, rfl⟩

/-- Is it a name? -/
def nameB (s : ByteArray) : Bool := !(nameN s == 0) && nameN s == s.size && wordN s == 0

/-- A token or a note. -/
structure Tk where
  kind : Nat
  text : ByteArray
  at_ : Nat
deriving DecidableEq

def Tk.val (t : Tk) : Value := .agg #[.int .i64 t.kind, .string t.text, .int .i64 t.at_]

def enders : List (List UInt8) := [[98, 114, 101, 97, 107],
  [99, 111, 110, 116, 105, 110, 117, 101],
  [114, 101, 116, 117, 114, 110],
  [102, 97, 108, 108, 116, 104, 114, 111, 117, 103, 104],
  [43, 43],
  [45, 45],
  [41],
  [93],
  [125]]
def kinds145 (k : Nat) : Bool := k == 1 || k == 4 || k == 5
/-- Is a semicolon put in behind it, at a line's end? -/
def endsB (t : Tk) : Bool := kinds145 t.kind || enders.contains t.text.toList

theorem ends_kind (k : Nat) (s : ByteArray) (a : Nat) (w : World) (h : kinds145 k = true) : Calls Tryd.prog 74 #[.agg #[.int .i64 k, .string s, .int .i64 a]] w fun e w' => e = .returned (.bool true) ∧ Below w.heap.size w w' := by
  simp only [kinds145, Bool.or_eq_true, beq_iff_eq] at h
  rcases h with (rfl | rfl) | rfl
  all_goals
    go_enter Tryd.func74, Tryd.ntmps74
    go_wp2
    go_ret
    exact ⟨rfl, (Below.refl _ w).alloc (Nat.le_refl _) _⟩

theorem ends_none (k : Nat) (s : ByteArray) (a : Nat) (w : World) (h : kinds145 k = false) (hs : enders.contains s.toList = false) : Calls Tryd.prog 74 #[.agg #[.int .i64 k, .string s, .int .i64 a]] w fun e w' => e = .returned (.bool false) ∧ Below w.heap.size w w' := by
  simp only [kinds145, Bool.or_eq_false_iff] at h
  obtain ⟨⟨k1, k4⟩, k5⟩ := h
  have g1 : (((k : Nat) : Int) == 1) = false := beq_eq_false_iff_ne.2 (by have := beq_eq_false_iff_ne.1 k1; omega)
  have g4 : (((k : Nat) : Int) == 4) = false := beq_eq_false_iff_ne.2 (by have := beq_eq_false_iff_ne.1 k4; omega)
  have g5 : (((k : Nat) : Int) == 5) = false := beq_eq_false_iff_ne.2 (by have := beq_eq_false_iff_ne.1 k5; omega)
  clear k1 k4 k5
  have a0 := not_in hs [98, 114, 101, 97, 107] (by decide)
  have a1 := not_in hs [99, 111, 110, 116, 105, 110, 117, 101] (by decide)
  have a2 := not_in hs [114, 101, 116, 117, 114, 110] (by decide)
  have a3 := not_in hs [102, 97, 108, 108, 116, 104, 114, 111, 117, 103, 104] (by decide)
  have a4 := not_in hs [43, 43] (by decide)
  have a5 := not_in hs [45, 45] (by decide)
  have a6 := not_in hs [41] (by decide)
  have a7 := not_in hs [93] (by decide)
  have a8 := not_in hs [125] (by decide)
  clear hs
  go_enter Tryd.func74, Tryd.ntmps74
  go_wp2
  go_ret
  exact ⟨rfl, (Below.refl _ w).alloc (Nat.le_refl _) _⟩

theorem ends_break (k : Nat) (s : ByteArray) (a : Nat) (w : World) (h : kinds145 k = false) (hs : s.toList = [98, 114, 101, 97, 107]) : Calls Tryd.prog 74 #[.agg #[.int .i64 k, .string s, .int .i64 a]] w fun e w' => e = .returned (.bool true) ∧ Below w.heap.size w w' := by
  simp only [kinds145, Bool.or_eq_false_iff] at h
  obtain ⟨⟨k1, k4⟩, k5⟩ := h
  have g1 : (((k : Nat) : Int) == 1) = false := beq_eq_false_iff_ne.2 (by have := beq_eq_false_iff_ne.1 k1; omega)
  have g4 : (((k : Nat) : Int) == 4) = false := beq_eq_false_iff_ne.2 (by have := beq_eq_false_iff_ne.1 k4; omega)
  have g5 : (((k : Nat) : Int) == 5) = false := beq_eq_false_iff_ne.2 (by have := beq_eq_false_iff_ne.1 k5; omega)
  clear k1 k4 k5
  go_enter Tryd.func74, Tryd.ntmps74
  go_wp2
  go_ret
  exact ⟨rfl, (Below.refl _ w).alloc (Nat.le_refl _) _⟩

theorem ends_continue (k : Nat) (s : ByteArray) (a : Nat) (w : World) (h : kinds145 k = false) (hs : s.toList = [99, 111, 110, 116, 105, 110, 117, 101]) : Calls Tryd.prog 74 #[.agg #[.int .i64 k, .string s, .int .i64 a]] w fun e w' => e = .returned (.bool true) ∧ Below w.heap.size w w' := by
  simp only [kinds145, Bool.or_eq_false_iff] at h
  obtain ⟨⟨k1, k4⟩, k5⟩ := h
  have g1 : (((k : Nat) : Int) == 1) = false := beq_eq_false_iff_ne.2 (by have := beq_eq_false_iff_ne.1 k1; omega)
  have g4 : (((k : Nat) : Int) == 4) = false := beq_eq_false_iff_ne.2 (by have := beq_eq_false_iff_ne.1 k4; omega)
  have g5 : (((k : Nat) : Int) == 5) = false := beq_eq_false_iff_ne.2 (by have := beq_eq_false_iff_ne.1 k5; omega)
  clear k1 k4 k5
  go_enter Tryd.func74, Tryd.ntmps74
  go_wp2
  go_ret
  exact ⟨rfl, (Below.refl _ w).alloc (Nat.le_refl _) _⟩

theorem ends_return (k : Nat) (s : ByteArray) (a : Nat) (w : World) (h : kinds145 k = false) (hs : s.toList = [114, 101, 116, 117, 114, 110]) : Calls Tryd.prog 74 #[.agg #[.int .i64 k, .string s, .int .i64 a]] w fun e w' => e = .returned (.bool true) ∧ Below w.heap.size w w' := by
  simp only [kinds145, Bool.or_eq_false_iff] at h
  obtain ⟨⟨k1, k4⟩, k5⟩ := h
  have g1 : (((k : Nat) : Int) == 1) = false := beq_eq_false_iff_ne.2 (by have := beq_eq_false_iff_ne.1 k1; omega)
  have g4 : (((k : Nat) : Int) == 4) = false := beq_eq_false_iff_ne.2 (by have := beq_eq_false_iff_ne.1 k4; omega)
  have g5 : (((k : Nat) : Int) == 5) = false := beq_eq_false_iff_ne.2 (by have := beq_eq_false_iff_ne.1 k5; omega)
  clear k1 k4 k5
  go_enter Tryd.func74, Tryd.ntmps74
  go_wp2
  go_ret
  exact ⟨rfl, (Below.refl _ w).alloc (Nat.le_refl _) _⟩

theorem ends_fallthrough (k : Nat) (s : ByteArray) (a : Nat) (w : World) (h : kinds145 k = false) (hs : s.toList = [102, 97, 108, 108, 116, 104, 114, 111, 117, 103, 104]) : Calls Tryd.prog 74 #[.agg #[.int .i64 k, .string s, .int .i64 a]] w fun e w' => e = .returned (.bool true) ∧ Below w.heap.size w w' := by
  simp only [kinds145, Bool.or_eq_false_iff] at h
  obtain ⟨⟨k1, k4⟩, k5⟩ := h
  have g1 : (((k : Nat) : Int) == 1) = false := beq_eq_false_iff_ne.2 (by have := beq_eq_false_iff_ne.1 k1; omega)
  have g4 : (((k : Nat) : Int) == 4) = false := beq_eq_false_iff_ne.2 (by have := beq_eq_false_iff_ne.1 k4; omega)
  have g5 : (((k : Nat) : Int) == 5) = false := beq_eq_false_iff_ne.2 (by have := beq_eq_false_iff_ne.1 k5; omega)
  clear k1 k4 k5
  go_enter Tryd.func74, Tryd.ntmps74
  go_wp2
  go_ret
  exact ⟨rfl, (Below.refl _ w).alloc (Nat.le_refl _) _⟩

theorem ends_inc (k : Nat) (s : ByteArray) (a : Nat) (w : World) (h : kinds145 k = false) (hs : s.toList = [43, 43]) : Calls Tryd.prog 74 #[.agg #[.int .i64 k, .string s, .int .i64 a]] w fun e w' => e = .returned (.bool true) ∧ Below w.heap.size w w' := by
  simp only [kinds145, Bool.or_eq_false_iff] at h
  obtain ⟨⟨k1, k4⟩, k5⟩ := h
  have g1 : (((k : Nat) : Int) == 1) = false := beq_eq_false_iff_ne.2 (by have := beq_eq_false_iff_ne.1 k1; omega)
  have g4 : (((k : Nat) : Int) == 4) = false := beq_eq_false_iff_ne.2 (by have := beq_eq_false_iff_ne.1 k4; omega)
  have g5 : (((k : Nat) : Int) == 5) = false := beq_eq_false_iff_ne.2 (by have := beq_eq_false_iff_ne.1 k5; omega)
  clear k1 k4 k5
  go_enter Tryd.func74, Tryd.ntmps74
  go_wp2
  go_ret
  exact ⟨rfl, (Below.refl _ w).alloc (Nat.le_refl _) _⟩

theorem ends_dec (k : Nat) (s : ByteArray) (a : Nat) (w : World) (h : kinds145 k = false) (hs : s.toList = [45, 45]) : Calls Tryd.prog 74 #[.agg #[.int .i64 k, .string s, .int .i64 a]] w fun e w' => e = .returned (.bool true) ∧ Below w.heap.size w w' := by
  simp only [kinds145, Bool.or_eq_false_iff] at h
  obtain ⟨⟨k1, k4⟩, k5⟩ := h
  have g1 : (((k : Nat) : Int) == 1) = false := beq_eq_false_iff_ne.2 (by have := beq_eq_false_iff_ne.1 k1; omega)
  have g4 : (((k : Nat) : Int) == 4) = false := beq_eq_false_iff_ne.2 (by have := beq_eq_false_iff_ne.1 k4; omega)
  have g5 : (((k : Nat) : Int) == 5) = false := beq_eq_false_iff_ne.2 (by have := beq_eq_false_iff_ne.1 k5; omega)
  clear k1 k4 k5
  go_enter Tryd.func74, Tryd.ntmps74
  go_wp2
  go_ret
  exact ⟨rfl, (Below.refl _ w).alloc (Nat.le_refl _) _⟩

theorem ends_p (k : Nat) (s : ByteArray) (a : Nat) (w : World) (h : kinds145 k = false) (hs : s.toList = [41]) : Calls Tryd.prog 74 #[.agg #[.int .i64 k, .string s, .int .i64 a]] w fun e w' => e = .returned (.bool true) ∧ Below w.heap.size w w' := by
  simp only [kinds145, Bool.or_eq_false_iff] at h
  obtain ⟨⟨k1, k4⟩, k5⟩ := h
  have g1 : (((k : Nat) : Int) == 1) = false := beq_eq_false_iff_ne.2 (by have := beq_eq_false_iff_ne.1 k1; omega)
  have g4 : (((k : Nat) : Int) == 4) = false := beq_eq_false_iff_ne.2 (by have := beq_eq_false_iff_ne.1 k4; omega)
  have g5 : (((k : Nat) : Int) == 5) = false := beq_eq_false_iff_ne.2 (by have := beq_eq_false_iff_ne.1 k5; omega)
  clear k1 k4 k5
  go_enter Tryd.func74, Tryd.ntmps74
  go_wp2
  go_ret
  exact ⟨rfl, (Below.refl _ w).alloc (Nat.le_refl _) _⟩

theorem ends_q (k : Nat) (s : ByteArray) (a : Nat) (w : World) (h : kinds145 k = false) (hs : s.toList = [93]) : Calls Tryd.prog 74 #[.agg #[.int .i64 k, .string s, .int .i64 a]] w fun e w' => e = .returned (.bool true) ∧ Below w.heap.size w w' := by
  simp only [kinds145, Bool.or_eq_false_iff] at h
  obtain ⟨⟨k1, k4⟩, k5⟩ := h
  have g1 : (((k : Nat) : Int) == 1) = false := beq_eq_false_iff_ne.2 (by have := beq_eq_false_iff_ne.1 k1; omega)
  have g4 : (((k : Nat) : Int) == 4) = false := beq_eq_false_iff_ne.2 (by have := beq_eq_false_iff_ne.1 k4; omega)
  have g5 : (((k : Nat) : Int) == 5) = false := beq_eq_false_iff_ne.2 (by have := beq_eq_false_iff_ne.1 k5; omega)
  clear k1 k4 k5
  go_enter Tryd.func74, Tryd.ntmps74
  go_wp2
  go_ret
  exact ⟨rfl, (Below.refl _ w).alloc (Nat.le_refl _) _⟩

theorem ends_r (k : Nat) (s : ByteArray) (a : Nat) (w : World) (h : kinds145 k = false) (hs : s.toList = [125]) : Calls Tryd.prog 74 #[.agg #[.int .i64 k, .string s, .int .i64 a]] w fun e w' => e = .returned (.bool true) ∧ Below w.heap.size w w' := by
  simp only [kinds145, Bool.or_eq_false_iff] at h
  obtain ⟨⟨k1, k4⟩, k5⟩ := h
  have g1 : (((k : Nat) : Int) == 1) = false := beq_eq_false_iff_ne.2 (by have := beq_eq_false_iff_ne.1 k1; omega)
  have g4 : (((k : Nat) : Int) == 4) = false := beq_eq_false_iff_ne.2 (by have := beq_eq_false_iff_ne.1 k4; omega)
  have g5 : (((k : Nat) : Int) == 5) = false := beq_eq_false_iff_ne.2 (by have := beq_eq_false_iff_ne.1 k5; omega)
  clear k1 k4 k5
  go_enter Tryd.func74, Tryd.ntmps74
  go_wp2
  go_ret
  exact ⟨rfl, (Below.refl _ w).alloc (Nat.le_refl _) _⟩

theorem endsLine_any (t : Tk) (w : World) : Calls Tryd.prog 74 #[t.val] w fun e w' => e = .returned (.bool (endsB t)) ∧ Below w.heap.size w w' := by
  obtain ⟨k, s, a⟩ := t
  unfold Tk.val endsB
  cases h : kinds145 k
  · cases hs : enders.contains s.toList
    · exact ends_none k s a w h hs
    · have hm := mem_contains hs
      simp only [enders, List.mem_cons, List.not_mem_nil, or_false] at hm
      rcases hm with hm | hm | hm | hm | hm | hm | hm | hm | hm
      · exact ends_break k s a w h hm
      · exact ends_continue k s a w h hm
      · exact ends_return k s a w h hm
      · exact ends_fallthrough k s a w h hm
      · exact ends_inc k s a w h hm
      · exact ends_dec k s a w h hm
      · exact ends_p k s a w h hm
      · exact ends_q k s a w h hm
      · exact ends_r k s a w h hm
  · exact ends_kind k s a w h
end Go.Proofs.YtijinpnbhnfiiaaDoor
