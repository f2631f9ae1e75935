/- package big: rows of digits in memory; at, cut, compare. -/
import Derived.Test.YtpdkebljacmgfaaDoorBigT
import Derived.Test.YtpdkebljacmgfaaDoorRows
import Derived.WalkKit
import Derived.WalkSmall
import Derived.WalkSpells
import Derived.WalkLawsBesides
import Derived.Below
import Derived.Lib.Hide
import Derived.ProofKit
import Derived.Outline
import Derived.OneCell
import Derived.Laws.OwnMore
import Derived.BigQuiet
import Derived.Deep.QuietTactic
namespace Go.Proofs.YtpdkebljacmgfaaDoor
open Go.RowKit
set_option linter.unusedVariables false

/-- A block of digits. -/
def Held (w : World) (b : Nat) (cur : Array Value) : Prop := w.heap[b]? = some (.cells cur 59 (0, 0))
def DigsIn (cur : Array Value) (o : Nat) (l : List Nat) : Prop := ∀ i, i < l.length → cur[o + i]? = some (.int .u64 (l.getD i 0))
/-- Digits stand at an address. -/
def RowAt (w : World) (a : Option Addr) (l : List Nat) : Prop := l = [] ∨ ∃ b o cur, a = some ⟨b, o, none⟩ ∧ Held w b cur ∧ DigsIn cur o l
theorem Held.lt {w : World} {b : Nat} {cur : Array Value} (h : Held w b cur) : b < w.heap.size := lt_of_block h
theorem Held.below {w W : World} {b B : Nat} {cur : Array Value} (h : Held w b cur) (hb : Below B w W) (hB : b < B) : Held W b cur := (hb.block b hB).trans h
theorem RowAt.below {w W : World} {a : Option Addr} {l : List Nat} (h : RowAt w a l) (hb : Below w.heap.size w W) : RowAt W a l := by
  rcases h with h | ⟨b, o, cur, rfl, h1, h2⟩
  · exact .inl h
  · exact .inr ⟨b, o, cur, rfl, h1.below hb h1.lt, h2⟩
theorem Held.cell {w : World} {b o : Nat} {cur : Array Value} {l : List Nat} (h : Held w b cur) (hd : DigsIn cur o l) (i : Nat) (hi : i < l.length) : w.cell? ⟨b, o + i, none⟩ = some (.int .u64 (l.getD i 0)) := by
  have := hd i hi
  have hh : w.heap[b]? = _ := h
  simp [World.cell?, hh, this]
theorem Held.free {w : World} {b : Nat} {cur : Array Value} (h : Held w b cur) (i : Nat) : w.frozen? ⟨b, i, none⟩ = false := by
  have hh : w.heap[b]? = _ := h
  simp [World.frozen?, hh]

theorem at_any (l : List Nat) (a : Option Addr) (cap k : Nat) (w : World) (hr : RowAt w a l) (hc : l.length ≤ 1000000) :
    Calls Tryd.prog 69 #[.slice a l.length cap, .int .i64 k] w fun e w' => e = .returned (.int .u64 (l.getD k 0)) ∧ w = w' := by
  by_cases hk : k < l.length
  · rcases hr with rfl | ⟨b, o, cur, rfl, h1, h2⟩
    · cases hk
    have c := h1.cell h2 k hk
    generalize l.getD k 0 = x at *
    generalize l.length = n at *
    clear h2 h1
    go_enter Tryd.func69, Tryd.ntmps69
    go_wp2
    go_ret
    exact ⟨rfl, rfl⟩
  · have e : l.getD k 0 = 0 := by rw [List.getD_eq_getElem?_getD, List.getElem?_eq_none (by omega)]; rfl
    rw [e]
    clear e hr
    generalize l.length = n at *
    go_enter Tryd.func69, Tryd.ntmps69
    go_wp2
    go_ret
    exact ⟨rfl, rfl⟩

/-- How many digits stay when those that are 0 at the high end are cut off. -/
def cutN (l : List Nat) : Nat → Nat
  | 0 => 0
  | k + 1 => if l.getD k 0 = 0 then cutN l k else k + 1
theorem cutN_le (l : List Nat) : ∀ k, cutN l k ≤ k
  | 0 => Nat.le_refl _
  | k + 1 => by rw [cutN]; split; exact Nat.le_succ_of_le (cutN_le l k); exact Nat.le_refl _
theorem cutN_top (l : List Nat) : ∀ k, cutN l k = 0 ∨ l.getD (cutN l k - 1) 0 ≠ 0
  | 0 => .inl rfl
  | k + 1 => by
    rw [cutN]
    split
    · exact cutN_top l k
    · rename_i h; exact .inr h
theorem cutN_zero (l : List Nat) : ∀ k i, cutN l k ≤ i → i < k → l.getD i 0 = 0
  | 0, i, _, h => by omega
  | k + 1, i, h, hi => by
    rw [cutN] at h
    split at h
    · rename_i h0
      rcases Nat.lt_or_ge i k with h' | h'
      · exact cutN_zero l k i h h'
      · rw [show i = k by omega]; exact h0
    · omega
/-- What is left. -/
theorem cutN_dgs {l : List Nat} (h : Dgs l) : l.take (cutN l l.length) = dgs (val l) := by
  refine cut_dgs h (cutN_le _ _) (cutN_top _ _) fun i hi => ?_
  rcases Nat.lt_or_ge i l.length with h' | h'
  · exact cutN_zero l l.length i hi h'
  · rw [List.getD_eq_getElem?_getD, List.getElem?_eq_none h']; rfl
theorem cutN_len {l : List Nat} (h : Dgs l) : cutN l l.length = (dgs (val l)).length := by
  rw [← cutN_dgs h, List.length_take, Nat.min_eq_left (cutN_le _ _)]
theorem DigsIn.take {cur : Array Value} {o : Nat} {l : List Nat} (h : DigsIn cur o l) (k : Nat) : DigsIn cur o (l.take k) := fun i hi => by
  rw [List.length_take] at hi
  rw [h i (by omega), List.getD_eq_getElem?_getD, List.getD_eq_getElem?_getD, List.getElem?_take_of_lt (by omega)]
theorem RowAt.take {w : World} {a : Option Addr} {l : List Nat} (h : RowAt w a l) (k : Nat) : RowAt w a (l.take k) := by
  rcases h with rfl | ⟨b, o, cur, rfl, h1, h2⟩
  · exact .inl (by simp)
  · exact .inr ⟨b, o, cur, rfl, h1, h2.take k⟩

set_option maxHeartbeats 1000000 in
theorem cut_any (l : List Nat) (a : Option Addr) (cap : Nat) (w : World) (hr : RowAt w a l) (hd : Dgs l) (hc : l.length ≤ cap) (hm : l.length ≤ 1000000) :
    Calls Tryd.prog 48 #[.slice a l.length cap] w fun e w' => e = .returned (.slice a (dgs (val l)).length (dgs (val l)).length) ∧ RowAt w a (dgs (val l)) ∧ w = w' := by
  have HT : Hid (RowAt w a (dgs (val l))) := by
    show RowAt _ _ _
    rw [← cutN_dgs hd]
    exact hr.take _
  have hcl := cutN_len hd
  rw [← hcl]
  have hle := cutN_le l l.length
  have HC := Lib.hid hcl
  clear hcl
  obtain ⟨r, hres⟩ : ∃ r, r = cutN l l.length := ⟨_, rfl⟩
  rw [← hres] at hle ⊢
  obtain ⟨n, hn⟩ : ∃ n, n = l.length := ⟨_, rfl⟩
  rw [← hn] at hc hle hres hm ⊢
  have HN := Lib.hid hn
  have HR := Lib.hid hres
  have HRow := Lib.hid hr
  clear hn hres hr HC
  go_enter Tryd.func48, Tryd.ntmps48
  go_wp2
  go_loop [3] (fun v => ∃ k : Nat, v = .int .i64 k ∧ k ≤ n ∧ Hid (cutN l k = r)) (fun v => (intOf v).toNat)
  case atStart => exact ⟨n, rfl, Nat.le_refl _, HR.out.symm⟩
  case round =>
    obtain ⟨k, rfl, hk, HK⟩ := hrel
    cases k with
    | zero =>
      have h0 : 0 = r := HK.out
      subst h0
      go_wp2
      go_ret
      exact ⟨rfl, HT.out, rfl⟩
    | succ k =>
      have hcell : ∃ b o, a = some ⟨b, o, none⟩ ∧ w.cell? ⟨b, o + k, none⟩ = some (.int .u64 (l.getD k 0)) := by
        rcases HRow.out with h' | ⟨b, o, cur, e, h1, h2⟩
        · have := HN.out; rw [h'] at this; simp at this; omega
        · exact ⟨b, o, e, h1.cell h2 k (by rw [← HN.out]; omega)⟩
      obtain ⟨b, o, rfl, c⟩ := hcell
      have e := HK.out
      rw [cutN] at e
      generalize l.getD k 0 = x at *
      by_cases hx : x = 0
      · subst hx
        rw [if_pos rfl] at e
        have HE := Lib.hid e
        clear e HK
        go_wp2
        go_round
        case rel => exact ⟨k, by go_num, by omega, HE.out⟩
        case measure => simp [intOf]
      · rw [if_neg hx] at e
        subst e
        have g : (((x : Nat) : Int) == 0) = false := beq_eq_false_iff_ne.2 (by omega)
        clear HK
        go_wp2
        go_ret
        exact ⟨rfl, HT.out, rfl⟩
end Go.Proofs.YtpdkebljacmgfaaDoor
