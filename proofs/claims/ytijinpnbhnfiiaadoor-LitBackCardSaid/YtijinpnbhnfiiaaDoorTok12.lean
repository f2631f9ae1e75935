/- package token: scan: what goes wrong, and where. -/
import Derived.Test.YtijinpnbhnfiiaaDoorTok11
import Derived.Defers
import Derived.Recover
import Derived.Laws.Pointers
import Derived.RegionTactic
import Derived.BigRegion
import Derived.Outline
namespace Go.Proofs.YtijinpnbhnfiiaaDoor
open Go.RowKit Go.Joins
set_option linter.unusedVariables false

theorem hta_nil (w : World) : (Instr.typeAssert .nilIface 20 74 true).run Tryd.prog w = .ok (.tuple #[.agg #[.int .i64 0], .bool false]) w := by kernel_rfl
theorem hta_fault (p : Nat) (w : World) : (Instr.typeAssert (.iface 74 (.agg #[.int .i64 p])) 20 74 true).run Tryd.prog w = .ok (.tuple #[.agg #[.int .i64 p], .bool true]) w := by kernel_rfl

theorem fault_end {W : World} {b c d p : Nat} {s0 a0 x0 y0 : Value} {i0 j0 : Int} (hb : W.heap[b]? = some (.cells #[s0, a0, x0, y0] 55 (0, 0))) (hc : W.heap[c]? = some (.cells #[.int .i64 i0] 3 (0, 0))) (hd : W.heap[d]? = some (.cells #[.int .i64 j0] 22 (0, 0))) (hbc : b < c) (hcd : c < d) (X : World)
    (hX : X = ((((((W.setCell ⟨b, 0, none⟩ (.string ⟨#[]⟩)).setCell ⟨b, 1, none⟩ (.int .i64 0)).setCell ⟨b, 2, none⟩ (.slice none 0 0)).setCell ⟨b, 3, none⟩ (.slice none 0 0)).setCell ⟨c, 0, none⟩ (.int .i64 p)).setCell ⟨d, 0, none⟩ (.int .i64 3)).drew) :
    X.heap[b]? = some (.cells #[.string ⟨#[]⟩, .int .i64 0, .slice none 0 0, .slice none 0 0] 55 (0, 0)) ∧ X.heap[c]? = some (.cells #[.int .i64 p] 3 (0, 0)) ∧ X.heap[d]? = some (.cells #[.int .i64 3] 22 (0, 0)) ∧ (∀ n0, n0 ≤ b → Below n0 W X) := by
  subst hX
  rw [show ∀ Y : World, Y.drew.heap = Y.heap from fun _ => rfl]
  have e1 := block_setCell (block_setCell (block_setCell (block_setCell hb (i := 0) (.string ⟨#[]⟩)) (i := 1) (.int .i64 0)) (i := 2) (.slice none 0 0)) (i := 3) (.slice none 0 0)
  refine ⟨?_, ?_, ?_, fun n0 h => ?_⟩
  · rw [Below.heap_setCell _ _ _ _ (by show b ≠ d; omega), Below.heap_setCell _ _ _ _ (by show b ≠ c; omega)]
    exact e1
  · rw [Below.heap_setCell _ _ _ _ (by show c ≠ d; omega)]
    refine one_setCell (v := .int .i64 i0) ?_
    rw [Below.heap_setCell _ _ _ _ (by show c ≠ b; omega), Below.heap_setCell _ _ _ _ (by show c ≠ b; omega), Below.heap_setCell _ _ _ _ (by show c ≠ b; omega), Below.heap_setCell _ _ _ _ (by show c ≠ b; omega)]
    exact hc
  · refine one_setCell (v := .int .i64 j0) ?_
    rw [Below.heap_setCell _ _ _ _ (by show d ≠ c; omega), Below.heap_setCell _ _ _ _ (by show d ≠ b; omega), Below.heap_setCell _ _ _ _ (by show d ≠ b; omega), Below.heap_setCell _ _ _ _ (by show d ≠ b; omega), Below.heap_setCell _ _ _ _ (by show d ≠ b; omega)]
    exact hd
  · exact (((((((Below.refl n0 W).setCell (p := ⟨b, 0, none⟩) h _).setCell (p := ⟨b, 1, none⟩) h _).setCell (p := ⟨b, 2, none⟩) h _).setCell (p := ⟨b, 3, none⟩) h _).setCell (p := ⟨c, 0, none⟩) (by show n0 ≤ c; omega) _).setCell (p := ⟨d, 0, none⟩) (by show n0 ≤ d; omega) _).drew

theorem catch_idle (b c d : Nat) (w : World) :
    CallsD Tryd.prog 42 #[.pointer (some ⟨b, 0, none⟩), .pointer (some ⟨c, 0, none⟩), .pointer (some ⟨d, 0, none⟩)] .returning w fun e u' w' => e = .returned (.tuple #[]) ∧ u' = .returning ∧ Below w.heap.size w w' := by
  refine callsD_of_wpS Tryd.func42 rfl fun c₀ cs hu => ?_
  have hta := hta_nil
  apply wpS_seq
  apply wpS_region
  simp [wpOpsS, go_sem, recoverD, hu, Tryd.ntmps42, Exit.thenS]
  refine wpS_of_wp ?_
  simp only [Array.replicate_succ, Array.replicate_zero, List.push_toArray, List.append_toArray, List.nil_append, List.cons_append, List.setIfInBounds_toArray, List.set_cons_succ, List.set_cons_zero]
  go_wp2
  cases c₀
  simp_all [bodyPostS, results, Tryd.results42]
  exact (Below.refl _ w).alloc (Nat.le_refl _) _

set_option maxHeartbeats 1000000 in
theorem catch_fault (b c d p : Nat) (w : World) (s0 a0 x0 y0 : Value) (i0 j0 : Int) (hb : w.heap[b]? = some (.cells #[s0, a0, x0, y0] 55 (0, 0))) (hc : w.heap[c]? = some (.cells #[.int .i64 i0] 3 (0, 0))) (hd : w.heap[d]? = some (.cells #[.int .i64 j0] 22 (0, 0))) (hbc : b < c) (hcd : c < d) :
    CallsD Tryd.prog 42 #[.pointer (some ⟨b, 0, none⟩), .pointer (some ⟨c, 0, none⟩), .pointer (some ⟨d, 0, none⟩)] (.panicking [{ v := .iface 74 (.agg #[.int .i64 p]), recovered := false }]) w fun e u' w' =>
      e = .returned (.tuple #[]) ∧ u' = .panicking [{ v := .iface 74 (.agg #[.int .i64 p]), recovered := true }] ∧ w'.heap[b]? = some (.cells #[.string ⟨#[]⟩, .int .i64 0, .slice none 0 0, .slice none 0 0] 55 (0, 0)) ∧ w'.heap[c]? = some (.cells #[.int .i64 p] 3 (0, 0)) ∧ w'.heap[d]? = some (.cells #[.int .i64 3] 22 (0, 0)) ∧ (∀ n0, n0 ≤ b → Below n0 w w') := by
  refine callsD_of_wpS Tryd.func42 rfl fun c₀ cs hu => ?_
  have hta := hta_fault p
  apply wpS_seq
  apply wpS_region
  simp [wpOpsS, go_sem, recoverD, hu, Tryd.ntmps42, Exit.thenS]
  refine wpS_of_wp ?_
  simp only [Array.replicate_succ, Array.replicate_zero, List.push_toArray, List.append_toArray, List.nil_append, List.cons_append, List.setIfInBounds_toArray, List.set_cons_succ, List.set_cons_zero]
  go_wp2
  have hr : d < w.heap.size := lt_of_block hd
  have hb1 := (Below.heap_alloc w (.cells #[.int .i64 p] 74) b (by omega)).trans hb
  have hc1 := (Below.heap_alloc w (.cells #[.int .i64 p] 74) c (by omega)).trans hc
  have hd1 := (Below.heap_alloc w (.cells #[.int .i64 p] 74) d (by omega)).trans hd
  have hr1 := heap_alloc_new w (.cells #[.int .i64 p] 74)
  have HW := Lib.hid (fun n0 (h : n0 ≤ w.heap.size) => (Below.refl n0 w).alloc h (.cells #[.int .i64 p] 74))
  generalize w.alloc (.cells #[.int .i64 p] 74) = W at *
  generalize w.heap.size = r at *
  clear hb hc hd
  have kb : ∀ o, W.frozen? ⟨b, o, none⟩ = false := fun o => by simp [World.frozen?, hb1]
  have kc : W.frozen? ⟨c, 0, none⟩ = false := by simp [World.frozen?, hc1]
  have kd : W.frozen? ⟨d, 0, none⟩ = false := by simp [World.frozen?, hd1]
  have b0 : W.cell? ⟨b, 0, none⟩ = some s0 := by simp [World.cell?, hb1]
  have b1 : W.cell? ⟨b, 1, none⟩ = some a0 := by simp [World.cell?, hb1]
  have b2 : W.cell? ⟨b, 2, none⟩ = some x0 := by simp [World.cell?, hb1]
  have b3 : W.cell? ⟨b, 3, none⟩ = some y0 := by simp [World.cell?, hb1]
  have c0' : W.cell? ⟨c, 0, none⟩ = some (.int .i64 i0) := by simp [World.cell?, hc1]
  have d0 : W.cell? ⟨d, 0, none⟩ = some (.int .i64 j0) := by simp [World.cell?, hd1]
  have r0 : W.cell? ⟨r, 0, none⟩ = some (.int .i64 p) := by simp [World.cell?, hr1]
  have n1 : b ≠ c := by omega
  have n2 : b ≠ d := by omega
  have n3 : b ≠ r := by omega
  have n4 : c ≠ d := by omega
  have n5 : c ≠ r := by omega
  have n6 : d ≠ r := by omega
  have HB := Lib.hid hb1
  have HC := Lib.hid hc1
  have HD := Lib.hid hd1
  clear hb1 hc1 hd1 hr1
  go_region
  all_goals
    refine ⟨rfl, .panicking [{ v := .iface 74 (.agg #[.int .i64 p]), recovered := true }], rfl, .tuple #[], results_none rfl _ _ _, rfl, rfl, ?_⟩
    obtain ⟨q1, q2, q3, q4⟩ := fault_end (p := p) HB.out HC.out HD.out hbc hcd _ rfl
    exact ⟨q1, q2, q3, fun n0 h => (HW.out n0 (by omega)).trans (q4 n0 h)⟩
end Go.Proofs.YtijinpnbhnfiiaaDoor
