/- package tag: whole, in its fence; Read. -/
import Derived.Test.YtojdhlmmnhjolaaDoorTag11
import Derived.Defers
import Derived.Recover
import Derived.Laws.Pointers
import Derived.RegionTactic
import Derived.BigRegion
namespace Go.Proofs.YtojdhlmmnhjolaaDoor
open Go.RowKit
set_option linter.unusedVariables false

theorem wta_nil (w : World) : (Instr.typeAssert .nilIface 20 62 true).run Tryd.prog w = .ok (.tuple #[.agg #[], .bool false]) w := by kernel_rfl
theorem wta_wrong (w : World) : (Instr.typeAssert (.iface 62 (.agg #[])) 20 62 true).run Tryd.prog w = .ok (.tuple #[.agg #[], .bool true]) w := by kernel_rfl

/-- The two results laid anew. -/
theorem put4 {W : World} {b c : Nat} {x0 y0 z0 e0 : Value} (x1 y1 z1 e1 : Value) {tb tc : TypeId} (hb : W.heap[b]? = some (.cells #[x0, y0, z0] tb (0, 0))) (hc : W.heap[c]? = some (.cells #[e0] tc (0, 0))) (hbc : b < c) (X : World)
    (hX : X = (((W.setCell ⟨b, 0, none⟩ x1).setCell ⟨b, 1, none⟩ y1).setCell ⟨b, 2, none⟩ z1).setCell ⟨c, 0, none⟩ e1) :
    X.heap[b]? = some (.cells #[x1, y1, z1] tb (0, 0)) ∧ X.heap[c]? = some (.cells #[e1] tc (0, 0)) ∧ (∀ n0, n0 ≤ b → Below n0 W X) ∧ X.heap.size = W.heap.size ∧ ∀ i, i ≠ b → i ≠ c → X.heap[i]? = W.heap[i]? := by
  subst hX
  have hne : ∀ i, i ≠ b → (((W.setCell ⟨b, 0, none⟩ x1).setCell ⟨b, 1, none⟩ y1).setCell ⟨b, 2, none⟩ z1).heap[i]? = W.heap[i]? := fun i hi =>
    ((Below.heap_setCell _ ⟨b, 2, none⟩ _ i (by exact hi)).trans (Below.heap_setCell _ ⟨b, 1, none⟩ _ i (by exact hi))).trans (Below.heap_setCell _ ⟨b, 0, none⟩ _ i (by exact hi))
  refine ⟨?_, ?_, fun n0 h => ((((Below.refl n0 W).setCell (p := ⟨b, 0, none⟩) h _).setCell (p := ⟨b, 1, none⟩) h _).setCell (p := ⟨b, 2, none⟩) h _).setCell (p := ⟨c, 0, none⟩) (by show n0 ≤ c; omega) _, by simp [World.setCell], fun i h1 h2 => (Below.heap_setCell _ ⟨c, 0, none⟩ _ i (by exact h2)).trans (hne i h1)⟩
  · rw [Below.heap_setCell _ _ _ _ (by show b ≠ c; omega)]
    exact three_set hb
  · refine one_set (x := e0) ?_
    exact (hne c (by omega)).trans hc

set_option maxRecDepth 100000 in
theorem wcatch_idle (b c : Nat) (w : World) :
    CallsD Tryd.prog 37 #[.pointer (some ⟨b, 0, none⟩), .pointer (some ⟨c, 0, none⟩)] .returning w fun e u' w' => e = .returned (.tuple #[]) ∧ u' = .returning ∧ Below w.heap.size w w' := by
  refine callsD_of_wpS Tryd.func37 rfl fun c₀ cs hu => ?_
  have hta := wta_nil
  apply wpS_seq
  apply wpS_region
  simp [wpOpsS, go_sem, recoverD, hu, Tryd.ntmps37, Exit.thenS]
  refine wpS_of_wp ?_
  simp only [Array.replicate_succ, Array.replicate_zero, List.push_toArray, List.append_toArray, List.nil_append, List.cons_append, List.setIfInBounds_toArray, List.set_cons_succ, List.set_cons_zero]
  go_wp2
  cases c₀
  simp_all [bodyPostS, results, Tryd.results37]
  exact (Below.refl _ w).alloc (Nat.le_refl _) _

set_option maxHeartbeats 3000000 in
set_option maxRecDepth 100000 in
theorem wcatch_wrong (b c : Nat) (w : World) (x0 y0 z0 e0 : Value) (hb : w.heap[b]? = some (.cells #[x0, y0, z0] 29 (0, 0))) (hc : w.heap[c]? = some (.cells #[e0] 39 (0, 0))) (hbc : b < c) :
    CallsD Tryd.prog 37 #[.pointer (some ⟨b, 0, none⟩), .pointer (some ⟨c, 0, none⟩)] (.panicking [{ v := .iface 62 (.agg #[]), recovered := false }]) w fun e u' w' =>
      e = .returned (.tuple #[]) ∧ u' = .panicking [{ v := .iface 62 (.agg #[]), recovered := true }] ∧ w'.heap[b]? = some (.cells #[.string ⟨#[]⟩, .string ⟨#[]⟩, .slice none 0 0] 29 (0, 0)) ∧ w'.heap[c]? = some (.cells #[.int .i64 8] 39 (0, 0)) ∧ (∀ n0, n0 ≤ b → Below n0 w w') := by
  refine callsD_of_wpS Tryd.func37 rfl fun c₀ cs hu => ?_
  have hta := wta_wrong
  apply wpS_seq
  apply wpS_region
  simp [wpOpsS, go_sem, recoverD, hu, Tryd.ntmps37, Exit.thenS]
  refine wpS_of_wp ?_
  simp only [Array.replicate_succ, Array.replicate_zero, List.push_toArray, List.append_toArray, List.nil_append, List.cons_append, List.setIfInBounds_toArray, List.set_cons_succ, List.set_cons_zero]
  have hlb := lt_of_block hb
  have hlc := lt_of_block hc
  have hb1 := (Below.heap_alloc w (.cells #[] 62) b (by omega)).trans hb
  have hc1 := (Below.heap_alloc w (.cells #[] 62) c (by omega)).trans hc
  obtain ⟨⟨p0, p1, p2⟩, s0, s1, s2⟩ := three_cells hb1
  obtain ⟨c0, fc⟩ := one_cell hc1
  obtain ⟨⟨p0', p1', p2'⟩, s0', s1', s2'⟩ := three_cells hb
  obtain ⟨c0', fc'⟩ := one_cell hc
  have nbc : b ≠ c := by omega
  have nbw : w.heap.size ≠ b := by omega
  have ncw : w.heap.size ≠ c := by omega
  have HB0 := Lib.hid hb
  have HC0 := Lib.hid hc
  clear hb1 hc1 hb hc
  go_wp2
  obtain ⟨q1, q2, q3, q4, -⟩ := put4 (.string ⟨#[]⟩) (.string ⟨#[]⟩) (.slice none 0 0) (.int .i64 8) HB0.out HC0.out hbc _ rfl
  refine ⟨rfl, .panicking [{ v := .iface 62 (.agg #[]), recovered := true }], rfl, .tuple #[], results_none rfl _ _ _, rfl, rfl, ?_⟩
  exact ⟨(Below.heap_alloc _ _ b (by rw [q4]; omega)).trans q1, (Below.heap_alloc _ _ c (by rw [q4]; omega)).trans q2, fun n0 h => (q3 n0 h).alloc (by rw [q4]; omega) _⟩

theorem whole_results (tmps : Array Value) (W : World) (b c : Nat) (x y z : Value) (e : Int) (h2 : tmps.getD 2 undef = .pointer (some ⟨b, 0, none⟩)) (h3 : tmps.getD 3 undef = .pointer (some ⟨c, 0, none⟩))
    (hb : W.heap[b]? = some (.cells #[x, y, z] 29 (0, 0))) (hc : W.heap[c]? = some (.cells #[.int .i64 e] 39 (0, 0))) :
    (results Tryd.f30 tmps).run Tryd.prog W = .ok (.tuple #[.agg #[x, y, z], .int .i64 e]) W := by
  have k2 : tmps[2]?.getD undef = .pointer (some ⟨b, 0, none⟩) := by simpa using h2
  have k3 : tmps[3]?.getD undef = .pointer (some ⟨c, 0, none⟩) := by simpa using h3
  obtain ⟨⟨c0, c1, c2⟩, -⟩ := three_cells hb
  have c3 := (one_cell hc).1
  simp [results, Tryd.results30, k2, k3, asAddr, go_sem, c0, c1, c2, c3]
def zE : Value := .agg #[.string ⟨#[]⟩, .string ⟨#[]⟩, .slice none 0 0]
/-- What a reading ends with. -/
def Gives (r : Option Ex) (c : Int) (w : World) (e : Ending) (w' : World) : Prop := Below w.heap.size w w' ∧ match r with
  | some x => ∃ v, e = .returned (.tuple #[v, .int .i64 0]) ∧ ExtAt w' (fun k => w.heap.size ≤ k) x v
  | none => e = .returned (.tuple #[.agg #[.string ⟨#[]⟩, .string ⟨#[]⟩, .slice none 0 0], .int .i64 c])
theorem three_laid (w : World) (o1 o2 o3 : Obj) : (((w.alloc o1).alloc o2).alloc o3).heap[w.heap.size]? = some o1 ∧ (((w.alloc o1).alloc o2).alloc o3).heap[w.heap.size + 1]? = some o2 ∧ (((w.alloc o1).alloc o2).alloc o3).heap[w.heap.size + 2]? = some o3 ∧ Below w.heap.size w (((w.alloc o1).alloc o2).alloc o3) ∧ (((w.alloc o1).alloc o2).alloc o3).heap.size = w.heap.size + 3 := by
  have s1 : (w.alloc o1).heap.size = w.heap.size + 1 := by simp
  have s2 : ((w.alloc o1).alloc o2).heap.size = w.heap.size + 2 := by simp
  refine ⟨?_, ?_, ?_, (((Below.refl _ w).alloc (Nat.le_refl _) _).alloc (by omega) _).alloc (by omega) _, by simp⟩
  · rw [Below.heap_alloc _ _ _ (by omega), Below.heap_alloc _ _ _ (by omega)]
    exact heap_alloc_new w o1
  · rw [Below.heap_alloc _ _ _ (by omega), ← s1]
    exact heap_alloc_new _ o2
  · rw [← s2]
    exact heap_alloc_new _ o3

set_option maxHeartbeats 2000000 in
set_option maxRecDepth 100000 in
theorem whole_any (s : ByteArray) (w : World) (hs : s.size ≤ 500) :
    Calls Tryd.prog 30 #[.string s] w fun e w' => Gives (wholeL (ls s)) 8 w e w' := by
  have hmf : ∀ (fn : Fn) (first cap : Array Value) (w : World), (Instr.makeFunc fn first cap).run Tryd.prog w = .ok (.func fn first cap) w := fun _ _ _ _ => rfl
  obtain ⟨h1, h2, h3, hb3, hz3⟩ := three_laid w (.cells #[.string ⟨#[]⟩, .string ⟨#[]⟩, .slice none 0 0] 29) (.cells #[.int .i64 0] 39) (.cells #[.string s] 65)
  have c1 := read_any (w.heap.size + 2) s _ (by omega) h3
  have hlen : (ls s).length = s.size := ls_len s
  rw [← hlen] at c1
  have HB3 := Lib.hid hb3
  have HZ3 := Lib.hid hz3
  have H1 := Lib.hid h1
  have H2 := Lib.hid h2
  clear h1 h2 h3 hb3 hz3 hlen
  cases hp : orP (factorF ((ls s).length + 1)) (ls s) with
  | none =>
    have HW : Hid (wholeL (ls s) = none) := by show _ = _; unfold wholeL; rw [hp]
    rw [hp] at c1
    clear hp
    go_enter_defers Tryd.func30, Tryd.ntmps30
    go_wp2_with fail
    refine c1.mono ?_
    rintro e w4 ⟨hb4, he⟩
    obtain rfl : e = _ := he
    have g1 : w4.heap[w.heap.size]? = _ := (hb4.block _ (by rw [HZ3.out]; omega) (by omega)).trans H1.out
    have g2 : w4.heap[w.heap.size + 1]? = _ := (hb4.block _ (by rw [HZ3.out]; omega) (by omega)).trans H2.out
    have G1 := Lib.hid g1
    have G2 := Lib.hid g2
    have HB4 := Lib.hid (HB3.out.trans (hb4.below (B := w.heap.size) (by omega) (by rw [HZ3.out]; omega)))
    clear g1 g2 hb4 c1
    go_wp2
    refine leaves_cons (f := 37) (args := #[.pointer (some ⟨w.heap.size, 0, none⟩), .pointer (some ⟨w.heap.size + 1, 0, none⟩)]) (by simp) (by simp [go_sem]) ?_
    refine (wcatch_wrong _ _ w4 _ _ _ _ G1.out G2.out (by omega)).mono ?_
    rintro e u' w8 ⟨rfl, rfl, q1, q2, q4⟩
    refine ⟨_, whole_results _ _ w.heap.size (w.heap.size + 1) _ _ _ _ rfl rfl q1 q2, ?_⟩
    rw [HW.out]
    exact ⟨HB4.out.trans (q4 _ (Nat.le_refl _)), rfl⟩
  | some y =>
    obtain ⟨x, r⟩ := y
    rw [hp] at c1
    have hsm := orP_small _ _ _ _ hp (by rw [ls_len]; omega)
    have HSM := Lib.hid hsm
    have HP := Lib.hid hp
    clear hp hsm
    by_cases hr : r = []
    · subst hr
      obtain ⟨o1, t1, k1⟩ := x
      cases hri : rightE 100 (.mk o1 t1 k1) with
      | false =>
        have HW : Hid (wholeL (ls s) = none) := by
          show _ = _
          unfold wholeL
          rw [HP.out]
          dsimp only
          rw [hri]
          rfl
        go_enter_defers Tryd.func30, Tryd.ntmps30
        go_wp2_with fail
        refine c1.mono ?_
        rintro e w4 ⟨hb4, ⟨v, rfl, hx⟩, hr4⟩
        rw [ExtAt_eq] at hx
        obtain ⟨a1, cap1, rfl, hl4⟩ := hx
        have g1 : w4.heap[w.heap.size]? = _ := (hb4.block _ (by rw [HZ3.out]; omega) (by omega)).trans H1.out
        have g2 : w4.heap[w.heap.size + 1]? = _ := (hb4.block _ (by rw [HZ3.out]; omega) (by omega)).trans H2.out
        obtain ⟨⟨p0, p1, p2⟩, s0, s1, s2⟩ := three_cells g1
        obtain ⟨e0, f0⟩ := one_cell hr4
        have ne : w.heap.size + 2 ≠ w.heap.size := by omega
        have hb4' := hb4.below (B := w.heap.size) (by omega) (by rw [HZ3.out]; omega)
        have G5 := Lib.hid (three_set (a := .string o1) (b := .string t1) (c := .slice a1 k1.length cap1) g1)
        have G6 : Hid ((((w4.setCell ⟨w.heap.size, 0, none⟩ (.string o1)).setCell ⟨w.heap.size, 1, none⟩ (.string t1)).setCell ⟨w.heap.size, 2, none⟩ (.slice a1 k1.length cap1)).heap[w.heap.size + 1]? = some (.cells #[.int .i64 0] 39 (0, 0))) := by
          show _ = _
          rw [Below.heap_setCell _ _ _ _ (by show w.heap.size + 1 ≠ w.heap.size; omega), Below.heap_setCell _ _ _ _ (by show w.heap.size + 1 ≠ w.heap.size; omega), Below.heap_setCell _ _ _ _ (by show w.heap.size + 1 ≠ w.heap.size; omega)]
          exact g2
        have HB5 := Lib.hid ((((HB3.out.trans hb4').setCell (p := ⟨w.heap.size, 0, none⟩) (Nat.le_refl _) (.string o1)).setCell (p := ⟨w.heap.size, 1, none⟩) (Nat.le_refl _) (.string t1)).setCell (p := ⟨w.heap.size, 2, none⟩) (Nat.le_refl _) (.slice a1 k1.length cap1))
        have hl5 := ExtK.moves (w' := (((w4.setCell ⟨w.heap.size, 0, none⟩ (.string o1)).setCell ⟨w.heap.size, 1, none⟩ (.string t1)).setCell ⟨w.heap.size, 2, none⟩ (.slice a1 k1.length cap1))) (ok' := fun k => w.heap.size + 2 ≤ k) (fun i hi hok => by
          have hok' : w.heap.size + 3 ≤ i := by rw [HZ3.out] at hok; exact hok
          refine ⟨by omega, ?_⟩
          rw [Below.heap_setCell _ _ _ _ (by show i ≠ w.heap.size; omega), Below.heap_setCell _ _ _ _ (by show i ≠ w.heap.size; omega), Below.heap_setCell _ _ _ _ (by show i ≠ w.heap.size; omega)]) _ _ _ hl4
        have cr := Right_any (.mk o1 t1 k1) (.agg #[.string o1, .string t1, .slice a1 k1.length cap1]) _ _ HSM.out (by rw [ExtAt_eq]; exact ⟨a1, cap1, rfl, hl5⟩)
        have HL5 := Lib.hid hl5
        rw [hri] at cr
        clear hri g1 g2 hb4 hb4' c1 hl4 hr4 hl5
        go_wp2_with fail
        refine cr.mono ?_
        rintro e w6 ⟨rfl, hb6⟩
        have g5 := (hb6.block _ (lt_of_block G5.out)).trans G5.out
        have g6 := (hb6.block _ (lt_of_block G6.out)).trans G6.out
        have hb7 := HB5.out.trans (hb6.mono HB5.out.size)
        clear G5 G6 HB5 hb6 cr
        have G5 := Lib.hid g5
        have G6 := Lib.hid g6
        have HB5 := Lib.hid hb7
        clear g5 g6 hb7
        go_wp2_with fail
        refine (must_f _).mono ?_
        rintro e w7 ⟨rfl, rfl⟩
        go_wp2
        refine leaves_cons (f := 37) (args := #[.pointer (some ⟨w.heap.size, 0, none⟩), .pointer (some ⟨w.heap.size + 1, 0, none⟩)]) (by simp) (by simp [go_sem]) ?_
        refine (wcatch_wrong _ _ _ _ _ _ _ G5.out G6.out (by omega)).mono ?_
        rintro e u' w8 ⟨rfl, rfl, q1, q2, q4⟩
        refine ⟨_, whole_results _ _ w.heap.size (w.heap.size + 1) _ _ _ _ rfl rfl q1 q2, ?_⟩
        rw [HW.out]
        exact ⟨HB5.out.trans (q4 _ (Nat.le_refl _)), rfl⟩
      | true =>
        have HW : Hid (wholeL (ls s) = some (.mk o1 t1 k1)) := by
          show _ = _
          unfold wholeL
          rw [HP.out]
          dsimp only
          rw [hri]
          rfl
        go_enter_defers Tryd.func30, Tryd.ntmps30
        go_wp2_with fail
        refine c1.mono ?_
        rintro e w4 ⟨hb4, ⟨v, rfl, hx⟩, hr4⟩
        rw [ExtAt_eq] at hx
        obtain ⟨a1, cap1, rfl, hl4⟩ := hx
        have g1 : w4.heap[w.heap.size]? = _ := (hb4.block _ (by rw [HZ3.out]; omega) (by omega)).trans H1.out
        have g2 : w4.heap[w.heap.size + 1]? = _ := (hb4.block _ (by rw [HZ3.out]; omega) (by omega)).trans H2.out
        obtain ⟨⟨p0, p1, p2⟩, s0, s1, s2⟩ := three_cells g1
        obtain ⟨e0, f0⟩ := one_cell hr4
        have ne : w.heap.size + 2 ≠ w.heap.size := by omega
        have hb4' := hb4.below (B := w.heap.size) (by omega) (by rw [HZ3.out]; omega)
        have G5 := Lib.hid (three_set (a := .string o1) (b := .string t1) (c := .slice a1 k1.length cap1) g1)
        have G6 : Hid ((((w4.setCell ⟨w.heap.size, 0, none⟩ (.string o1)).setCell ⟨w.heap.size, 1, none⟩ (.string t1)).setCell ⟨w.heap.size, 2, none⟩ (.slice a1 k1.length cap1)).heap[w.heap.size + 1]? = some (.cells #[.int .i64 0] 39 (0, 0))) := by
          show _ = _
          rw [Below.heap_setCell _ _ _ _ (by show w.heap.size + 1 ≠ w.heap.size; omega), Below.heap_setCell _ _ _ _ (by show w.heap.size + 1 ≠ w.heap.size; omega), Below.heap_setCell _ _ _ _ (by show w.heap.size + 1 ≠ w.heap.size; omega)]
          exact g2
        have HB5 := Lib.hid ((((HB3.out.trans hb4').setCell (p := ⟨w.heap.size, 0, none⟩) (Nat.le_refl _) (.string o1)).setCell (p := ⟨w.heap.size, 1, none⟩) (Nat.le_refl _) (.string t1)).setCell (p := ⟨w.heap.size, 2, none⟩) (Nat.le_refl _) (.slice a1 k1.length cap1))
        have hl5 := ExtK.moves (w' := (((w4.setCell ⟨w.heap.size, 0, none⟩ (.string o1)).setCell ⟨w.heap.size, 1, none⟩ (.string t1)).setCell ⟨w.heap.size, 2, none⟩ (.slice a1 k1.length cap1))) (ok' := fun k => w.heap.size + 2 ≤ k) (fun i hi hok => by
          have hok' : w.heap.size + 3 ≤ i := by rw [HZ3.out] at hok; exact hok
          refine ⟨by omega, ?_⟩
          rw [Below.heap_setCell _ _ _ _ (by show i ≠ w.heap.size; omega), Below.heap_setCell _ _ _ _ (by show i ≠ w.heap.size; omega), Below.heap_setCell _ _ _ _ (by show i ≠ w.heap.size; omega)]) _ _ _ hl4
        have cr := Right_any (.mk o1 t1 k1) (.agg #[.string o1, .string t1, .slice a1 k1.length cap1]) _ _ HSM.out (by rw [ExtAt_eq]; exact ⟨a1, cap1, rfl, hl5⟩)
        have HL5 := Lib.hid hl5
        rw [hri] at cr
        clear hri g1 g2 hb4 hb4' c1 hl4 hr4 hl5
        go_wp2_with fail
        refine cr.mono ?_
        rintro e w6 ⟨rfl, hb6⟩
        have g5 := (hb6.block _ (lt_of_block G5.out)).trans G5.out
        have g6 := (hb6.block _ (lt_of_block G6.out)).trans G6.out
        have hb7 := HB5.out.trans (hb6.mono HB5.out.size)
        have hl6 := HL5.out.below hb6
        obtain ⟨⟨m0, m1, m2⟩, y0, y1, y2⟩ := three_cells g5
        obtain ⟨m3, y3⟩ := one_cell g6
        clear G5 G6 HB5 hb6 cr HL5
        have HL5 := Lib.hid hl6
        have G5 := Lib.hid g5
        have G6 := Lib.hid g6
        have HB5 := Lib.hid hb7
        clear g5 g6 hb7 hl6
        go_wp2_with fail
        refine (must_t _).mono ?_
        rintro e w7 ⟨rfl, rfl⟩
        go_wp2
        obtain ⟨q1, q2, q3, q4, q5⟩ := put4 (.string o1) (.string t1) (.slice a1 k1.length cap1) (.int .i64 0) G5.out G6.out (by omega) _ rfl
        have hl7 := ExtK.moves (ok' := fun k => w.heap.size ≤ k) (fun i hi hok => ⟨by omega, q5 i (by omega) (by omega)⟩) _ _ _ HL5.out
        have hb7 := HB5.out.trans (q3 _ (Nat.le_refl _))
        generalize ((((w6.setCell ⟨w.heap.size, 0, none⟩ (.string o1)).setCell ⟨w.heap.size, 1, none⟩ (.string t1)).setCell ⟨w.heap.size, 2, none⟩ (.slice a1 k1.length cap1)).setCell ⟨w.heap.size + 1, 0, none⟩ (.int .i64 0)) = W7 at *
        refine leaves_cons (f := 37) (args := #[.pointer (some ⟨w.heap.size, 0, none⟩), .pointer (some ⟨w.heap.size + 1, 0, none⟩)]) (by simp) (by simp [go_sem]) ?_
        refine (wcatch_idle _ _ W7).mono ?_
        rintro e u' w8 ⟨rfl, rfl, hb8⟩
        have r1 := (hb8.block _ (lt_of_block q1)).trans q1
        have r2 := (hb8.block _ (lt_of_block q2)).trans q2
        refine ⟨_, whole_results _ _ w.heap.size (w.heap.size + 1) _ _ _ _ rfl rfl r1 r2, ?_⟩
        rw [HW.out]
        refine ⟨hb7.trans (hb8.mono hb7.size), _, rfl, ?_⟩
        rw [ExtAt_eq]
        exact ⟨a1, cap1, rfl, hl7.below hb8⟩
    · have HW : Hid (wholeL (ls s) = none) := by
        show _ = _
        unfold wholeL
        rw [HP.out]
        cases r with
        | nil => exact absurd rfl hr
        | cons _ _ => rfl
      obtain ⟨n0, n0'⟩ := str_empty (op := ⟨r.toArray⟩) (fun e => hr (by
        have := congrArg (fun b : ByteArray => b.data.toList) e
        simpa using this))
      have n1 : r.isEmpty = false := by
        cases r with
        | nil => exact absurd rfl hr
        | cons _ _ => rfl
      clear hr
      go_enter_defers Tryd.func30, Tryd.ntmps30
      go_wp2_with fail
      refine c1.mono ?_
      rintro e w4 ⟨hb4, ⟨v, rfl, hx⟩, hr4⟩
      obtain ⟨o1, t1, k1⟩ := x
      rw [ExtAt_eq] at hx
      obtain ⟨a1, cap1, rfl, hl4⟩ := hx
      have g1 : w4.heap[w.heap.size]? = _ := (hb4.block _ (by rw [HZ3.out]; omega) (by omega)).trans H1.out
      have g2 : w4.heap[w.heap.size + 1]? = _ := (hb4.block _ (by rw [HZ3.out]; omega) (by omega)).trans H2.out
      obtain ⟨⟨p0, p1, p2⟩, s0, s1, s2⟩ := three_cells g1
      obtain ⟨e0, f0⟩ := one_cell hr4
      have ne : w.heap.size + 2 ≠ w.heap.size := by omega
      have G1 := Lib.hid g1
      have G2 := Lib.hid g2
      have HB4 := Lib.hid (HB3.out.trans (hb4.below (B := w.heap.size) (by omega) (by rw [HZ3.out]; omega)))
      have hb4' := hb4.below (B := w.heap.size) (by omega) (by rw [HZ3.out]; omega)
      have G5 := Lib.hid (three_set (a := .string o1) (b := .string t1) (c := .slice a1 k1.length cap1) g1)
      have G6 : Hid ((((w4.setCell ⟨w.heap.size, 0, none⟩ (.string o1)).setCell ⟨w.heap.size, 1, none⟩ (.string t1)).setCell ⟨w.heap.size, 2, none⟩ (.slice a1 k1.length cap1)).heap[w.heap.size + 1]? = some (.cells #[.int .i64 0] 39 (0, 0))) := by
        show _ = _
        rw [Below.heap_setCell _ _ _ _ (by show w.heap.size + 1 ≠ w.heap.size; omega), Below.heap_setCell _ _ _ _ (by show w.heap.size + 1 ≠ w.heap.size; omega), Below.heap_setCell _ _ _ _ (by show w.heap.size + 1 ≠ w.heap.size; omega)]
        exact g2
      have HB5 := Lib.hid ((((HB3.out.trans hb4').setCell (p := ⟨w.heap.size, 0, none⟩) (Nat.le_refl _) (.string o1)).setCell (p := ⟨w.heap.size, 1, none⟩) (Nat.le_refl _) (.string t1)).setCell (p := ⟨w.heap.size, 2, none⟩) (Nat.le_refl _) (.slice a1 k1.length cap1))
      clear g1 g2 hb4 hb4' c1 hl4 hr4
      go_wp2_with fail
      refine (must_f _).mono ?_
      rintro e w6 ⟨rfl, rfl⟩
      go_wp2
      refine leaves_cons (f := 37) (args := #[.pointer (some ⟨w.heap.size, 0, none⟩), .pointer (some ⟨w.heap.size + 1, 0, none⟩)]) (by simp) (by simp [go_sem]) ?_
      refine (wcatch_wrong _ _ _ _ _ _ _ G5.out G6.out (by omega)).mono ?_
      rintro e u' w8 ⟨rfl, rfl, q1, q2, q4⟩
      refine ⟨_, whole_results _ _ w.heap.size (w.heap.size + 1) _ _ _ _ rfl rfl q1 q2, ?_⟩
      rw [HW.out]
      exact ⟨HB5.out.trans (q4 _ (Nat.le_refl _)), rfl⟩

theorem read_results (tmps : Array Value) (W : World) (b : Nat) (x y z : Value) (e : Int) (h2 : tmps.getD 2 undef = .pointer (some ⟨b, 0, none⟩)) (h3 : tmps.getD 3 undef = .int .i64 e)
    (hb : W.heap[b]? = some (.cells #[x, y, z] 29 (0, 0))) :
    (results Tryd.f21 tmps).run Tryd.prog W = .ok (.tuple #[.agg #[x, y, z], .int .i64 e]) W := by
  have k2 : tmps[2]?.getD undef = .pointer (some ⟨b, 0, none⟩) := by simpa using h2
  have k3 : tmps[3]?.getD undef = .int .i64 e := by simpa using h3
  obtain ⟨⟨c0, c1, c2⟩, -⟩ := three_cells hb
  simp [results, Tryd.results21, k2, k3, asAddr, go_sem, c0, c1, c2]
def readC (s : ByteArray) : Int := if 500 < s.size then 12 else 8
set_option maxRecDepth 100000 in
theorem Read_any (s : ByteArray) (w : World) : Calls Tryd.prog 21 #[.string s] w fun e w' => Gives (readM s) (readC s) w e w' := by
  have hq := heap_alloc_new w (.cells #[.string ⟨#[]⟩, .string ⟨#[]⟩, .slice none 0 0] 29)
  have hb1 := (Below.refl w.heap.size w).alloc (Nat.le_refl _) (.cells #[.string ⟨#[]⟩, .string ⟨#[]⟩, .slice none 0 0] 29)
  have hz : (w.alloc (.cells #[.string ⟨#[]⟩, .string ⟨#[]⟩, .slice none 0 0] 29)).heap.size = w.heap.size + 1 := by simp
  by_cases hl : 500 < s.size
  · have g : decide ((500 : Int) < (s.size : Int)) = true := by simp; omega
    have HR : Hid (readM s = none ∧ readC s = 12) := ⟨if_pos hl, if_pos hl⟩
    obtain ⟨⟨p0, p1, p2⟩, s0, s1, s2⟩ := three_cells hq
    have HQ := Lib.hid hq
    have HB := Lib.hid hb1
    clear hq hb1 hz hl
    go_enter Tryd.func21, Tryd.ntmps21
    go_wp2
    refine bodyPost_end (read_results _ _ _ _ _ _ _ rfl rfl HQ.out) rfl ?_
    rw [HR.out.1, HR.out.2]
    exact ⟨HB.out, rfl⟩
  · have g : decide ((500 : Int) < (s.size : Int)) = false := by simp; omega
    have HR : Hid (readM s = wholeL (ls s) ∧ readC s = 8) := ⟨if_neg hl, if_neg hl⟩
    have c1 := whole_any s (w.alloc (.cells #[.string ⟨#[]⟩, .string ⟨#[]⟩, .slice none 0 0] 29)) (by omega)
    have HQ := Lib.hid hq
    have HB := Lib.hid hb1
    have HZ := Lib.hid hz
    clear hq hb1 hz hl
    rw [HR.out.1, HR.out.2]
    cases hw : wholeL (ls s) with
    | none =>
      rw [hw] at c1
      clear hw HR
      go_enter Tryd.func21, Tryd.ntmps21
      go_wp2_with fail
      refine c1.mono ?_
      rintro e w2 ⟨hb2, he⟩
      obtain rfl : e = _ := he
      have hq2 := (hb2.block _ (lt_of_block HQ.out)).trans HQ.out
      obtain ⟨⟨p0, p1, p2⟩, s0, s1, s2⟩ := three_cells hq2
      have HQ2 := Lib.hid (three_set (a := .string ⟨#[]⟩) (b := .string ⟨#[]⟩) (c := .slice none 0 0) hq2)
      have HB2 := Lib.hid ((((HB.out.trans (hb2.mono HB.out.size)).setCell (p := ⟨w.heap.size, 0, none⟩) (Nat.le_refl _) (.string ⟨#[]⟩)).setCell (p := ⟨w.heap.size, 1, none⟩) (Nat.le_refl _) (.string ⟨#[]⟩)).setCell (p := ⟨w.heap.size, 2, none⟩) (Nat.le_refl _) (.slice none 0 0))
      clear hq2 hb2 c1
      go_wp2
      refine bodyPost_end (read_results _ _ _ _ _ _ _ rfl rfl HQ2.out) rfl ?_
      exact ⟨HB2.out, rfl⟩
    | some x =>
      rw [hw] at c1
      clear hw HR
      obtain ⟨o1, t1, k1⟩ := x
      go_enter Tryd.func21, Tryd.ntmps21
      go_wp2_with fail
      refine c1.mono ?_
      rintro e w2 ⟨hb2, v, rfl, hx⟩
      rw [ExtAt_eq] at hx
      obtain ⟨a1, cap1, rfl, hl2⟩ := hx
      have hq2 := (hb2.block _ (lt_of_block HQ.out)).trans HQ.out
      obtain ⟨⟨p0, p1, p2⟩, s0, s1, s2⟩ := three_cells hq2
      have HQ2 := Lib.hid (three_set (a := .string o1) (b := .string t1) (c := .slice a1 k1.length cap1) hq2)
      have HB2 := Lib.hid ((((HB.out.trans (hb2.mono HB.out.size)).setCell (p := ⟨w.heap.size, 0, none⟩) (Nat.le_refl _) (.string o1)).setCell (p := ⟨w.heap.size, 1, none⟩) (Nat.le_refl _) (.string t1)).setCell (p := ⟨w.heap.size, 2, none⟩) (Nat.le_refl _) (.slice a1 k1.length cap1))
      have HL2 := Lib.hid (ExtK.moves (w' := (((w2.setCell ⟨w.heap.size, 0, none⟩ (.string o1)).setCell ⟨w.heap.size, 1, none⟩ (.string t1)).setCell ⟨w.heap.size, 2, none⟩ (.slice a1 k1.length cap1))) (ok' := fun k => w.heap.size ≤ k) (fun i hi hok => by
        have hok' : w.heap.size + 1 ≤ i := by rw [HZ.out] at hok; exact hok
        refine ⟨by omega, ?_⟩
        rw [Below.heap_setCell _ _ _ _ (by show i ≠ w.heap.size; omega), Below.heap_setCell _ _ _ _ (by show i ≠ w.heap.size; omega), Below.heap_setCell _ _ _ _ (by show i ≠ w.heap.size; omega)]) _ _ _ hl2)
      clear hq2 hb2 c1 hl2
      go_wp2
      refine bodyPost_end (read_results _ _ _ _ _ _ _ rfl rfl HQ2.out) rfl ?_
      refine ⟨HB2.out, _, rfl, ?_⟩
      rw [ExtAt_eq]
      exact ⟨a1, cap1, rfl, HL2.out⟩
end Go.Proofs.YtojdhlmmnhjolaaDoor
