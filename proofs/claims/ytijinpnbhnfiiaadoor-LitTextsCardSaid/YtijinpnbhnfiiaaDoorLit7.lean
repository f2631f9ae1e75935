/- package lit: meant. -/
import Derived.Test.YtijinpnbhnfiiaaDoorLit6
import Derived.Defers
import Derived.Recover
import Derived.Laws.Pointers
import Derived.RegionTactic
import Derived.BigRegion
namespace Go.Proofs.YtijinpnbhnfiiaaDoor
open Go.RowKit
set_option linter.unusedVariables false

theorem wta_nil (w : World) : (Instr.typeAssert .nilIface 20 59 true).run Tryd.prog w = .ok (.tuple #[.agg #[], .bool false]) w := by kernel_rfl
theorem wta_wrong (w : World) : (Instr.typeAssert (.iface 59 (.agg #[])) 20 59 true).run Tryd.prog w = .ok (.tuple #[.agg #[], .bool true]) w := by kernel_rfl

theorem cellS {w : World} {b : Nat} {v : Value} {t : TypeId} (h : w.heap[b]? = some (.cells #[v] t (0, 0))) : w.cell? ⟨b, 0, none⟩ = some v ∧ w.frozen? ⟨b, 0, none⟩ = false := ⟨by simp [World.cell?, h], by simp [World.frozen?, h]⟩
theorem setS {w : World} {b : Nat} {v u : Value} {t : TypeId} (h : w.heap[b]? = some (.cells #[v] t (0, 0))) : (w.setCell ⟨b, 0, none⟩ u).heap[b]? = some (.cells #[u] t (0, 0)) := by
  have hlt := lt_of_block h
  have h' : w.heap[b] = .cells #[v] t (0, 0) := by simpa [Array.getElem?_eq_getElem hlt] using h
  show (w.heap.modify b _)[b]? = _
  rw [Array.getElem?_eq_getElem (by simpa using hlt), Array.getElem_modify_self, h']
  rfl

/-- The two results laid anew. -/
theorem put2 {W : World} {b c : Nat} {v0 e0 v1 e1 : Value} {tb tc : TypeId} (hb : W.heap[b]? = some (.cells #[v0] tb (0, 0))) (hc : W.heap[c]? = some (.cells #[e0] tc (0, 0))) (hbc : b < c) (X : World) (hX : X = (W.setCell ⟨b, 0, none⟩ v1).setCell ⟨c, 0, none⟩ e1) :
    X.heap[b]? = some (.cells #[v1] tb (0, 0)) ∧ X.heap[c]? = some (.cells #[e1] tc (0, 0)) ∧ ∀ n0, n0 ≤ b → Below n0 W X := by
  subst hX
  refine ⟨?_, ?_, fun n0 h => ((Below.refl n0 W).setCell (p := ⟨b, 0, none⟩) h _).setCell (p := ⟨c, 0, none⟩) (by show n0 ≤ c; omega) _⟩
  · rw [Below.heap_setCell _ _ _ _ (by show b ≠ c; omega)]
    exact setS hb
  · refine setS (v := e0) ?_
    rw [Below.heap_setCell _ _ _ _ (by show c ≠ b; omega)]
    exact hc

set_option maxRecDepth 100000 in
theorem mcatch_idle (b c : Nat) (w : World) :
    CallsD Tryd.prog 29 #[.pointer (some ⟨b, 0, none⟩), .pointer (some ⟨c, 0, none⟩)] .returning w fun e u' w' => e = .returned (.tuple #[]) ∧ u' = .returning ∧ Below w.heap.size w w' := by
  refine callsD_of_wpS Tryd.func29 rfl fun c₀ cs hu => ?_
  have hta := wta_nil
  apply wpS_seq
  apply wpS_region
  simp [wpOpsS, go_sem, recoverD, hu, Tryd.ntmps29, Exit.thenS]
  refine wpS_of_wp ?_
  simp only [Array.replicate_succ, Array.replicate_zero, List.push_toArray, List.append_toArray, List.nil_append, List.cons_append, List.setIfInBounds_toArray, List.set_cons_succ, List.set_cons_zero]
  go_wp2
  cases c₀
  simp_all [bodyPostS, results, Tryd.results29]
  exact (Below.refl _ w).alloc (Nat.le_refl _) _

set_option maxHeartbeats 1000000 in
set_option maxRecDepth 100000 in
theorem mcatch_wrong (b c : Nat) (w : World) (v0 e0 : Value) (hb : w.heap[b]? = some (.cells #[v0] 9 (0, 0))) (hc : w.heap[c]? = some (.cells #[e0] 22 (0, 0))) (hbc : b < c) :
    CallsD Tryd.prog 29 #[.pointer (some ⟨b, 0, none⟩), .pointer (some ⟨c, 0, none⟩)] (.panicking [{ v := .iface 59 (.agg #[]), recovered := false }]) w fun e u' w' =>
      e = .returned (.tuple #[]) ∧ u' = .panicking [{ v := .iface 59 (.agg #[]), recovered := true }] ∧ w'.heap[b]? = some (.cells #[.string ⟨#[]⟩] 9 (0, 0)) ∧ w'.heap[c]? = some (.cells #[.int .i64 4] 22 (0, 0)) ∧ (∀ n0, n0 ≤ b → Below n0 w w') := by
  refine callsD_of_wpS Tryd.func29 rfl fun c₀ cs hu => ?_
  have hta := wta_wrong
  apply wpS_seq
  apply wpS_region
  simp [wpOpsS, go_sem, recoverD, hu, Tryd.ntmps29, Exit.thenS]
  refine wpS_of_wp ?_
  simp only [Array.replicate_succ, Array.replicate_zero, List.push_toArray, List.append_toArray, List.nil_append, List.cons_append, List.setIfInBounds_toArray, List.set_cons_succ, List.set_cons_zero]
  have hlb := lt_of_block hb
  have hlc := lt_of_block hc
  have hb1 := (Below.heap_alloc w (.cells #[] 59) b (by omega)).trans hb
  have hc1 := (Below.heap_alloc w (.cells #[] 59) c (by omega)).trans hc
  obtain ⟨b0, fb⟩ := cellS hb1
  obtain ⟨c0, fc⟩ := cellS hc1
  have nbc : b ≠ c := by omega
  have hc2 := (Below.heap_alloc (w.setCell ⟨b, 0, none⟩ (.string ⟨#[]⟩)) (.cells #[] 59) c (by simp; omega)).trans ((Below.heap_setCell w ⟨b, 0, none⟩ (.string ⟨#[]⟩) c (by show c ≠ b; omega)).trans hc)
  obtain ⟨c0', fc'⟩ := cellS hc2
  have HB1 := Lib.hid hb1
  have HC1 := Lib.hid hc1
  have HW := Lib.hid (fun n0 (h : n0 ≤ w.heap.size) => (Below.refl n0 w).alloc h (.cells #[] 59))
  have HB0 := Lib.hid hb
  have HC0 := Lib.hid hc
  clear hb1 hc1 hb hc hc2
  go_wp2
  obtain ⟨q1, q2, q3⟩ := put2 HB0.out HC0.out (v1 := .string ⟨#[]⟩) (e1 := .int .i64 4) hbc _ rfl
  refine ⟨rfl, .panicking [{ v := .iface 59 (.agg #[]), recovered := true }], rfl, .tuple #[], results_none rfl _ _ _, rfl, rfl, ?_⟩
  refine ⟨(Below.heap_alloc _ _ b (by simp; omega)).trans q1, (Below.heap_alloc _ _ c (by simp; omega)).trans q2, fun n0 h => ?_⟩
  exact (q3 n0 h).alloc (by simp; omega) _

/-- What meant ends with. -/
def meantV (m : Option ByteArray) : ByteArray × Int := match m with
  | some t => (t, 0)
  | none => (⟨#[]⟩, 4)
def meantR (n : Nat) (most : Int) (m : Option ByteArray) : ByteArray × Int := if most < n then (⟨#[]⟩, 12) else meantV m
def MeantEnds (w : World) (r : ByteArray × Int) (e : Ending) (w' : World) : Prop := e = .returned (.tuple #[.string r.1, .int .i64 r.2]) ∧ Below w.heap.size w w'

theorem meant_results (tmps : Array Value) (W : World) (b c : Nat) (tx : ByteArray) (e : Int) (h6 : tmps.getD 6 undef = .pointer (some ⟨b, 0, none⟩)) (h7 : tmps.getD 7 undef = .pointer (some ⟨c, 0, none⟩))
    (hb : W.heap[b]? = some (.cells #[.string tx] 9 (0, 0))) (hc : W.heap[c]? = some (.cells #[.int .i64 e] 22 (0, 0))) :
    (results Tryd.f17 tmps).run Tryd.prog W = .ok (.tuple #[.string tx, .int .i64 e]) W := by
  have k6 : tmps[6]?.getD undef = .pointer (some ⟨b, 0, none⟩) := by simpa using h6
  have k7 : tmps[7]?.getD undef = .pointer (some ⟨c, 0, none⟩) := by simpa using h7
  have c1 := (cellS hb).1
  have c2 := (cellS hc).1
  simp [results, Tryd.results17, k6, k7, asAddr, go_sem, c1, c2]

/-- The two results as they are laid, in a world w. -/
theorem two {w : World} {o1 o2 : Obj} : ((w.alloc o1).alloc o2).heap[w.heap.size]? = some o1 ∧ ((w.alloc o1).alloc o2).heap[w.heap.size + 1]? = some o2 ∧ Below w.heap.size w ((w.alloc o1).alloc o2) := by
  have s1 : (w.alloc o1).heap.size = w.heap.size + 1 := by simp
  refine ⟨?_, ?_, ((Below.refl _ w).alloc (Nat.le_refl _) _).alloc (by omega) _⟩
  · rw [Below.heap_alloc _ _ _ (by omega)]
    exact heap_alloc_new w o1
  · rw [← s1]
    exact heap_alloc_new _ o2

set_option maxHeartbeats 1000000 in
set_option maxRecDepth 100000 in
theorem meant_long (s : ByteArray) (most : Int) (F : FuncId) (m : Option ByteArray) (w : World) (h : most < s.size) :
    Calls Tryd.prog 17 #[.string s, .int .i64 most, .func (.func F) #[] #[]] w fun e w' => MeantEnds w (meantR s.size most m) e w' := by
  have HR : Hid (meantR s.size most m = (⟨#[]⟩, 12)) := by show _ = _; unfold meantR; rw [if_pos h]
  have g : decide (most < (s.size : Int)) = true := decide_eq_true h
  go_enter_defers Tryd.func17, Tryd.ntmps17
  go_wp2
  refine ⟨_, meant_results _ _ w.heap.size (w.heap.size + 1) _ _ rfl rfl two.1 two.2.1, ?_⟩
  rw [HR.out]
  exact ⟨rfl, two.2.2⟩

set_option maxHeartbeats 2000000 in
set_option maxRecDepth 100000 in
theorem meant_any (s : ByteArray) (most : Int) (F : FuncId) (m : Option ByteArray) (w : World) (hcf : ∀ args W, (callFunc F args).run Tryd.prog W = .ok (.enter F args) W)
    (hcl : ∀ (W : World), Below w.heap.size w W → Calls Tryd.prog F #[.string s] W fun e w' => Tells W m e w') :
    Calls Tryd.prog 17 #[.string s, .int .i64 most, .func (.func F) #[] #[]] w fun e w' => MeantEnds w (meantR s.size most m) e w' := by
  by_cases h : most < s.size
  · exact meant_long s most F m w h
  have hmf : ∀ (fn : Fn) (first cap : Array Value) (w : World), (Instr.makeFunc fn first cap).run Tryd.prog w = .ok (.func fn first cap) w := fun _ _ _ _ => rfl
  have HR : Hid (meantR s.size most m = meantV m) := by show _ = _; unfold meantR; rw [if_neg h]
  have g : decide (most < (s.size : Int)) = false := decide_eq_false h
  have HCL := Lib.hid (hcl ((w.alloc (.cells #[.string ⟨#[]⟩] 9)).alloc (.cells #[.int .i64 0] 22)) two.2.2)
  clear hcl
  go_enter_defers Tryd.func17, Tryd.ntmps17
  go_wp2_with fail
  refine HCL.out.mono ?_
  intro e w4 hE
  obtain ⟨he, hb4⟩ := hE
  have h1 := (hb4.block _ (by simp; omega)).trans (two (w := w) (o1 := .cells #[.string ⟨#[]⟩] 9) (o2 := .cells #[.int .i64 0] 22)).1
  have h2 := (hb4.block _ (by simp)).trans (two (w := w) (o1 := .cells #[.string ⟨#[]⟩] 9) (o2 := .cells #[.int .i64 0] 22)).2.1
  have HB4 := Lib.hid ((two (w := w) (o1 := .cells #[.string ⟨#[]⟩] 9) (o2 := .cells #[.int .i64 0] 22)).2.2.trans (hb4.mono (by simp; omega)))
  clear hb4 HCL
  have H1 := Lib.hid h1
  have H2 := Lib.hid h2
  cases m with
  | none =>
    have HR2 : Hid (meantR s.size most none = (⟨#[]⟩, 4)) := HR.out
    obtain rfl : e = .panicked [{ v := .iface 59 (.agg #[]), recovered := false }] := he
    clear h1 h2 HR
    go_wp2
    refine leaves_cons (f := 29) (args := #[.pointer (some ⟨w.heap.size, 0, none⟩), .pointer (some ⟨w.heap.size + 1, 0, none⟩)]) (by simp) (by simp [go_sem]) ?_
    refine (mcatch_wrong _ _ w4 _ _ H1.out H2.out (by omega)).mono ?_
    rintro e u' w8 ⟨rfl, rfl, q1, q2, q4⟩
    refine ⟨_, meant_results _ _ w.heap.size (w.heap.size + 1) _ _ rfl rfl q1 q2, ?_⟩
    rw [HR2.out]
    exact ⟨rfl, HB4.out.trans (q4 _ (Nat.le_refl _))⟩
  | some t =>
    have HR2 : Hid (meantR s.size most (some t) = (t, 0)) := HR.out
    obtain rfl : e = .returned (.string t) := he
    obtain ⟨b0, fb⟩ := cellS h1
    obtain ⟨c0, fc⟩ := cellS h2
    have n1 : w.heap.size ≠ w.heap.size + 1 := by omega
    clear h1 h2 HR
    go_wp2
    obtain ⟨q1, q2, q5⟩ := put2 H1.out H2.out (v1 := .string t) (e1 := .int .i64 0) (by omega) _ rfl
    have hB7 := HB4.out.trans (q5 _ (Nat.le_refl _))
    generalize ((w4.setCell ⟨w.heap.size, 0, none⟩ (.string t)).setCell ⟨w.heap.size + 1, 0, none⟩ (.int .i64 0)) = W7 at *
    refine leaves_cons (f := 29) (args := #[.pointer (some ⟨w.heap.size, 0, none⟩), .pointer (some ⟨w.heap.size + 1, 0, none⟩)]) (by simp) (by simp [go_sem]) ?_
    refine (mcatch_idle _ _ W7).mono ?_
    rintro e u' w8 ⟨rfl, rfl, hb8⟩
    have r1 := (hb8.block _ (lt_of_block q1)).trans q1
    have r2 := (hb8.block _ (lt_of_block q2)).trans q2
    refine ⟨_, meant_results _ _ w.heap.size (w.heap.size + 1) _ _ rfl rfl r1 r2, ?_⟩
    rw [HR2.out]
    exact ⟨rfl, hB7.trans (hb8.mono hB7.size)⟩
end Go.Proofs.YtijinpnbhnfiiaaDoor
