/- package token: scan. -/
import Derived.Test.YtijinpnbhnfiiaaDoorTok12
import Derived.Test.YtijinpnbhnfiiaaDoorWrongs
import Derived.Outline
namespace Go.Proofs.YtijinpnbhnfiiaaDoor
open Go.RowKit Go.Joins
set_option linter.unusedVariables false

/-- What scan tells: an error's number, where, and the scanner. -/
structure Out where
  err : Int
  pos : Int
  st : St
def st0 : St := ⟨0, [], []⟩
def scanR (s : ByteArray) : Out :=
  if 65536 < s.size then ⟨12, 65536, st0⟩
  else if 0 ≤ wrongR s then ⟨2, wrongR s, st0⟩
  else match allP s with
    | .ok x => ⟨0, 0, x⟩
    | .error p => ⟨3, p, st0⟩

/-- What scan ends with. -/
def ScanEnds (w : World) (o : Out) (e : Ending) (w' : World) : Prop :=
  Below w.heap.size w w' ∧ ∃ (tx : ByteArray) (vt vn : Value), e = .returned (.tuple #[.agg #[.string tx, .int .i64 o.st.at_, vt, vn], .int .i64 o.pos, .int .i64 o.err]) ∧ Sc w' w.heap.size w.heap.size tx o.st.at_ vt vn o.st.toks o.st.notes

theorem scan_results (tmps : Array Value) (W : World) (b c d : Nat) (tx : ByteArray) (at_ : Int) (vt vn : Value) (p e : Int) (h2 : tmps.getD 2 undef = .pointer (some ⟨b, 0, none⟩)) (h3 : tmps.getD 3 undef = .pointer (some ⟨c, 0, none⟩)) (h4 : tmps.getD 4 undef = .pointer (some ⟨d, 0, none⟩))
    (hb : W.heap[b]? = some (.cells #[.string tx, .int .i64 at_, vt, vn] 55 (0, 0))) (hc : W.heap[c]? = some (.cells #[.int .i64 p] 3 (0, 0))) (hd : W.heap[d]? = some (.cells #[.int .i64 e] 22 (0, 0))) :
    (results Tryd.f28 tmps).run Tryd.prog W = .ok (.tuple #[.agg #[.string tx, .int .i64 at_, vt, vn], .int .i64 p, .int .i64 e]) W := by
  have k2 : tmps[2]?.getD undef = .pointer (some ⟨b, 0, none⟩) := by simpa using h2
  have k3 : tmps[3]?.getD undef = .pointer (some ⟨c, 0, none⟩) := by simpa using h3
  have k4 : tmps[4]?.getD undef = .pointer (some ⟨d, 0, none⟩) := by simpa using h4
  have b0 : W.cell? ⟨b, 0, none⟩ = some (.string tx) := by simp [World.cell?, hb]
  have b1 : W.cell? ⟨b, 1, none⟩ = some (.int .i64 at_) := by simp [World.cell?, hb]
  have b2 : W.cell? ⟨b, 2, none⟩ = some vt := by simp [World.cell?, hb]
  have b3 : W.cell? ⟨b, 3, none⟩ = some vn := by simp [World.cell?, hb]
  have c1 := cell_of_one hc
  have c2 := cell_of_one hd
  simp [results, Tryd.results28, k2, k3, k4, asAddr, go_sem, b0, b1, b2, b3, c1, c2]

/-- The three results as they are laid, in a world w. -/
theorem three {w : World} {o1 o2 o3 : Obj} : (((w.alloc o1).alloc o2).alloc o3).heap[w.heap.size]? = some o1 ∧ (((w.alloc o1).alloc o2).alloc o3).heap[w.heap.size + 1]? = some o2 ∧ (((w.alloc o1).alloc o2).alloc o3).heap[w.heap.size + 1 + 1]? = some o3 ∧ Below w.heap.size w (((w.alloc o1).alloc o2).alloc o3) := by
  have s1 : (w.alloc o1).heap.size = w.heap.size + 1 := by simp
  have s2 : ((w.alloc o1).alloc o2).heap.size = w.heap.size + 1 + 1 := by simp
  refine ⟨?_, ?_, ?_, (((Below.refl _ w).alloc (Nat.le_refl _) _).alloc (by omega) _).alloc (by omega) _⟩
  · rw [Below.heap_alloc _ _ _ (by omega), Below.heap_alloc _ _ _ (by omega)]
    exact heap_alloc_new w o1
  · rw [Below.heap_alloc _ _ _ (by omega), ← s1]
    exact heap_alloc_new _ o2
  · rw [← s2]
    exact heap_alloc_new _ o3

/-- A scanner that has nothing. -/
theorem sc_empty {w : World} {b base : Nat} (h : w.heap[b]? = some (.cells #[.string ⟨#[]⟩, .int .i64 0, .slice none 0 0, .slice none 0 0] 55 (0, 0))) (hb : base ≤ b) : Sc w b base ⟨#[]⟩ 0 (.slice none 0 0) (.slice none 0 0) [] [] :=
  ⟨h, ⟨rfl, .inl ⟨rfl, rfl⟩⟩, ⟨rfl, .inl ⟨rfl, rfl⟩⟩, (fun _ h => by cases h), (fun _ h => by cases h), fun _ => rfl, fun _ => rfl, hb⟩

theorem scan_long (s : ByteArray) (a : Option Addr) (cap : Nat) (w : World) (h : 65536 < s.size) :
    Calls Tryd.prog 28 #[.slice a s.size cap] w fun e w' => ScanEnds w (scanR s) e w' := by
  have HR : Hid (scanR s = ⟨12, 65536, st0⟩) := by show _ = _; unfold scanR; rw [if_pos h]
  have g : decide (65536 < s.size) = true := decide_eq_true h
  go_enter_defers Tryd.func28, Tryd.ntmps28
  go_wp2
  refine ⟨_, scan_results _ _ w.heap.size (w.heap.size + 1) (w.heap.size + 1 + 1) _ _ _ _ _ _ rfl rfl rfl three.1 three.2.1 three.2.2.1, ?_⟩
  rw [HR.out]
  exact ⟨three.2.2.2, _, _, _, rfl, sc_empty three.1 (Nat.le_refl _)⟩

/-- The three results laid anew. -/
theorem put6 {W : World} {b c d : Nat} {s0 a0 x0 y0 s1 a1 x1 y1 v0 e0 v1 e1 : Value} (hb : W.heap[b]? = some (.cells #[s0, a0, x0, y0] 55 (0, 0))) (hc : W.heap[c]? = some (.cells #[v0] 3 (0, 0))) (hd : W.heap[d]? = some (.cells #[e0] 22 (0, 0))) (hbc : b < c) (hcd : c < d) (X : World)
    (hX : X = ((((((W.setCell ⟨b, 0, none⟩ s1).setCell ⟨b, 1, none⟩ a1).setCell ⟨b, 2, none⟩ x1).setCell ⟨b, 3, none⟩ y1).setCell ⟨c, 0, none⟩ v1).setCell ⟨d, 0, none⟩ e1)) :
    X.heap[b]? = some (.cells #[s1, a1, x1, y1] 55 (0, 0)) ∧ X.heap[c]? = some (.cells #[v1] 3 (0, 0)) ∧ X.heap[d]? = some (.cells #[e1] 22 (0, 0)) ∧ (∀ k, k ≠ b → k ≠ c → k ≠ d → X.heap[k]? = W.heap[k]?) ∧ (∀ n0, n0 ≤ b → Below n0 W X) := by
  subst hX
  have e1 := block_setCell (block_setCell (block_setCell (block_setCell hb (i := 0) s1) (i := 1) a1) (i := 2) x1) (i := 3) y1
  refine ⟨?_, ?_, ?_, fun k h1 h2 h3 => ?_, fun n0 h => ?_⟩
  · rw [Below.heap_setCell _ _ _ _ (by show b ≠ d; omega), Below.heap_setCell _ _ _ _ (by show b ≠ c; omega)]
    exact e1
  · rw [Below.heap_setCell _ _ _ _ (by show c ≠ d; omega)]
    refine one_setCell (v := v0) ?_
    rw [Below.heap_setCell _ _ _ _ (by show c ≠ b; omega), Below.heap_setCell _ _ _ _ (by show c ≠ b; omega), Below.heap_setCell _ _ _ _ (by show c ≠ b; omega), Below.heap_setCell _ _ _ _ (by show c ≠ b; omega)]
    exact hc
  · refine one_setCell (v := e0) ?_
    rw [Below.heap_setCell _ _ _ _ (by show d ≠ c; omega), Below.heap_setCell _ _ _ _ (by show d ≠ b; omega), Below.heap_setCell _ _ _ _ (by show d ≠ b; omega), Below.heap_setCell _ _ _ _ (by show d ≠ b; omega), Below.heap_setCell _ _ _ _ (by show d ≠ b; omega)]
    exact hd
  · rw [Below.heap_setCell _ _ _ _ h3, Below.heap_setCell _ _ _ _ h2, Below.heap_setCell _ _ _ _ h1, Below.heap_setCell _ _ _ _ h1, Below.heap_setCell _ _ _ _ h1, Below.heap_setCell _ _ _ _ h1]
  · exact ((((((Below.refl n0 W).setCell (p := ⟨b, 0, none⟩) h _).setCell (p := ⟨b, 1, none⟩) h _).setCell (p := ⟨b, 2, none⟩) h _).setCell (p := ⟨b, 3, none⟩) h _).setCell (p := ⟨c, 0, none⟩) (by show n0 ≤ c; omega) _).setCell (p := ⟨d, 0, none⟩) (by show n0 ≤ d; omega) _

/-- What place.Wrong leaves, behind the three results. -/
theorem behind {w W4 : World} {o1 o2 o3 : Obj} (h : Below (((w.alloc o1).alloc o2).alloc o3).heap.size (((w.alloc o1).alloc o2).alloc o3) W4) : W4.heap[w.heap.size]? = some o1 ∧ W4.heap[w.heap.size + 1]? = some o2 ∧ W4.heap[w.heap.size + 1 + 1]? = some o3 ∧ Below w.heap.size w W4 := by
  have hz : (((w.alloc o1).alloc o2).alloc o3).heap.size = w.heap.size + 1 + 1 + 1 := by simp
  exact ⟨(h.block _ (by omega)).trans three.1, (h.block _ (by omega)).trans three.2.1, (h.block _ (by omega)).trans three.2.2.1, three.2.2.2.trans (h.mono (by omega))⟩

theorem cells4 {W : World} {b : Nat} {s0 a0 x0 y0 : Value} (h : W.heap[b]? = some (.cells #[s0, a0, x0, y0] 55 (0, 0))) : W.cell? ⟨b, 0, none⟩ = some s0 ∧ W.cell? ⟨b, 1, none⟩ = some a0 ∧ W.cell? ⟨b, 2, none⟩ = some x0 ∧ W.cell? ⟨b, 3, none⟩ = some y0 ∧ ∀ o, W.frozen? ⟨b, o, none⟩ = false := by
  refine ⟨?_, ?_, ?_, ?_, fun o => ?_⟩ <;> simp [World.cell?, World.frozen?, h]

set_option maxHeartbeats 1000000 in
theorem scan_wrong (s : ByteArray) (a : Option Addr) (cap : Nat) (w : World) (hs : s.size ≤ 65536) (hw : 0 ≤ wrongR s) (ht : Text w a s) (hT : Tabs w) (hcap : s.size ≤ cap) :
    Calls Tryd.prog 28 #[.slice a s.size cap] w fun e w' => ScanEnds w (scanR s) e w' := by
  have HR : Hid (scanR s = ⟨2, wrongR s, st0⟩) := by show _ = _; unfold scanR; rw [if_neg (by omega), if_pos hw]
  have g : decide (65536 < s.size) = false := decide_eq_false (by omega)
  have HT := Lib.hid ht
  have HTT := Lib.hid hT
  clear ht hT
  go_enter_defers Tryd.func28, Tryd.ntmps28
  go_wp2_with fail
  have HW3 := Lib.hid (wrong_any s a cap (((w.alloc (.cells #[.string ⟨#[]⟩, .int .i64 0, .slice none 0 0, .slice none 0 0] 55)).alloc (.cells #[.int .i64 0] 3)).alloc (.cells #[.int .i64 0] 22)) (by omega) (HT.out.below three.2.2.2) (HTT.out.below three.2.2.2) hcap)
  refine HW3.out.mono ?_
  rintro e W4 ⟨rfl, hb4⟩
  obtain ⟨h1, h2, h3, h4⟩ := behind hb4
  have HB4 := Lib.hid h4
  have H1 := Lib.hid h1
  have H2 := Lib.hid h2
  have H3 := Lib.hid h3
  clear hb4 h4 HW3
  obtain ⟨b0, b1, b2, b3, kb⟩ := cells4 h1
  have c0 := cell_of_one h2
  have kc := free_of_one h2
  have d0 := cell_of_one h3
  have kd := free_of_one h3
  have n1 : w.heap.size ≠ w.heap.size + 1 := by omega
  have n2 : w.heap.size ≠ w.heap.size + 1 + 1 := by omega
  have n4 : w.heap.size + 1 ≠ w.heap.size + 1 + 1 := by omega
  clear h1 h2 h3
  generalize hv : wrongR s = v at *
  clear hv
  go_wp2
  obtain ⟨q1, q2, q3, -, q5⟩ := put6 H1.out H2.out H3.out (s1 := .string ⟨#[]⟩) (a1 := .int .i64 0) (x1 := .slice none 0 0) (y1 := .slice none 0 0) (v1 := .int .i64 v) (e1 := .int .i64 2) (by omega) (by omega) _ rfl
  refine ⟨_, scan_results _ _ w.heap.size (w.heap.size + 1) (w.heap.size + 1 + 1) _ _ _ _ _ _ rfl rfl rfl q1 q2 q3, ?_⟩
  rw [HR.out]
  exact ⟨HB4.out.trans (q5 _ (Nat.le_refl _)), _, _, _, rfl, sc_empty q1 (Nat.le_refl _)⟩

theorem sc_text {w : World} {b base : Nat} (t : ByteArray) (h : w.heap[b]? = some (.cells #[.string ⟨#[]⟩, .int .i64 0, .slice none 0 0, .slice none 0 0] 55 (0, 0))) (hb : base ≤ b) : InM (w.setCell ⟨b, 0, none⟩ (.string t)) b base t ⟨0, [], []⟩ :=
  ⟨.slice none 0 0, .slice none 0 0, block_setCell h (i := 0) (.string t), ⟨rfl, .inl ⟨rfl, rfl⟩⟩, ⟨rfl, .inl ⟨rfl, rfl⟩⟩, (fun _ h => by cases h), (fun _ h => by cases h), fun _ => rfl, fun _ => rfl, hb⟩

theorem row_slice {w : World} {base n : Nat} {v : Value} {xs : List Value} (h : w.ownsRow base 35 3 v n xs) : ∃ a m c, v = .slice a m c := by
  rcases h.2 with ⟨h, _⟩ | ⟨g, cap, _, h, _⟩
  · exact ⟨_, _, _, h⟩
  · exact ⟨_, _, _, h⟩

/-- The scanner in another world that holds its block and the rows of tokens. -/
theorem Sc.cells {w w' : World} {b base : Nat} {t : ByteArray} {p : Nat} {vt vn : Value} {toks notes : List Tk} (h : Sc w b base t p vt vn toks notes) (hb : w'.heap[b]? = some (.cells #[.string t, .int .i64 p, vt, vn] 55 (0, 0)))
    (hw : ∀ (k : Nat) (c : Array Value) (fz : Nat × Nat), w.heap[k]? = some (Obj.cells c 35 fz) → w'.heap[k]? = w.heap[k]?) : Sc w' b base t p vt vn toks notes := by
  have aux : ∀ {v n xs}, w.ownsRow base 35 3 v n xs → w'.ownsRow base 35 3 v n xs := by
    intro v n xs ho
    obtain ⟨h1, h2⟩ := ho
    refine ⟨h1, ?_⟩
    rcases h2 with h2 | ⟨g, cap, cur, hv, hg, hh, r⟩
    · exact .inl h2
    · exact .inr ⟨g, cap, cur, hv, hg, (hw g _ _ hh).trans hh, r⟩
  exact ⟨hb, aux h.rowT, aux h.rowN, h.kindT, h.kindN, h.nilT, h.nilN, h.above⟩

theorem InM.box {w : World} {b base : Nat} {t : ByteArray} {x : St} (h : InM w b base t x) : ∃ vt vn, Sc w b base t x.at_ vt vn x.toks x.notes := h

set_option maxHeartbeats 2000000 in
theorem scan_rest (s : ByteArray) (a : Option Addr) (cap : Nat) (w : World) (hs : s.size ≤ 65536) (hw : ¬ 0 ≤ wrongR s) (ht : Text w a s) (hT : Tabs w) (hm : MaxLen w) (hcap : s.size ≤ cap) :
    Calls Tryd.prog 28 #[.slice a s.size cap] w fun e w' => ScanEnds w (scanR s) e w' := by
  have hmf : ∀ (fn : Fn) (first cap : Array Value) (w : World), (Instr.makeFunc fn first cap).run Tryd.prog w = .ok (.func fn first cap) w := fun _ _ _ _ => rfl
  have HR : Hid (scanR s = match allP s with | .ok x => ⟨0, 0, x⟩ | .error p => ⟨3, p, st0⟩) := by show _ = _; unfold scanR; rw [if_neg (by omega), if_neg hw]
  have g : decide (65536 < s.size) = false := decide_eq_false (by omega)
  have hv0 : decide (0 ≤ wrongR s) = false := decide_eq_false hw
  clear hw
  have HT := Lib.hid ht
  have HTT := Lib.hid hT
  have HM := Lib.hid hm
  have hglob : 2 < w.heap.size := by
    obtain ⟨m, hm⟩ := hm
    rcases Nat.lt_or_ge 2 w.heap.size with h' | h'
    · exact h'
    · simp [World.cell?, Array.getElem?_eq_none h'] at hm
  clear ht hT hm
  go_enter_defers Tryd.func28, Tryd.ntmps28
  go_wp2_with fail
  have HW3 := Lib.hid (wrong_any s a cap (((w.alloc (.cells #[.string ⟨#[]⟩, .int .i64 0, .slice none 0 0, .slice none 0 0] 55)).alloc (.cells #[.int .i64 0] 3)).alloc (.cells #[.int .i64 0] 22)) (by omega) (HT.out.below three.2.2.2) (HTT.out.below three.2.2.2) hcap)
  refine HW3.out.mono ?_
  rintro e W4 ⟨rfl, hb4⟩
  obtain ⟨h1, h2, h3, h4⟩ := behind hb4
  have HB4 := Lib.hid h4
  have H1 := Lib.hid h1
  have H2 := Lib.hid h2
  have H3 := Lib.hid h3
  have hconv := (HT.out.below h4).conv cap
  have HM4 := Lib.hid ((Keeps.of_below (n0 := w.heap.size) (b := w.heap.size) h4).max HM.out hglob (Nat.le_refl _))
  clear hb4 h4 HW3
  obtain ⟨b0, b1, b2, b3, kb⟩ := cells4 h1
  have n1 : w.heap.size ≠ w.heap.size + 1 := by omega
  have n2 : w.heap.size ≠ w.heap.size + 1 + 1 := by omega
  have n4 : w.heap.size + 1 ≠ w.heap.size + 1 + 1 := by omega
  clear h1 h2 h3
  generalize hv : wrongR s = v at *
  clear hv
  go_wp2_with fail
  have HI := Lib.hid (sc_text (base := w.heap.size) s H1.out (Nat.le_refl _))
  have HK4 := Lib.hid (Keeps.setCell (n0 := w.heap.size) (b := w.heap.size) (o := 0) W4 (.string s))
  have HM5 := Lib.hid (HK4.out.max HM4.out hglob (Nat.le_refl _))
  have hz : (W4.setCell ⟨w.heap.size, 0, none⟩ (.string s)).heap.size = W4.heap.size := by simp
  have H25 := Lib.hid ((Below.heap_setCell W4 ⟨w.heap.size, 0, none⟩ (.string s) (w.heap.size + 1) (by simp)).trans H2.out)
  have H35 := Lib.hid ((Below.heap_setCell W4 ⟨w.heap.size, 0, none⟩ (.string s) (w.heap.size + 1 + 1) (by show w.heap.size + 1 + 1 ≠ w.heap.size; omega)).trans H3.out)
  have HB5 := Lib.hid (HB4.out.setCell (p := ⟨w.heap.size, 0, none⟩) (Nat.le_refl _) (.string s))
  refine (all_any (W4.setCell ⟨w.heap.size, 0, none⟩ (.string s)) w.heap.size w.heap.size s HI.out HM5.out hglob (by omega)).mono ?_
  intro e W6 hE
  clear b0 b1 b2 b3 kb hconv hz hv0 g
  generalize W4.setCell ⟨w.heap.size, 0, none⟩ (.string s) = W5 at *
  obtain ⟨hk, hE⟩ := hE
  have h26 : W6.heap[w.heap.size + 1]? = some (.cells #[.int .i64 0] 3 (0, 0)) := (hk.block _ (lt_of_block H25.out) (by omega) (.inr fun c fz e => by rw [H25.out] at e; injection e with e; injection e with _ e; revert e; decide)).trans H25.out
  have h36 : W6.heap[w.heap.size + 1 + 1]? = some (.cells #[.int .i64 0] 22 (0, 0)) := (hk.block _ (lt_of_block H35.out) (by omega) (.inr fun c fz e => by rw [H35.out] at e; injection e with e; injection e with _ e; revert e; decide)).trans H35.out
  have HB6 : Hid (Below w.heap.size w W6) := HB5.out.trans ⟨hk.os, hk.tape, hk.output, hk.size, fun k hk' => hk.block k (Nat.lt_of_lt_of_le hk' HB5.out.size) (by omega) (.inl hk')⟩
  have HX := HR
  cases hA : allP s with
  | ok x =>
    rw [hA] at hE
    obtain ⟨rfl, vt, vn, hS⟩ := hE
    have HS := Lib.hid hS
    have HQ : Hid (scanR s = ⟨0, 0, x⟩) := by show _ = _; rw [HR.out, hA]
    obtain ⟨b0, b1, b2, b3, kb⟩ := cells4 hS.box
    have H26 := Lib.hid h26
    have H36 := Lib.hid h36
    have c0 := cell_of_one h26
    have kc := free_of_one h26
    have d0 := cell_of_one h36
    have kd := free_of_one h36
    obtain ⟨ta, tn, tc, rfl⟩ := row_slice hS.rowT
    obtain ⟨na, nn, nc, rfl⟩ := row_slice hS.rowN
    clear hS hA h26 h36 hk HX HR HI HK4 HM5 HM4
    go_wp2
    obtain ⟨q1, q2, q3, q4, q5⟩ := put6 HS.out.box H26.out H36.out (s1 := .string s) (a1 := .int .i64 x.at_) (x1 := .slice ta tn tc) (y1 := .slice na nn nc) (v1 := .int .i64 0) (e1 := .int .i64 0) (by omega) (by omega) _ rfl
    have hS7 := HS.out.cells q1 (fun k c fz hk => q4 k (fun e => by subst e; rw [HS.out.box] at hk; injection hk with hk; injection hk with _ hk; revert hk; decide) (fun e => by subst e; rw [H26.out] at hk; injection hk with hk; injection hk with _ hk; revert hk; decide) (fun e => by subst e; rw [H36.out] at hk; injection hk with hk; injection hk with _ hk; revert hk; decide))
    have hB7 := HB6.out.trans (q5 _ (Nat.le_refl _))
    generalize ((((((W6.setCell ⟨w.heap.size, 0, none⟩ (.string s)).setCell ⟨w.heap.size, 1, none⟩ (.int .i64 x.at_)).setCell ⟨w.heap.size, 2, none⟩ (.slice ta tn tc)).setCell ⟨w.heap.size, 3, none⟩ (.slice na nn nc)).setCell ⟨w.heap.size + 1, 0, none⟩ (.int .i64 0)).setCell ⟨w.heap.size + 1 + 1, 0, none⟩ (.int .i64 0)) = W7 at *
    refine leaves_cons (f := 42) (args := #[.pointer (some ⟨w.heap.size, 0, none⟩), .pointer (some ⟨w.heap.size + 1, 0, none⟩), .pointer (some ⟨w.heap.size + 1 + 1, 0, none⟩)]) (by simp) (by simp [go_sem]) ?_
    refine (catch_idle _ _ _ W7).mono ?_
    rintro e u' w8 ⟨rfl, rfl, hb8⟩
    have r2 := (hb8.block _ (lt_of_block q2)).trans q2
    have r3 := (hb8.block _ (lt_of_block q3)).trans q3
    have hS8 := hS7.below hb8
    refine ⟨_, scan_results _ _ w.heap.size (w.heap.size + 1) (w.heap.size + 1 + 1) _ _ _ _ _ _ rfl rfl rfl hS8.box r2 r3, ?_⟩
    rw [HQ.out]
    exact ⟨hB7.trans (hb8.mono hB7.size), _, _, _, rfl, hS8⟩
  | error p =>
    rw [hA] at hE
    subst hE
    have HQ : Hid (scanR s = ⟨3, p, st0⟩) := by show _ = _; rw [HR.out, hA]
    obtain ⟨s0, a0, x0, y0, hbox⟩ := hk.box (by obtain ⟨_, _, h⟩ := HI.out; exact ⟨_, _, _, _, h.box⟩)
    have HBX := Lib.hid hbox
    have H26 := Lib.hid h26
    have H36 := Lib.hid h36
    clear HX HR hbox h26 h36 hk HI HK4 HM5 HM4 hA
    go_wp2
    refine leaves_cons (f := 42) (args := #[.pointer (some ⟨w.heap.size, 0, none⟩), .pointer (some ⟨w.heap.size + 1, 0, none⟩), .pointer (some ⟨w.heap.size + 1 + 1, 0, none⟩)]) (by simp) (by simp [go_sem]) ?_
    refine (catch_fault _ _ _ p W6 _ _ _ _ _ _ HBX.out H26.out H36.out (by omega) (by omega)).mono ?_
    rintro e u' w8 ⟨rfl, rfl, q1, q2, q3, q4⟩
    refine ⟨_, scan_results _ _ w.heap.size (w.heap.size + 1) (w.heap.size + 1 + 1) _ _ _ _ _ _ rfl rfl rfl q1 q2 q3, ?_⟩
    rw [HQ.out]
    exact ⟨HB6.out.trans (q4 _ (Nat.le_refl _)), _, _, _, rfl, sc_empty q1 (Nat.le_refl _)⟩

theorem scan_any (s : ByteArray) (a : Option Addr) (cap : Nat) (w : World) (ht : Text w a s) (hT : Tabs w) (hm : MaxLen w) (hcap : s.size ≤ cap) :
    Calls Tryd.prog 28 #[.slice a s.size cap] w fun e w' => ScanEnds w (scanR s) e w' := by
  by_cases h : 65536 < s.size
  · exact scan_long s a cap w h
  · by_cases hw : 0 ≤ wrongR s
    · exact scan_wrong s a cap w (by omega) hw ht hT hcap
    · exact scan_rest s a cap w (by omega) hw ht hT hm hcap
end Go.Proofs.YtijinpnbhnfiiaaDoor
