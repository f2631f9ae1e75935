/- package token: the scanner in memory; a line's end. -/
import Derived.Test.YtijinpnbhnfiiaaDoorTok4
import Derived.Test.YtijinpnbhnfiiaaDoorApp
import Derived.Lib.SmallJoins
import Derived.Lib.OwnKind
namespace Go.Proofs.YtijinpnbhnfiiaaDoor
open Go.RowKit Go.Joins

def Tk.cells (t : Tk) : List Value := [.int .i64 t.kind, .string t.text, .int .i64 t.at_]
def cellsOf (l : List Tk) : List Value := l.flatMap Tk.cells

theorem cellsOf_length (l : List Tk) : (cellsOf l).length = l.length * 3 := by
  induction l with
  | nil => rfl
  | cons t l ih => simp [cellsOf, Tk.cells] at *; omega

theorem cellsOf_append (l m : List Tk) : cellsOf (l ++ m) = cellsOf l ++ cellsOf m := by simp [cellsOf]

/-- The scanner in memory: its text, where it stands, its tokens and notes, in rows of its own. -/
structure Sc (w : World) (b base : Nat) (text : ByteArray) (at_ : Nat) (vt vn : Value) (toks notes : List Tk) : Prop where
  box : w.heap[b]? = some (.cells #[.string text, .int .i64 at_, vt, vn] 55 (0, 0))
  rowT : w.ownsRow base 35 3 vt toks.length (cellsOf toks)
  rowN : w.ownsRow base 35 3 vn notes.length (cellsOf notes)
  kindT : ∀ t ∈ toks, t.kind ≠ 0
  kindN : ∀ t ∈ notes, t.kind = 0
  nilT : toks = [] → vt = .slice none 0 0
  nilN : notes = [] → vn = .slice none 0 0
  above : base ≤ b

section
variable {w w' : World} {b base : Nat} {text : ByteArray} {at_ : Nat} {vt vn : Value} {toks notes : List Tk}

theorem Sc.cell (h : Sc w b base text at_ vt vn toks notes) :
    w.cell? ⟨b, 0, none⟩ = some (.string text) ∧ w.cell? ⟨b, 1, none⟩ = some (.int .i64 at_) ∧ w.cell? ⟨b, 2, none⟩ = some vt ∧ w.cell? ⟨b, 3, none⟩ = some vn := by
  have e := h.box
  simp [World.cell?, e]

theorem first_kind {v : Value} {l : List Tk} {t : Tk} {g : Nat} (h : w.ownsRow base 35 3 v (t :: l).length (cellsOf (t :: l))) (hg : v.ownBlock = some g) : w.cell? ⟨g, 0, none⟩ = some (.int .i64 t.kind) :=
  h.cells hg 0 _ rfl

theorem Sc.apart (h : Sc w b base text at_ vt vn toks notes) : vt.ownBlock = none ∨ vt.ownBlock ≠ vn.ownBlock := by
  cases ht : toks with
  | nil => left; rw [h.nilT ht]; rfl
  | cons t l =>
    right
    intro e
    have hT := h.rowT
    rw [ht] at hT
    obtain ⟨g, cap, rfl⟩ := ownsRow_form hT (by simp)
    have c1 := first_kind hT rfl
    cases hn : notes with
    | nil => rw [h.nilN hn] at e; cases e
    | cons n m =>
      have hN := h.rowN
      rw [hn] at hN
      have c2 := first_kind hN e.symm
      have e2 := c1.symm.trans c2
      have k1 := h.kindT t (by rw [ht]; exact .head _)
      have k2 := h.kindN n (by rw [hn]; exact .head _)
      have e3 : ((t.kind : Nat) : Int) = ((n.kind : Nat) : Int) := by injection e2 with e2; injection e2
      omega

theorem Sc.off (h : Sc w b base text at_ vt vn toks notes) : vt.ownBlock ≠ some b ∧ vn.ownBlock ≠ some b := by
  constructor <;> intro e
  · obtain ⟨c, fz, hc⟩ := Lib.ownsRow_kind h.rowT b e
    rw [h.box] at hc
    injection hc with hc; injection hc with _ hc; revert hc; decide
  · obtain ⟨c, fz, hc⟩ := Lib.ownsRow_kind h.rowN b e
    rw [h.box] at hc
    injection hc with hc; injection hc with _ hc; revert hc; decide

/-- A scanner stands at b, whatever it holds. -/
def Box4 (w : World) (b : Nat) : Prop := ∃ s0 a0 x0 y0 : Value, w.heap[b]? = some (.cells #[s0, a0, x0, y0] 55 (0, 0))

theorem Box4.same {w w' : World} {b : Nat} (h : Box4 w b) (e : b < w.heap.size → w'.heap[b]? = w.heap[b]?) : Box4 w' b := by
  obtain ⟨s0, a0, x0, y0, h⟩ := h
  exact ⟨s0, a0, x0, y0, (e (lt_of_block h)).trans h⟩

theorem Box4.setCell {w : World} {b : Nat} (h : Box4 w b) (o : Nat) (v : Value) : Box4 (w.setCell ⟨b, o, none⟩ v) b := by
  obtain ⟨s0, a0, x0, y0, h⟩ := h
  have e := block_setCell h (i := o) v
  match o, e with
  | 0, e => exact ⟨v, a0, x0, y0, e⟩
  | 1, e => exact ⟨s0, v, x0, y0, e⟩
  | 2, e => exact ⟨s0, a0, v, y0, e⟩
  | 3, e => exact ⟨s0, a0, x0, v, e⟩
  | n + 4, e => exact ⟨s0, a0, x0, y0, by rw [e]; rfl⟩

/-- What a scanner's step leaves as it was: all but the scanner, and rows of tokens behind n0. -/
structure Keeps (n0 b : Nat) (w w' : World) : Prop where
  os : w'.os = w.os
  tape : w'.tape = w.tape
  output : w'.output = w.output
  size : w.heap.size ≤ w'.heap.size
  block : ∀ k, k < w.heap.size → k ≠ b → (k < n0 ∨ ∀ c fz, w.heap[k]? ≠ some (.cells c 35 fz)) → w'.heap[k]? = w.heap[k]?
  box : Box4 w b → Box4 w' b

theorem Keeps.refl (n0 b : Nat) (w : World) : Keeps n0 b w w := ⟨rfl, rfl, rfl, Nat.le_refl _, fun _ _ _ _ => rfl, id⟩
theorem Keeps.trans {n0 b : Nat} {u v w : World} (h : Keeps n0 b u v) (k : Keeps n0 b v w) : Keeps n0 b u w :=
  ⟨k.os.trans h.os, k.tape.trans h.tape, k.output.trans h.output, Nat.le_trans h.size k.size, fun i hi hb ho => by
    have e := h.block i hi hb ho
    exact (k.block i (Nat.lt_of_lt_of_le hi h.size) hb (ho.imp id fun g c fz => by rw [e]; exact g c fz)).trans e, fun hx => k.box (h.box hx)⟩
theorem Keeps.of_below {n0 b : Nat} {u v : World} (h : Below u.heap.size u v) : Keeps n0 b u v :=
  ⟨h.os, h.tape, h.output, h.size, fun k hk _ _ => h.block k hk, fun hx => hx.same fun hlt => h.block b hlt⟩
theorem Keeps.grown {n0 b : Nat} {u v : World} {r : Value} {n : Nat} {xs : List Value} (h : u.grownBy v r.ownBlock) (hr : u.ownsRow n0 35 3 r n xs) : Keeps n0 b u v :=
  ⟨h.os, h.tape, h.output, h.size, fun k hk _ ho => h.block k hk fun e => by
    obtain ⟨c, fz, hc⟩ := Lib.ownsRow_kind hr k e.symm
    rcases ho with ho | ho
    · have := (hr.lt k e.symm).1; omega
    · exact ho c fz hc, fun hx => hx.same fun hlt => h.block b hlt fun e => by
    obtain ⟨c, fz, hc⟩ := Lib.ownsRow_kind hr b e.symm
    obtain ⟨_, _, _, _, hx⟩ := hx
    rw [hx] at hc
    injection hc with hc; injection hc with _ hc; revert hc; decide⟩
theorem Keeps.setCell {n0 b o : Nat} (u : World) (v : Value) : Keeps n0 b u (u.setCell ⟨b, o, none⟩ v) :=
  ⟨rfl, rfl, rfl, by simp, fun k _ hb _ => Below.heap_setCell u _ v k hb, fun hx => hx.setCell o v⟩

theorem Sc.below (h : Sc w b base text at_ vt vn toks notes) (hb : Below w.heap.size w w') : Sc w' b base text at_ vt vn toks notes := by
  have g : w.grownBy w' none := ⟨hb.os, hb.tape, hb.output, hb.size, fun k hk _ => hb.block k hk⟩
  have hlt : b < w.heap.size := by
    rcases Nat.lt_or_ge b w.heap.size with h' | h'
    · exact h'
    · have := h.box; rw [Array.getElem?_eq_none h'] at this; cases this
  have aux : ∀ v : Value, v.ownBlock = none ∨ v.ownBlock ≠ none := fun v => by cases v.ownBlock <;> simp
  exact ⟨(hb.block b hlt).trans h.box, h.rowT.kept g (aux _), h.rowN.kept g (aux _), h.kindT, h.kindN, h.nilT, h.nilN, h.above⟩
end

theorem last_cells {w : World} {base : Nat} {vt : Value} {l : List Tk} {t : Tk} (h : w.ownsRow base 35 3 vt (l ++ [t]).length (cellsOf (l ++ [t]))) :
    ∃ g cap, vt = .slice (some ⟨g, 0, none⟩) (l.length + 1) cap ∧ l.length + 1 ≤ cap ∧ cap ≤ maxLen ∧ w.cell? ⟨g, l.length * 3, none⟩ = some (.int .i64 t.kind) ∧ w.cell? ⟨g, l.length * 3 + 1, none⟩ = some (.string t.text) ∧ w.cell? ⟨g, l.length * 3 + 2, none⟩ = some (.int .i64 t.at_) := by
  have hlen : (l ++ [t]).length = l.length + 1 := by simp
  rw [hlen] at h
  obtain ⟨g, cap, rfl⟩ := ownsRow_form h (by omega)
  have hc := h.cellAt
  have hq : ∀ i, i < 3 → (cellsOf (l ++ [t]))[l.length * 3 + i]? = t.cells[i]? := fun i hi => by
    rw [cellsOf_append, List.getElem?_append_right (by rw [cellsOf_length]; omega), cellsOf_length, show l.length * 3 + i - l.length * 3 = i by omega]
    simp [cellsOf]
  refine ⟨g, cap, rfl, ?_, ?_, ?_, ?_, ?_⟩
  · rcases h.2 with ⟨h, _⟩ | ⟨_, _, _, h, _, _, h1, _⟩
    · cases h
    · cases h; exact h1
  · rcases h.2 with ⟨h, _⟩ | ⟨_, _, _, h, _, _, _, h1, _⟩
    · cases h
    · cases h; exact h1
  · exact (hc _ (by omega)).trans (hq 0 (by omega))
  · exact (hc _ (by omega)).trans (hq 1 (by omega))
  · exact (hc _ (by omega)).trans (hq 2 (by omega))

theorem Tryd.info35 : (Tryd.prog.info? 35).map (fun i => (i.zero, i.size, i.bytes)) = some (some (.agg #[.int .i64 0, .string ⟨#[]⟩, .int .i64 0]), 3, 32) := by kernel_rfl

/-- append of one token, laid in a block of its own. -/
theorem app_tok {ops : Array Oper} {rest : List Oper} {o : Oper} {act : Act} {Q : Exit → Act → World → Prop} {w : World} (ki : Int) (tx : ByteArray) (ai : Int) (hgd : o.guard = none) (x y : Operand)
    (ho : o.op = .call { callee := .builtin .append, args := #[x, y], argTypes := #[30, 30] }) (base : Nat) (v : Value) (n : Nat) (xs : List Value) (hs : act.eval x = v) (hown : (w.alloc (.cells #[.int .i64 ki, .string tx, .int .i64 ai] 35)).ownsRow base 35 3 v n xs)
    (hy : act.eval y = .slice (some ⟨w.heap.size, 0, none⟩) 1 1) (hn : n ≤ 1000000) (hbase : base ≤ w.heap.size)
    (h : ∀ v' w', w'.ownsRow base 35 3 v' (n + 1) (xs ++ [.int .i64 ki, .string tx, .int .i64 ai]) → (w.alloc (.cells #[.int .i64 ki, .string tx, .int .i64 ai] 35)).grownBy w' v.ownBlock → wpList Tryd.prog ops Q rest (act.put o.dst v') w') : wpList Tryd.prog ops Q (o :: rest) act (w.alloc (.cells #[.int .i64 ki, .string tx, .int .i64 ai] 35)) := by
  obtain ⟨i0, hi, hz0, hz1, hz2⟩ := info_parts Tryd.info35
  refine wpList_append_own _ hgd x y 30 ho base 35 i0 _ 3 32 Tryd.underlying30 hi hz0 hz1 hz2 rfl (by decide) v n xs hs hown ⟨w.heap.size, 0, none⟩ 1 1 [.int .i64 ki, .string tx, .int .i64 ai] hy rfl (fun j u hj => ?_) (fun u hu => ?_) (by unfold maxLen; omega) (by omega) (by simp; omega) (fun v' w' h1 h2 _ => h v' w' h1 h2)
  · have e := heap_alloc_new w (.cells #[.int .i64 ki, .string tx, .int .i64 ai] 35)
    rw [plain_add, Nat.zero_add]
    simp only [World.cell?, e]
    simpa using hj
  · simp at hu
    rcases hu with rfl | rfl | rfl <;> rfl

def nlT : ByteArray := ⟨#[10]⟩
/-- The tokens behind a line's end at p. -/
def endL (l : List Tk) (p : Nat) : List Tk := match l.getLast? with
  | some t => if endsB t then l ++ [⟨6, nlT, p⟩] else l
  | none => l

theorem endL_nil (p : Nat) : endL [] p = [] := rfl
theorem endL_no {l : List Tk} {t : Tk} (h : endsB t = false) (p : Nat) : endL (l ++ [t]) p = l ++ [t] := by unfold endL; simp [h]
theorem endL_yes {l : List Tk} {t : Tk} (h : endsB t = true) (p : Nat) : endL (l ++ [t]) p = l ++ [t] ++ [⟨6, nlT, p⟩] := by unfold endL; simp [h]

theorem endLine_no (w : World) (b base : Nat) (text : ByteArray) (at_ : Nat) (vt vn : Value) (l notes : List Tk) (t : Tk) (p : Nat) (h : Sc w b base text at_ vt vn (l ++ [t]) notes) (he : endsB t = false) :
    Calls Tryd.prog 54 #[.pointer (some ⟨b, 0, none⟩), .int .i64 p] w fun e w' => e = .returned (.tuple #[]) ∧ Below w.heap.size w w' := by
  obtain ⟨g, cap, rfl, hcap, hmax, c0, c1, c2⟩ := last_cells h.rowT
  have hb : ∀ x : Kept w, x.W.cell? ⟨b, 2, none⟩ = some (.slice (some ⟨g, 0, none⟩) (l.length + 1) cap) := fun x => Kept.cell h.cell.2.2.1 x
  have d0 : ∀ x : Kept w, x.W.cell? ⟨g, l.length * 3, none⟩ = some (.int .i64 t.kind) := fun x => Kept.cell c0 x
  have d1 : ∀ x : Kept w, x.W.cell? ⟨g, l.length * 3 + 1, none⟩ = some (.string t.text) := fun x => Kept.cell c1 x
  have d2 : ∀ x : Kept w, x.W.cell? ⟨g, l.length * 3 + 2, none⟩ = some (.int .i64 t.at_) := fun x => Kept.cell c2 x
  clear c0 c1 c2 h
  have HC : Hid (∀ x : Kept w, Calls Tryd.prog 74 #[.agg #[.int .i64 t.kind, .string t.text, .int .i64 t.at_]] x.W fun e w'' => e = .returned (.bool false) ∧ ∃ y : Kept w, w'' = y.W) := fun x => kept_call (by have := endsLine_any t x.W; rw [he] at this; exact this)
  generalize l.length = n at *
  have hw : wrap64 ((n : Nat) : Int) = (n : Int) := by
    unfold maxLen at hmax
    unfold wrap64
    omega
  go_enter Tryd.func54, Tryd.ntmps54
  go_wp2_with fail
  refine wp_region_kept (by kernel_rfl) (by kernel_rfl) ?_
  repeat (go_big_quiet_step ((go_at_call 74; exact HC.out _)))
  refine wpQuiet_nil ?_
  rintro _ ⟨x, rfl⟩
  go_wp2
  refine bodyPost_end (results_none rfl _ _ _) rfl ?_
  exact ⟨rfl, x.h⟩

theorem endLine_nil (w : World) (b base : Nat) (text : ByteArray) (at_ : Nat) (vt vn : Value) (notes : List Tk) (p : Nat) (h : Sc w b base text at_ vt vn [] notes) :
    Calls Tryd.prog 54 #[.pointer (some ⟨b, 0, none⟩), .int .i64 p] w fun e w' => e = .returned (.tuple #[]) ∧ Below w.heap.size w w' := by
  obtain rfl := h.nilT rfl
  have hb : ∀ x : Kept w, x.W.cell? ⟨b, 2, none⟩ = some (.slice none 0 0) := fun x => Kept.cell h.cell.2.2.1 x
  clear h
  go_enter Tryd.func54, Tryd.ntmps54
  go_wp2_with fail
  refine wp_region_kept (by kernel_rfl) (by kernel_rfl) ?_
  repeat (go_big_quiet_step (fail))
  refine wpQuiet_nil ?_
  rintro _ ⟨x, rfl⟩
  go_wp2
  refine bodyPost_end (results_none rfl _ _ _) rfl ?_
  exact ⟨rfl, x.h⟩

theorem sc_grown {w w' : World} {b base : Nat} {text : ByteArray} {at_ : Nat} {vt vn : Value} {toks notes : List Tk} {o : Obj} (h : Sc w b base text at_ vt vn toks notes) (hg : (w.alloc o).grownBy w' vt.ownBlock) :
    w'.heap[b]? = some (.cells #[.string text, .int .i64 at_, vt, vn] 55 (0, 0)) := by
  have hlt := lt_of_block h.box
  rw [hg.block b (by simp; omega) (fun e => h.off.1 e.symm), Below.heap_alloc w o b hlt]
  exact h.box

theorem sc_spot {w : World} {b : Nat} {text : ByteArray} {at_ : Nat} {vt vn : Value} (h : w.heap[b]? = some (.cells #[.string text, .int .i64 at_, vt, vn] 55 (0, 0))) :
    w.cell? ⟨b, 2, none⟩ = some vt ∧ w.frozen? ⟨b, 2, none⟩ = false ∧ w.cell? ⟨b, 3, none⟩ = some vn ∧ w.frozen? ⟨b, 3, none⟩ = false ∧ w.cell? ⟨b, 1, none⟩ = some (.int .i64 at_) ∧ w.frozen? ⟨b, 1, none⟩ = false := by
  refine ⟨?_, ?_, ?_, ?_, ?_, ?_⟩ <;> simp [World.cell?, World.frozen?, h]

/-- The scanner with one token more. -/
theorem sc_put {w w' : World} {b base : Nat} {text : ByteArray} {at_ : Nat} {vt vn v' : Value} {toks notes : List Tk} {o : Obj} (h : Sc w b base text at_ vt vn toks notes) (tn : Tk) (hk : tn.kind ≠ 0)
    (hg : (w.alloc o).grownBy w' vt.ownBlock) (hown : w'.ownsRow base 35 3 v' (toks.length + 1) (cellsOf toks ++ tn.cells)) :
    Sc (w'.setCell ⟨b, 2, none⟩ v') b base text at_ v' vn (toks ++ [tn]) notes ∧ Keeps base b w (w'.setCell ⟨b, 2, none⟩ v') := by
  have hbox := sc_grown h hg
  have off' : v'.ownBlock ≠ some b := fun e => by
    obtain ⟨c, fz, hc⟩ := Lib.ownsRow_kind hown b e
    rw [hbox] at hc
    injection hc with hc; injection hc with _ hc; revert hc; decide
  have hap : vn.ownBlock = none ∨ vn.ownBlock ≠ vt.ownBlock := by
    rcases h.apart with e | e
    · rw [e]; cases vn.ownBlock <;> simp
    · exact .inr fun q => e q.symm
  refine ⟨⟨?_, ?_, ?_, ?_, h.kindN, ?_, h.nilN, h.above⟩, ?_⟩
  · exact block_setCell hbox v'
  · have e : cellsOf (toks ++ [tn]) = cellsOf toks ++ tn.cells := by rw [cellsOf_append]; simp [cellsOf]
    rw [e, show (toks ++ [tn]).length = toks.length + 1 by simp]
    exact ownsRow_setCell_other hown off' _
  · exact ownsRow_setCell_other ((h.rowN.alloc o).kept hg hap) (h.off.2) _
  · intro t ht
    rcases List.mem_append.1 ht with ht | ht
    · exact h.kindT t ht
    · simp at ht; subst ht; exact hk
  · intro e; simp at e
  · refine Keeps.trans ?_ (Keeps.setCell _ _)
    exact Keeps.trans (Keeps.of_below ((Below.refl _ w).alloc (Nat.le_refl _) o)) (Keeps.grown hg (h.rowT.alloc o))

theorem endLine_yes (w : World) (b base : Nat) (text : ByteArray) (at_ : Nat) (vt vn : Value) (l notes : List Tk) (t : Tk) (p : Nat) (h : Sc w b base text at_ vt vn (l ++ [t]) notes) (hl : l.length < 999999) (he : endsB t = true) :
    Calls Tryd.prog 54 #[.pointer (some ⟨b, 0, none⟩), .int .i64 p] w fun e w' => e = .returned (.tuple #[]) ∧ Keeps base b w w' ∧ ∃ vt', Sc w' b base text at_ vt' vn (l ++ [t] ++ [⟨6, nlT, p⟩]) notes := by
  have HS := Lib.hid h
  obtain ⟨g, cap, rfl, hcap, hmax, c0, c1, c2⟩ := last_cells h.rowT
  have hb : ∀ x : Kept w, x.W.cell? ⟨b, 2, none⟩ = some (.slice (some ⟨g, 0, none⟩) (l.length + 1) cap) := fun x => Kept.cell h.cell.2.2.1 x
  have d0 : ∀ x : Kept w, x.W.cell? ⟨g, l.length * 3, none⟩ = some (.int .i64 t.kind) := fun x => Kept.cell c0 x
  have d1 : ∀ x : Kept w, x.W.cell? ⟨g, l.length * 3 + 1, none⟩ = some (.string t.text) := fun x => Kept.cell c1 x
  have d2 : ∀ x : Kept w, x.W.cell? ⟨g, l.length * 3 + 2, none⟩ = some (.int .i64 t.at_) := fun x => Kept.cell c2 x
  clear c0 c1 c2 h
  have HC : Hid (∀ x : Kept w, Calls Tryd.prog 74 #[.agg #[.int .i64 t.kind, .string t.text, .int .i64 t.at_]] x.W fun e w'' => e = .returned (.bool true) ∧ ∃ y : Kept w, w'' = y.W) := fun x => kept_call (by have := endsLine_any t x.W; rw [he] at this; exact this)
  have HL : Hid ((l ++ [t]).length = l.length + 1) := by show _ = _; simp
  generalize hln : l.length = n at *
  have HN := Lib.hid hln
  clear hln
  have hw : wrap64 ((n : Nat) : Int) = (n : Int) := by
    unfold maxLen at hmax
    unfold wrap64
    omega
  go_enter Tryd.func54, Tryd.ntmps54
  go_wp2_with fail
  refine wp_region_kept (by kernel_rfl) (by kernel_rfl) ?_
  repeat (go_big_quiet_step ((go_at_call 74; exact HC.out _)))
  refine wpQuiet_nil ?_
  rintro _ ⟨x, rfl⟩
  have HX := Lib.hid (HS.out.below x.h)
  have hbx := hb x
  have HK := Lib.hid (Keeps.of_below (n0 := base) (b := b) x.h)
  clear hb d0 d1 d2 HC hw
  generalize x.W = W at *
  have hbox := HX.out.box
  have hrow := Lib.hid (HX.out.rowT.alloc (.cells #[.int .i64 6, .string ⟨#[10]⟩, .int .i64 p] 35))
  have hsz : base ≤ W.heap.size := by
    have h1 := HX.out.above
    have h2 := lt_of_block hbox
    omega
  rw [HL.out] at hrow
  go_wp2_with (at_builtin; refine app_tok 6 ⟨#[10]⟩ p rfl (.tmp 29) (.tmp 32) rfl base _ (n + 1) (cellsOf (l ++ [t])) rfl hrow.out rfl (by omega) hsz ?_; intro v1 w1 hown1 hgr1; obtain ⟨g1, cap1, rfl⟩ := ownsRow_form hown1 (by omega); have HP := Lib.hid (sc_put HX.out ⟨6, nlT, p⟩ (by simp) hgr1 (by rw [HL.out]; exact hown1)); obtain ⟨hbx1, hfx1, -⟩ := sc_spot (sc_grown HX.out hgr1); clear hown1 hgr1)
  refine bodyPost_end (results_none rfl _ _ _) rfl ?_
  exact ⟨rfl, HK.out.trans HP.out.2, _, HP.out.1⟩

theorem endLine_any (w : World) (b base : Nat) (text : ByteArray) (at_ : Nat) (vt vn : Value) (toks notes : List Tk) (p : Nat) (h : Sc w b base text at_ vt vn toks notes) (hl : toks.length < 1000000) :
    Calls Tryd.prog 54 #[.pointer (some ⟨b, 0, none⟩), .int .i64 p] w fun e w' => e = .returned (.tuple #[]) ∧ Keeps base b w w' ∧ ∃ vt', Sc w' b base text at_ vt' vn (endL toks p) notes := by
  rcases List.eq_nil_or_concat toks with rfl | ⟨l, t, rfl⟩
  · refine (endLine_nil w b base text at_ vt vn notes p h).mono ?_
    rintro e w' ⟨rfl, hb⟩
    exact ⟨rfl, Keeps.of_below hb, _, h.below hb⟩
  · rw [List.concat_eq_append] at *
    cases he : endsB t
    · refine (endLine_no w b base text at_ vt vn l notes t p h he).mono ?_
      rintro e w' ⟨rfl, hb⟩
      rw [endL_no he]
      exact ⟨rfl, Keeps.of_below hb, _, h.below hb⟩
    · rw [endL_yes he]
      exact endLine_yes w b base text at_ vt vn l notes t p h (by simp at hl; omega) he

end Go.Proofs.YtijinpnbhnfiiaaDoor
