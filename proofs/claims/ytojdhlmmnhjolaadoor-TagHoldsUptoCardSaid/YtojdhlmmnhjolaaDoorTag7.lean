/- package tag: the reader's parts. -/
import Derived.Test.YtojdhlmmnhjolaaDoorTag6
import Derived.Maps.AppendAt
import Derived.Laws.AppendOwn
namespace Go.Proofs.YtojdhlmmnhjolaaDoor
open Go.RowKit
set_option linter.unusedVariables false

def FacEnds (b : Nat) (r : Option (Ex × List UInt8)) (W : World) (e : Ending) (w' : World) : Prop :=
  But b W w' ∧ match r with
    | some (x, l) => (∃ v, e = .returned v ∧ ExtAt w' (fun k => W.heap.size ≤ k) x v) ∧ RdAt b ⟨l.toArray⟩ w'
    | none => e = .panicked [{ v := .iface 62 (.agg #[]), recovered := false }]

theorem info_ex : (Tryd.prog.info? 29).map (fun i => (i.zero, i.size, i.bytes)) = some (some (.agg #[.string ⟨#[]⟩, .string ⟨#[]⟩, .slice none 0 0]), 3, 56) := by kernel_rfl
theorem cell_three (w : World) (x y z : Value) (t : TypeId) : ∀ j u, [x, y, z][j]? = some u → (w.alloc (.cells #[x, y, z] t)).cell? ((⟨w.heap.size, 0, none⟩ : Addr).add j) = some u := by
  intro j u hj
  match j, hj with
  | 0, hj => simp at hj; subst hj; simp [Addr.add]
  | 1, hj => simp at hj; subst hj; simp [Addr.add]
  | 2, hj => simp at hj; subst hj; simp [Addr.add]
  | (j + 3), hj => simp at hj
/-- append of one constraint, laid in a block of its own. -/
theorem app_ex {ops : Array Oper} {rest : List Oper} {o : Oper} {act : Act} {Q : Exit → Act → World → Prop} {w : World} (hgd : o.guard = none) (x y : Operand)
    (ho : o.op = .call { callee := .builtin .append, args := #[x, y], argTypes := #[27, 27] }) (base : Nat) (v : Value) (n : Nat) (xs : List Value) (hs : act.eval x = v) {o1 t1 : ByteArray} {a1 : Option Addr} {n1 c1 : Nat}
    (hown : (w.alloc (.cells #[.string o1, .string t1, .slice a1 n1 c1] 29)).ownsRow base 29 3 v n xs)
    (hy : act.eval y = .slice (some ⟨w.heap.size, 0, none⟩) 1 1) (hn : n ≤ 3000000) (hbase : base ≤ w.heap.size)
    (h : ∀ v' w', w'.ownsRow base 29 3 v' (n + 1) (xs ++ [.string o1, .string t1, .slice a1 n1 c1]) → (w.alloc (.cells #[.string o1, .string t1, .slice a1 n1 c1] 29)).grownBy w' v.ownBlock → (v'.ownBlock = v.ownBlock ∨ v'.ownBlock = some (w.heap.size + 1)) → wpList Tryd.prog ops Q rest (act.put o.dst v') w') :
    wpList Tryd.prog ops Q (o :: rest) act (w.alloc (.cells #[.string o1, .string t1, .slice a1 n1 c1] 29)) := by
  obtain ⟨i0, hi, hz0, hz1, hz2⟩ := info_parts info_ex
  refine wpList_append_own_at (P := Tryd.prog) _ hgd x y 27 ho base 29 i0 (.agg #[.string ⟨#[]⟩, .string ⟨#[]⟩, .slice none 0 0]) 3 56 Tryd.underlying27 hi hz0 hz1 hz2 rfl (by decide) v n xs hs hown ⟨w.heap.size, 0, none⟩ 1 1 [.string o1, .string t1, .slice a1 n1 c1] hy rfl (cell_three _ _ _ _ _) (fun u hu => ?_) (by unfold maxLen; omega) (by omega) (by simp; omega) (fun v' w' h1 h2 h3 h4 => h v' w' h1 h2 (by rw [World.size_alloc] at h4; exact h4))
  simp at hu
  rcases hu with rfl | rfl | rfl <;> rfl

theorem ex_results (fn : Func) (k : Nat) (h : fn.results = #[.cell k 29]) (tmps : Array Value) (W : World) (q : Nat) (x y z : Value) (hk : tmps.getD k undef = .pointer (some ⟨q, 0, none⟩)) (hq : W.heap[q]? = some (.cells #[x, y, z] 29 (0, 0))) :
    (results fn tmps).run Tryd.prog W = .ok (.agg #[x, y, z]) W := by
  have k1 : tmps[k]?.getD undef = .pointer (some ⟨q, 0, none⟩) := by simpa using hk
  have c0 : W.cell? ⟨q, 0, none⟩ = some x := by simp [World.cell?, hq]
  have c1 : W.cell? ⟨q, 1, none⟩ = some y := by simp [World.cell?, hq]
  have c2 : W.cell? ⟨q, 2, none⟩ = some z := by simp [World.cell?, hq]
  simp [results, h, k1, asAddr, go_sem, c0, c1, c2]
theorem set_at {w : World} {q : Nat} {cs : Array Value} {t : TypeId} (j : Nat) (a : Value) (h : w.heap[q]? = some (.cells cs t (0, 0))) : (w.setCell ⟨q, j, none⟩ a).heap[q]? = some (.cells (cs.set! j a) t (0, 0)) := by
  have hlt := lt_of_block h
  have h' : w.heap[q] = .cells cs t (0, 0) := by simpa [Array.getElem?_eq_getElem hlt] using h
  show (w.heap.modify q _)[q]? = _
  rw [Array.getElem?_eq_getElem (by simpa using hlt), Array.getElem_modify_self, h']
  rfl
theorem three_set {w : World} {q : Nat} {x y z a b c : Value} {t : TypeId} (h : w.heap[q]? = some (.cells #[x, y, z] t (0, 0))) : (((w.setCell ⟨q, 0, none⟩ a).setCell ⟨q, 1, none⟩ b).setCell ⟨q, 2, none⟩ c).heap[q]? = some (.cells #[a, b, c] t (0, 0)) :=
  set_at 2 c (set_at 1 b (set_at 0 a h))
theorem three_cells {w : World} {q : Nat} {x y z : Value} {t : TypeId} (h : w.heap[q]? = some (.cells #[x, y, z] t (0, 0))) : (w.cell? ⟨q, 0, none⟩ = some x ∧ w.cell? ⟨q, 1, none⟩ = some y ∧ w.cell? ⟨q, 2, none⟩ = some z) ∧ (w.frozen? ⟨q, 0, none⟩ = false ∧ w.frozen? ⟨q, 1, none⟩ = false ∧ w.frozen? ⟨q, 2, none⟩ = false) := by
  simp [World.cell?, World.frozen?, h]
def zex : Obj := .cells #[.string ⟨#[]⟩, .string ⟨#[]⟩, .slice none 0 0] 29
def restLen (b : Nat) (w : World) : Nat := match w.cell? ⟨b, 0, none⟩ with
  | some (.string l) => l.size
  | _ => 0
theorem restLen_of {b : Nat} {l : ByteArray} {w : World} (h : RdAt b l w) : restLen b w = l.size := by
  unfold restLen
  rw [(one_cell h).1]
theorem But.grown {b : Nat} {w w' : World} (h : But b w w') : w.grownBy w' (some b) := ⟨h.os, h.tape, h.output, h.size, fun k hk hne => h.block k hk (fun e => hne (by rw [e]))⟩

/-- The parts so far, in memory. -/
structure Acc (b q : Nat) (w wr : World) (v : Value) (acc : List Ex) (xs : List Value) (l : ByteArray) : Prop where
  row : wr.ownsRow (q + 1) 29 3 v acc.length xs
  kids : KidCells wr (fun k => q + 1 ≤ k ∧ v.ownBlock ≠ some k) acc xs
  rd : RdAt b l wr
  but : But b w wr
  res : wr.heap[q]? = some (.cells #[.string ⟨#[]⟩, .string ⟨#[]⟩, .slice none 0 0] 29 (0, 0))
/-- A reader's call changes nothing of the parts so far. -/
theorem Acc.step {b q : Nat} {w wr w2 : World} {v : Value} {acc : List Ex} {xs : List Value} {l l2 : ByteArray} (h : Acc b q w wr v acc xs l) (hbq : b < q) (hb : But b wr w2) (hr : RdAt b l2 w2) : Acc b q w w2 v acc xs l2 := by
  refine ⟨h.row.kept hb.grown ?_, KidCells.moves (fun k hk hok => ⟨hok, hb.block k hk (by omega)⟩) _ _ h.kids, hr, h.but.trans hb, (hb.block q (lt_of_block h.res) (by omega)).trans h.res⟩
  right
  intro e
  have := (h.row.lt b e).1
  omega
theorem Acc.one {b q : Nat} {w wr : World} {v : Value} {o t : ByteArray} {k : List Ex} {xs : List Value} {l : ByteArray} (h : Acc b q w wr v [.mk o t k] xs l) : ∃ g cap a c, q + 1 ≤ g ∧ v = .slice (some ⟨g, 0, none⟩) 1 cap ∧ wr.cell? ⟨g, 0, none⟩ = some (.string o) ∧ wr.cell? ⟨g, 1, none⟩ = some (.string t) ∧ wr.cell? ⟨g, 2, none⟩ = some (.slice a k.length c) ∧ ExtK wr (fun k => q + 1 ≤ k) k a c := by
  obtain ⟨c0, c1, c2, rest, rfl, hx, hr⟩ := h.kids
  have hr' : rest = [] := hr
  subst hr'
  rw [ExtAt_eq] at hx
  obtain ⟨a, c, e, hl⟩ := hx
  injection e with e
  injection e with e
  simp only [List.cons.injEq, and_true] at e
  obtain ⟨rfl, rfl, rfl⟩ := e
  rcases h.row.2 with ⟨e, h0⟩ | ⟨g, cap, cur, e, hbg, _⟩
  · cases h0
  · subst e
    have c0 := h.row.cellAt 0 (show 0 < 1 * 3 by decide)
    have c1 := h.row.cellAt 1 (show 1 < 1 * 3 by decide)
    have c2 := h.row.cellAt 2 (show 2 < 1 * 3 by decide)
    exact ⟨g, cap, a, c, hbg, rfl, c0, c1, c2, ExtK.moves (fun k hk hok => ⟨hok.1, rfl⟩) _ _ _ hl⟩
theorem Acc.many {b q : Nat} {w wr : World} {v : Value} {acc : List Ex} {xs : List Value} {l : ByteArray} (h : Acc b q w wr v acc xs l) : ∃ a cap, v = .slice a acc.length cap ∧ ExtK wr (fun k => q + 1 ≤ k) acc a cap :=
  kids_row h.row (KidCells.moves (fun k hk hok => ⟨hok.1, rfl⟩) _ _ h.kids) (fun g hg => hg)
/-- What is returned. -/
theorem Acc.fin {b q : Nat} {w wr : World} {v : Value} {acc : List Ex} {xs : List Value} {l : ByteArray} (h : Acc b q w wr v acc xs l) (hq : q = w.heap.size) (hbq : b < q) (o t : ByteArray) (k : List Ex) (a : Option Addr) (cap : Nat) (hl : ExtK wr (fun k => q + 1 ≤ k) k a cap) :
    (((wr.setCell ⟨q, 0, none⟩ (.string o)).setCell ⟨q, 1, none⟩ (.string t)).setCell ⟨q, 2, none⟩ (.slice a k.length cap)).heap[q]? = some (.cells #[.string o, .string t, .slice a k.length cap] 29 (0, 0)) ∧
    FacEnds b (some (.mk o t k, ls l)) w (.returned (.agg #[.string o, .string t, .slice a k.length cap])) (((wr.setCell ⟨q, 0, none⟩ (.string o)).setCell ⟨q, 1, none⟩ (.string t)).setCell ⟨q, 2, none⟩ (.slice a k.length cap)) := by
  have hne : ∀ i, i ≠ q → (((wr.setCell ⟨q, 0, none⟩ (.string o)).setCell ⟨q, 1, none⟩ (.string t)).setCell ⟨q, 2, none⟩ (.slice a k.length cap)).heap[i]? = wr.heap[i]? := fun i hi =>
    ((Below.heap_setCell _ ⟨q, 2, none⟩ _ i (by exact hi)).trans (Below.heap_setCell _ ⟨q, 1, none⟩ _ i (by exact hi))).trans (Below.heap_setCell _ ⟨q, 0, none⟩ _ i (by exact hi))
  refine ⟨three_set h.res, ((h.but.setCell (.inl (by show w.heap.size ≤ q; omega)) _).setCell (.inl (by show w.heap.size ≤ q; omega)) _).setCell (.inl (by show w.heap.size ≤ q; omega)) _, ⟨_, rfl, ?_⟩, (hne b (by omega)).trans h.rd⟩
  rw [ExtAt_eq]
  exact ⟨a, cap, rfl, ExtK.moves (fun i hi hok => ⟨by omega, hne i (by omega)⟩) _ _ _ hl⟩
/-- One more. -/
theorem Acc.more {b q : Nat} {w wr w2 w3 : World} {v v' : Value} {acc : List Ex} {xs : List Value} {l : ByteArray} {o t : ByteArray} {k : List Ex} {a : Option Addr} {cap : Nat} (hq : q = w.heap.size) (hbq : b < q) (h : Acc b q w wr v acc xs l)
    (hx : ExtK wr (fun i => w2.heap.size ≤ i) k a cap) (hw : q + 1 ≤ w2.heap.size) (hvb : ∀ g, v.ownBlock = some g → g < w2.heap.size)
    (hrow : w3.ownsRow (q + 1) 29 3 v' (acc.length + 1) (xs ++ [.string o, .string t, .slice a k.length cap]))
    (hg : (wr.alloc (.cells #[.string o, .string t, .slice a k.length cap] 29)).grownBy w3 v.ownBlock) (hv : v'.ownBlock = v.ownBlock ∨ v'.ownBlock = some (wr.heap.size + 1)) :
    Acc b q w w3 v' (acc ++ [.mk o t k]) (xs ++ [.string o, .string t, .slice a k.length cap]) l := by
  have hal : ∀ i, i < wr.heap.size → v.ownBlock ≠ some i → w3.heap[i]? = wr.heap[i]? := fun i hi hne => (hg.block i (by simp; omega) (fun e => hne e.symm)).trans (heap_alloc_old _ _ hi)
  have hlt := lt_of_block h.res
  have hqb : ∀ i, i ≤ q → v.ownBlock ≠ some i := fun i hi e => by
    have := (h.row.lt i e).1
    omega
  have hnew : ∀ i, i < wr.heap.size → w2.heap.size ≤ i → v'.ownBlock ≠ some i := fun i hi h2 e => by
    rcases hv with hv | hv
    · have := hvb i (hv ▸ e)
      omega
    · rw [hv] at e
      injection e with e
      omega
  have hold : ∀ i, i < wr.heap.size → v.ownBlock ≠ some i → v'.ownBlock ≠ some i := fun i hi h2 e => by
    rcases hv with hv | hv
    · exact h2 (hv ▸ e)
    · rw [hv] at e
      injection e with e
      omega
  have hv2 : ∀ i, w2.heap.size ≤ i → v.ownBlock ≠ some i := fun i h2 e => by
    have := hvb i e
    omega
  have k1 := KidCells.moves (w' := w3) (ok' := fun i => q + 1 ≤ i ∧ v'.ownBlock ≠ some i) (fun i hi hok => ⟨⟨hok.1, hold i hi hok.2⟩, hal i hi hok.2⟩) _ _ h.kids
  have k2 := ExtK.moves (w' := w3) (ok' := fun i => q + 1 ≤ i ∧ v'.ownBlock ≠ some i) (fun i hi hok => ⟨⟨Nat.le_trans hw hok, hnew i hi hok⟩, hal i hi (hv2 i hok)⟩) _ _ _ hx
  have hsz := hg.size
  have hsb := h.but.size
  rw [World.size_alloc] at hsz
  refine ⟨by rw [List.length_append]; exact hrow, KidCells.snoc (by rw [ExtAt_eq]; exact ⟨a, cap, rfl, k2⟩) _ _ k1, (hal b (by omega) (hqb b (by omega))).trans h.rd, ⟨hg.os.trans h.but.os, hg.tape.trans h.but.tape, hg.output.trans h.but.output, by omega, fun i hi hne => ?_⟩, (hal q hlt (hqb q (by omega))).trans h.res⟩
  exact (hal i (by omega) (hqb i (by omega))).trans (h.but.block i hi hne)

set_option maxHeartbeats 2000000 in
set_option maxRecDepth 100000 in
theorem partsC_any (b : Nat) (op : ByteArray) (hop : 1 ≤ (ls op).length) (F : FuncId) (p : Value) (part : Part) (he : Eats part) (Inv : World → Prop) (hInv : ∀ W W', Inv W → But b W W' → Inv W') (ef : ∀ args W, (callFunc F args).run Tryd.prog W = .ok (.enter F args) W) (N : Nat) (hN : N ≤ 1000)
    (hpart : ∀ (l : ByteArray) (W : World), l.size ≤ N → RdAt b l W → Inv W → Calls Tryd.prog F #[p] W fun e w' => FacEnds b (part (ls l)) W e w')
    (s : ByteArray) (w : World) (hs : s.size ≤ N) (hr : RdAt b s w) (hi : Inv w) :
    Calls Tryd.prog 47 #[.pointer (some ⟨b, 0, none⟩), .string op, .func (.func F) #[] #[p]] w fun e w' => FacEnds b (partsP (ls op) part (ls s)) w e w' := by
  have hW1 := (But.refl b w).alloc (.cells #[.string ⟨#[]⟩, .string ⟨#[]⟩, .slice none 0 0] 29)
  have hbl : b < w.heap.size := lt_of_block hr
  have hr1 : RdAt b s (w.alloc (.cells #[.string ⟨#[]⟩, .string ⟨#[]⟩, .slice none 0 0] 29)) := (Below.heap_alloc _ _ _ hbl).trans hr
  have c1 := hpart s _ hs hr1 (hInv _ _ hi hW1)
  have HC := Lib.hid hpart
  have HI := Lib.hid hInv
  have hq := heap_alloc_new w (.cells #[.string ⟨#[]⟩, .string ⟨#[]⟩, .slice none 0 0] 29)
  have hz1 : (w.alloc (.cells #[.string ⟨#[]⟩, .string ⟨#[]⟩, .slice none 0 0] 29)).heap.size = w.heap.size + 1 := by simp
  have HW1 := Lib.hid hW1
  have HQ := Lib.hid hq
  have HZ1 := Lib.hid hz1
  have HBL := Lib.hid hbl
  clear hpart hInv hr1 hq hz1 hbl hW1
  cases hp : part (ls s) with
  | none =>
    have HP : Hid (partsP (ls op) part (ls s) = none) := by show _ = _; unfold partsP; rw [hp]
    rw [hp] at c1
    clear hp
    go_enter Tryd.func47, Tryd.ntmps47
    go_wp2_with (refine c1.mono ?_; rintro e w2 ⟨hb2, he2⟩; obtain rfl : e = _ := he2; have HB2 := Lib.hid hb2; clear hb2)
    refine ⟨rfl, HW1.out.trans HB2.out, ?_⟩
    rw [HP.out]
  | some y =>
    obtain ⟨x0, r0⟩ := y
    have HP := Lib.hid hp
    have HE := Lib.hid (he _ _ _ hp)
    have HOP := Lib.hid hop
    have HS := Lib.hid hs
    have HNN := Lib.hid hN
    have HEA := Lib.hid he
    have HII := Lib.hid hi
    rw [hp] at c1
    obtain ⟨q, hqe⟩ : ∃ q, q = w.heap.size := ⟨_, rfl⟩
    have HQE := Lib.hid hqe
    clear hp hop hs hN he hi hqe
    go_enter Tryd.func47, Tryd.ntmps47
    go_wp2_with (refine c1.mono ?_; rintro e w2 ⟨hb2, ⟨v, rfl, hx⟩, hr2⟩; obtain ⟨o1, t1, k1⟩ := x0; rw [ExtAt_eq] at hx; obtain ⟨a1, cap1, rfl, hl1⟩ := hx; have HB2 := Lib.hid hb2; have HL1 := Lib.hid hl1; have HR2 := Lib.hid hr2; clear hb2 hl1 hr2)
    clear c1
    have HFIN : Hid (partsP (ls op) part (ls s) = match moreP (ls op) part (r0.length + 1) [.mk o1 t1 k1] r0 with
      | some (acc, r') => some (joinE (ls op) acc, r')
      | none => none) := by
      show _ = _
      unfold partsP
      rw [HP.out]
      rfl
    go_loopw [7] (fun s7 wr => ∃ (acc : List Ex) (xs : List Value) (l : ByteArray) (g : Nat), Acc b w.heap.size w wr s7 acc xs l ∧ l.size ≤ N ∧ acc.length + l.size ≤ N + 1 ∧ 1 ≤ acc.length ∧ l.size < g ∧ Hid (moreP (ls op) part g acc (ls l) = moreP (ls op) part (r0.length + 1) [.mk o1 t1 k1] r0))
      (fun _ wr => restLen b wr)
    case atStart =>
      have e0 : ls ⟨r0.toArray⟩ = r0 := rfl
      have k1' : w.heap.size + 1 ≤ w2.heap.size := by have := HB2.out.size; rw [HZ1.out] at this; exact this
      have bl := HBL.out
      have kb : But b w w2 := HW1.out.trans HB2.out
      have hr3 : (⟨r0.toArray⟩ : ByteArray).size = r0.length := rfl
      have hsz : (ls s).length = s.size := ls_len s
      have he := HE.out
      have hs1 := HS.out
      refine ⟨[.mk o1 t1 k1], [.string o1, .string t1, .slice a1 k1.length cap1], ⟨r0.toArray⟩, r0.length + 1, ⟨?_, ?_, ?_, kb.alloc _, ?_⟩, by omega, by simp only [List.length_cons, List.length_nil]; omega, Nat.le_refl _, by omega, rfl⟩
      · exact ⟨rfl, .inr ⟨w2.heap.size, 1, #[.string o1, .string t1, .slice a1 k1.length cap1], rfl, k1', heap_alloc_new _ _, Nat.le_refl _, by decide, rfl, rfl⟩⟩
      · refine ⟨_, _, _, [], rfl, ?_, rfl⟩
        rw [ExtAt_eq]
        refine ⟨a1, cap1, rfl, ExtK.moves (fun k hk hok => ⟨⟨?_, ?_⟩, heap_alloc_old _ _ hk⟩) _ _ _ HL1.out⟩
        · have : w.heap.size + 1 ≤ k := by rw [HZ1.out] at hok; exact hok
          exact this
        · intro e
          injection e with e
          exact absurd e (Nat.ne_of_gt hk)
      · exact (Below.heap_alloc _ _ _ (by omega)).trans HR2.out
      · refine (heap_alloc_old _ _ (by omega)).trans ((HB2.out.block _ (by rw [HZ1.out]; omega) (by omega)).trans HQ.out)
    case round =>
      obtain ⟨acc, xs, l, g, hA, hln, hal, hal1, hlg, HM⟩ := hrel
      have hN' := HNN.out
      have cT := take_any b l op wr (by omega) hA.rd
      have hT := takeB_list op l
      have hTL := takeB_size op l
      have HRL := Lib.hid (restLen_of hA.rd)
      have HA := Lib.hid hA
      obtain ⟨g, rfl⟩ : ∃ g', g = g' + 1 := ⟨g - 1, by omega⟩
      clear hA
      generalize hl2 : (takeB op l).2 = l2 at *
      cases hb : (takeB op l).1 with
      | true =>
        rw [hb] at cT hT
        have hlt : l2.size < l.size := by
          rw [← ls_len, ← ls_len, hT.2]
          exact takeS_lt _ _ HOP.out hT.1.symm
        have HM2 : Hid ((match part (ls l2) with
          | some (x, r) => moreP (ls op) part g (acc ++ [x]) r
          | none => none) = moreP (ls op) part (r0.length + 1) [.mk o1 t1 k1] r0) := by
          show _ = _
          rw [← HM.out, moreP, if_pos hT.1.symm, ← hT.2]
          rfl
        have HLT := Lib.hid hlt
        clear hT hb hl2 HM
        cases hp : part (ls l2) with
        | none =>
          rw [hp] at HM2
          have HPP := Lib.hid hp
          clear hp
          go_wp2_with fail
          refine cT.mono ?_
          rintro e w3 ⟨rfl, hr3, hb3⟩
          have c3 := HC.out l2 w3 (by omega) hr3 (HI.out _ _ HII.out (HA.out.but.trans hb3))
          rw [HPP.out] at c3
          have HB3 := Lib.hid hb3
          clear hb3 hr3 cT
          go_wp2_with fail
          refine c3.mono ?_
          rintro e w4 ⟨hb4, he⟩
          obtain rfl : e = _ := he
          refine ⟨rfl, HA.out.but.trans (HB3.out.trans hb4), ?_⟩
          rw [HFIN.out, ← HM2.out]
        | some y =>
          obtain ⟨x2, r2⟩ := y
          obtain ⟨o2, t2, k2⟩ := x2
          rw [hp] at HM2
          have HPP := Lib.hid hp
          have HE2 := Lib.hid (HEA.out _ _ _ hp)
          clear hp
          go_wp2_with fail
          refine cT.mono ?_
          rintro e w3 ⟨rfl, hr3, hb3⟩
          have c3 := HC.out l2 w3 (by omega) hr3 (HI.out _ _ HII.out (HA.out.but.trans hb3))
          rw [HPP.out] at c3
          have HB3 := Lib.hid hb3
          clear hb3 hr3 cT
          go_wp2_with fail
          refine c3.mono ?_
          rintro e w4 ⟨hb4, ⟨v4, rfl, hx4⟩, hr4⟩
          rw [ExtAt_eq] at hx4
          obtain ⟨a2, cap2, rfl, hl4⟩ := hx4
          have HL4 := Lib.hid hl4
          have hA4 := HA.out.step HBL.out (HB3.out.trans hb4) hr4
          have HA4 := Lib.hid hA4
          have HR4 := Lib.hid (hA4.row.alloc (.cells #[.string o2, .string t2, .slice a2 k2.length cap2] 29))
          have hs4 := hA4.but.size
          have hs3 := HB3.out.size
          have hs43 := hb4.size
          have hs1 := (HA.out.but).size
          have hbl := HBL.out
          have hqr := lt_of_block HA.out.res
          have he2 := HE2.out
          have hl2l : (ls l2).length = l2.size := ls_len l2
          have hr2l : (⟨r2.toArray⟩ : ByteArray).size = r2.length := rfl
          clear hl4 hA4 hb4 hr4 c3
          go_wp2_with (at_builtin; refine app_ex rfl (.tmp 14) (.tmp 17) rfl (w.heap.size + 1) _ acc.length xs rfl HR4.out rfl (by omega) (by omega) ?_)
          intro v5 w5 hrow5 hg5 hv5
          have HA5 := Lib.hid (Acc.more rfl hbl HA4.out HL4.out (by omega) (fun g hg => Nat.lt_of_lt_of_le (HA.out.row.lt g hg).2 hs3) hrow5 hg5 hv5)
          clear hrow5 hg5 hv5
          go_wp2
          go_roundw
          case rel => exact ⟨_, _, _, g, HA5.out, by omega, by rw [List.length_append]; simp only [List.length_cons, List.length_nil]; omega, by rw [List.length_append]; omega, by omega, HM2.out⟩
          case measure => rw [restLen_of HA5.out.rd, HRL.out]; omega
      | false =>
        rw [hb] at cT hT
        have HM2 : Hid (some (acc, ls l2) = moreP (ls op) part (r0.length + 1) [.mk o1 t1 k1] r0) := by
          show _ = _
          rw [← HM.out, moreP, if_neg (by rw [← hT.1]; decide), ← hT.2]
        have HEX : Hid (partsP (ls op) part (ls s) = some (joinE (ls op) acc, ls l2)) := by
          show _ = _
          rw [HFIN.out, ← HM2.out]
        clear hT hb hl2 HM HM2 HFIN
        have hbl := HBL.out
        match acc, HA, HEX, hal1 with
        | [], _, _, hal1 => exact absurd hal1 (by decide)
        | [.mk o t k], HA, HEX, _ =>
          go_wp2_with fail
          refine cT.mono ?_
          rintro e w3 ⟨rfl, hr3, hb3⟩
          have hA3 := HA.out.step hbl hb3 hr3
          obtain ⟨g1, cap, a, c, hg1, rfl, c0, c1, c2, hx⟩ := hA3.one
          have HFF := Lib.hid (hA3.fin rfl hbl o t k a c hx)
          obtain ⟨⟨d0, d1, d2⟩, z0, z1, z2⟩ := three_cells hA3.res
          clear hx hA3 HA hr3 hb3 cT
          go_wp2
          refine bodyPost_end (ex_results _ _ rfl _ _ _ _ _ _ rfl HFF.out.1) rfl ?_
          have := HFF.out.2
          rw [HEX.out]
          exact this
        | x0 :: x1 :: r, HA, HEX, _ =>
          have HJ : Hid (joinE (ls op) (x0 :: x1 :: r) = .mk ⟨(ls op).toArray⟩ ⟨#[]⟩ (x0 :: x1 :: r)) := rfl
          have hne : ((((x0 :: x1 :: r).length : Nat) : Int) == 1) = false := beq_eq_false_iff_ne.2 (by simp only [List.length_cons]; omega)
          generalize x0 :: x1 :: r = ks at *
          go_wp2_with fail
          refine cT.mono ?_
          rintro e w3 ⟨rfl, hr3, hb3⟩
          have hA3 := HA.out.step hbl hb3 hr3
          obtain ⟨a, cap, rfl, hx⟩ := hA3.many
          have HFF := Lib.hid (hA3.fin rfl hbl op ⟨#[]⟩ ks a cap hx)
          obtain ⟨⟨d0, d1, d2⟩, z0, z1, z2⟩ := three_cells hA3.res
          clear hx hA3 HA hr3 hb3 cT
          go_wp2
          refine bodyPost_end (ex_results _ _ rfl _ _ _ _ _ _ rfl HFF.out.1) rfl ?_
          have := HFF.out.2
          rw [HEX.out, HJ.out]
          exact this

set_option maxHeartbeats 2000000 in
set_option maxRecDepth 100000 in
theorem partsM_any (b : Nat) (op : ByteArray) (hop : 1 ≤ (ls op).length) (F : FuncId) (p : Value) (part : Part) (he : Eats part) (Inv : World → Prop) (hInv : ∀ W W', Inv W → But b W W' → Inv W') (ef : ∀ args W, (callFunc F args).run Tryd.prog W = .ok (.enter F args) W) (N : Nat) (hN : N ≤ 1000)
    (hpart : ∀ (l : ByteArray) (W : World), l.size ≤ N → RdAt b l W → Inv W → Calls Tryd.prog F #[p] W fun e w' => FacEnds b (part (ls l)) W e w')
    (s : ByteArray) (w : World) (hs : s.size ≤ N) (hr : RdAt b s w) (hi : Inv w) :
    Calls Tryd.prog 47 #[.pointer (some ⟨b, 0, none⟩), .string op, .func (.func F) #[p] #[]] w fun e w' => FacEnds b (partsP (ls op) part (ls s)) w e w' := by
  have hW1 := (But.refl b w).alloc (.cells #[.string ⟨#[]⟩, .string ⟨#[]⟩, .slice none 0 0] 29)
  have hbl : b < w.heap.size := lt_of_block hr
  have hr1 : RdAt b s (w.alloc (.cells #[.string ⟨#[]⟩, .string ⟨#[]⟩, .slice none 0 0] 29)) := (Below.heap_alloc _ _ _ hbl).trans hr
  have c1 := hpart s _ hs hr1 (hInv _ _ hi hW1)
  have HC := Lib.hid hpart
  have HI := Lib.hid hInv
  have hq := heap_alloc_new w (.cells #[.string ⟨#[]⟩, .string ⟨#[]⟩, .slice none 0 0] 29)
  have hz1 : (w.alloc (.cells #[.string ⟨#[]⟩, .string ⟨#[]⟩, .slice none 0 0] 29)).heap.size = w.heap.size + 1 := by simp
  have HW1 := Lib.hid hW1
  have HQ := Lib.hid hq
  have HZ1 := Lib.hid hz1
  have HBL := Lib.hid hbl
  clear hpart hInv hr1 hq hz1 hbl hW1
  cases hp : part (ls s) with
  | none =>
    have HP : Hid (partsP (ls op) part (ls s) = none) := by show _ = _; unfold partsP; rw [hp]
    rw [hp] at c1
    clear hp
    go_enter Tryd.func47, Tryd.ntmps47
    go_wp2_with (refine c1.mono ?_; rintro e w2 ⟨hb2, he2⟩; obtain rfl : e = _ := he2; have HB2 := Lib.hid hb2; clear hb2)
    refine ⟨rfl, HW1.out.trans HB2.out, ?_⟩
    rw [HP.out]
  | some y =>
    obtain ⟨x0, r0⟩ := y
    have HP := Lib.hid hp
    have HE := Lib.hid (he _ _ _ hp)
    have HOP := Lib.hid hop
    have HS := Lib.hid hs
    have HNN := Lib.hid hN
    have HEA := Lib.hid he
    have HII := Lib.hid hi
    rw [hp] at c1
    obtain ⟨q, hqe⟩ : ∃ q, q = w.heap.size := ⟨_, rfl⟩
    have HQE := Lib.hid hqe
    clear hp hop hs hN he hi hqe
    go_enter Tryd.func47, Tryd.ntmps47
    go_wp2_with (refine c1.mono ?_; rintro e w2 ⟨hb2, ⟨v, rfl, hx⟩, hr2⟩; obtain ⟨o1, t1, k1⟩ := x0; rw [ExtAt_eq] at hx; obtain ⟨a1, cap1, rfl, hl1⟩ := hx; have HB2 := Lib.hid hb2; have HL1 := Lib.hid hl1; have HR2 := Lib.hid hr2; clear hb2 hl1 hr2)
    clear c1
    have HFIN : Hid (partsP (ls op) part (ls s) = match moreP (ls op) part (r0.length + 1) [.mk o1 t1 k1] r0 with
      | some (acc, r') => some (joinE (ls op) acc, r')
      | none => none) := by
      show _ = _
      unfold partsP
      rw [HP.out]
      rfl
    go_loopw [7] (fun s7 wr => ∃ (acc : List Ex) (xs : List Value) (l : ByteArray) (g : Nat), Acc b w.heap.size w wr s7 acc xs l ∧ l.size ≤ N ∧ acc.length + l.size ≤ N + 1 ∧ 1 ≤ acc.length ∧ l.size < g ∧ Hid (moreP (ls op) part g acc (ls l) = moreP (ls op) part (r0.length + 1) [.mk o1 t1 k1] r0))
      (fun _ wr => restLen b wr)
    case atStart =>
      have e0 : ls ⟨r0.toArray⟩ = r0 := rfl
      have k1' : w.heap.size + 1 ≤ w2.heap.size := by have := HB2.out.size; rw [HZ1.out] at this; exact this
      have bl := HBL.out
      have kb : But b w w2 := HW1.out.trans HB2.out
      have hr3 : (⟨r0.toArray⟩ : ByteArray).size = r0.length := rfl
      have hsz : (ls s).length = s.size := ls_len s
      have he := HE.out
      have hs1 := HS.out
      refine ⟨[.mk o1 t1 k1], [.string o1, .string t1, .slice a1 k1.length cap1], ⟨r0.toArray⟩, r0.length + 1, ⟨?_, ?_, ?_, kb.alloc _, ?_⟩, by omega, by simp only [List.length_cons, List.length_nil]; omega, Nat.le_refl _, by omega, rfl⟩
      · exact ⟨rfl, .inr ⟨w2.heap.size, 1, #[.string o1, .string t1, .slice a1 k1.length cap1], rfl, k1', heap_alloc_new _ _, Nat.le_refl _, by decide, rfl, rfl⟩⟩
      · refine ⟨_, _, _, [], rfl, ?_, rfl⟩
        rw [ExtAt_eq]
        refine ⟨a1, cap1, rfl, ExtK.moves (fun k hk hok => ⟨⟨?_, ?_⟩, heap_alloc_old _ _ hk⟩) _ _ _ HL1.out⟩
        · have : w.heap.size + 1 ≤ k := by rw [HZ1.out] at hok; exact hok
          exact this
        · intro e
          injection e with e
          exact absurd e (Nat.ne_of_gt hk)
      · exact (Below.heap_alloc _ _ _ (by omega)).trans HR2.out
      · refine (heap_alloc_old _ _ (by omega)).trans ((HB2.out.block _ (by rw [HZ1.out]; omega) (by omega)).trans HQ.out)
    case round =>
      obtain ⟨acc, xs, l, g, hA, hln, hal, hal1, hlg, HM⟩ := hrel
      have hN' := HNN.out
      have cT := take_any b l op wr (by omega) hA.rd
      have hT := takeB_list op l
      have hTL := takeB_size op l
      have HRL := Lib.hid (restLen_of hA.rd)
      have HA := Lib.hid hA
      obtain ⟨g, rfl⟩ : ∃ g', g = g' + 1 := ⟨g - 1, by omega⟩
      clear hA
      generalize hl2 : (takeB op l).2 = l2 at *
      cases hb : (takeB op l).1 with
      | true =>
        rw [hb] at cT hT
        have hlt : l2.size < l.size := by
          rw [← ls_len, ← ls_len, hT.2]
          exact takeS_lt _ _ HOP.out hT.1.symm
        have HM2 : Hid ((match part (ls l2) with
          | some (x, r) => moreP (ls op) part g (acc ++ [x]) r
          | none => none) = moreP (ls op) part (r0.length + 1) [.mk o1 t1 k1] r0) := by
          show _ = _
          rw [← HM.out, moreP, if_pos hT.1.symm, ← hT.2]
          rfl
        have HLT := Lib.hid hlt
        clear hT hb hl2 HM
        cases hp : part (ls l2) with
        | none =>
          rw [hp] at HM2
          have HPP := Lib.hid hp
          clear hp
          go_wp2_with fail
          refine cT.mono ?_
          rintro e w3 ⟨rfl, hr3, hb3⟩
          have c3 := HC.out l2 w3 (by omega) hr3 (HI.out _ _ HII.out (HA.out.but.trans hb3))
          rw [HPP.out] at c3
          have HB3 := Lib.hid hb3
          clear hb3 hr3 cT
          go_wp2_with fail
          refine c3.mono ?_
          rintro e w4 ⟨hb4, he⟩
          obtain rfl : e = _ := he
          refine ⟨rfl, HA.out.but.trans (HB3.out.trans hb4), ?_⟩
          rw [HFIN.out, ← HM2.out]
        | some y =>
          obtain ⟨x2, r2⟩ := y
          obtain ⟨o2, t2, k2⟩ := x2
          rw [hp] at HM2
          have HPP := Lib.hid hp
          have HE2 := Lib.hid (HEA.out _ _ _ hp)
          clear hp
          go_wp2_with fail
          refine cT.mono ?_
          rintro e w3 ⟨rfl, hr3, hb3⟩
          have c3 := HC.out l2 w3 (by omega) hr3 (HI.out _ _ HII.out (HA.out.but.trans hb3))
          rw [HPP.out] at c3
          have HB3 := Lib.hid hb3
          clear hb3 hr3 cT
          go_wp2_with fail
          refine c3.mono ?_
          rintro e w4 ⟨hb4, ⟨v4, rfl, hx4⟩, hr4⟩
          rw [ExtAt_eq] at hx4
          obtain ⟨a2, cap2, rfl, hl4⟩ := hx4
          have HL4 := Lib.hid hl4
          have hA4 := HA.out.step HBL.out (HB3.out.trans hb4) hr4
          have HA4 := Lib.hid hA4
          have HR4 := Lib.hid (hA4.row.alloc (.cells #[.string o2, .string t2, .slice a2 k2.length cap2] 29))
          have hs4 := hA4.but.size
          have hs3 := HB3.out.size
          have hs43 := hb4.size
          have hs1 := (HA.out.but).size
          have hbl := HBL.out
          have hqr := lt_of_block HA.out.res
          have he2 := HE2.out
          have hl2l : (ls l2).length = l2.size := ls_len l2
          have hr2l : (⟨r2.toArray⟩ : ByteArray).size = r2.length := rfl
          clear hl4 hA4 hb4 hr4 c3
          go_wp2_with (at_builtin; refine app_ex rfl (.tmp 14) (.tmp 17) rfl (w.heap.size + 1) _ acc.length xs rfl HR4.out rfl (by omega) (by omega) ?_)
          intro v5 w5 hrow5 hg5 hv5
          have HA5 := Lib.hid (Acc.more rfl hbl HA4.out HL4.out (by omega) (fun g hg => Nat.lt_of_lt_of_le (HA.out.row.lt g hg).2 hs3) hrow5 hg5 hv5)
          clear hrow5 hg5 hv5
          go_wp2
          go_roundw
          case rel => exact ⟨_, _, _, g, HA5.out, by omega, by rw [List.length_append]; simp only [List.length_cons, List.length_nil]; omega, by rw [List.length_append]; omega, by omega, HM2.out⟩
          case measure => rw [restLen_of HA5.out.rd, HRL.out]; omega
      | false =>
        rw [hb] at cT hT
        have HM2 : Hid (some (acc, ls l2) = moreP (ls op) part (r0.length + 1) [.mk o1 t1 k1] r0) := by
          show _ = _
          rw [← HM.out, moreP, if_neg (by rw [← hT.1]; decide), ← hT.2]
        have HEX : Hid (partsP (ls op) part (ls s) = some (joinE (ls op) acc, ls l2)) := by
          show _ = _
          rw [HFIN.out, ← HM2.out]
        clear hT hb hl2 HM HM2 HFIN
        have hbl := HBL.out
        match acc, HA, HEX, hal1 with
        | [], _, _, hal1 => exact absurd hal1 (by decide)
        | [.mk o t k], HA, HEX, _ =>
          go_wp2_with fail
          refine cT.mono ?_
          rintro e w3 ⟨rfl, hr3, hb3⟩
          have hA3 := HA.out.step hbl hb3 hr3
          obtain ⟨g1, cap, a, c, hg1, rfl, c0, c1, c2, hx⟩ := hA3.one
          have HFF := Lib.hid (hA3.fin rfl hbl o t k a c hx)
          obtain ⟨⟨d0, d1, d2⟩, z0, z1, z2⟩ := three_cells hA3.res
          clear hx hA3 HA hr3 hb3 cT
          go_wp2
          refine bodyPost_end (ex_results _ _ rfl _ _ _ _ _ _ rfl HFF.out.1) rfl ?_
          have := HFF.out.2
          rw [HEX.out]
          exact this
        | x0 :: x1 :: r, HA, HEX, _ =>
          have HJ : Hid (joinE (ls op) (x0 :: x1 :: r) = .mk ⟨(ls op).toArray⟩ ⟨#[]⟩ (x0 :: x1 :: r)) := rfl
          have hne : ((((x0 :: x1 :: r).length : Nat) : Int) == 1) = false := beq_eq_false_iff_ne.2 (by simp only [List.length_cons]; omega)
          generalize x0 :: x1 :: r = ks at *
          go_wp2_with fail
          refine cT.mono ?_
          rintro e w3 ⟨rfl, hr3, hb3⟩
          have hA3 := HA.out.step hbl hb3 hr3
          obtain ⟨a, cap, rfl, hx⟩ := hA3.many
          have HFF := Lib.hid (hA3.fin rfl hbl op ⟨#[]⟩ ks a cap hx)
          obtain ⟨⟨d0, d1, d2⟩, z0, z1, z2⟩ := three_cells hA3.res
          clear hx hA3 HA hr3 hb3 cT
          go_wp2
          refine bodyPost_end (ex_results _ _ rfl _ _ _ _ _ _ rfl HFF.out.1) rfl ?_
          have := HFF.out.2
          rw [HEX.out, HJ.out]
          exact this

end Go.Proofs.YtojdhlmmnhjolaaDoor
