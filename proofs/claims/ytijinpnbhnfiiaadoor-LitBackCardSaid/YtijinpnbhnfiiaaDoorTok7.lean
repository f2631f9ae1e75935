/- package token: a piece of the text, a token taken, a note. -/
import Derived.Test.YtijinpnbhnfiiaaDoorTok6
import Derived.StillTailTactics
import Derived.Deep.RegionLaw
import Derived.Laws.Rows
import Derived.Outline
namespace Go.Proofs.YtijinpnbhnfiiaaDoor
open Go.RowKit Go.Joins

/-- The scanner, come to p. -/
theorem sc_at {w : World} {b base : Nat} {text : ByteArray} {at_ : Nat} {vt vn : Value} {toks notes : List Tk} (h : Sc w b base text at_ vt vn toks notes) (p : Nat) :
    Sc (w.setCell ⟨b, 1, none⟩ (.int .i64 p)) b base text p vt vn toks notes :=
  ⟨block_setCell h.box _, ownsRow_setCell_other h.rowT h.off.1 _, ownsRow_setCell_other h.rowN h.off.2 _, h.kindT, h.kindN, h.nilT, h.nilN, h.above⟩

set_option maxRecDepth 100000 in
theorem piece_any (w : World) (b base : Nat) (text : ByteArray) (at_ : Nat) (vt vn : Value) (toks notes : List Tk) (kind p n : Nat) (h : Sc w b base text at_ vt vn toks notes) (hn : 0 < n) (hp : p + n ≤ text.size) (ht : text.size < 100000) :
    Calls Tryd.prog 79 #[.pointer (some ⟨b, 0, none⟩), .int .i64 kind, .int .i64 p, .int .i64 n] w fun e w' => e = .returned (Tk.val ⟨kind, text.extract p (p + n), p⟩) ∧ Keeps base b w w' ∧ Sc w' b base text (p + n) vt vn toks notes := by
  have hbox := h.box
  have HS := Lib.hid h
  clear h
  have hlt := lt_of_block hbox
  have hn0 : (((n : Nat) : Int) == 0) = false := beq_eq_false_iff_ne.2 (by omega)
  have hw : wrap64 ((p : Int) + n) = ((p + n : Nat) : Int) := by unfold wrap64; omega
  obtain ⟨-, -, -, -, c1, f1⟩ := sc_spot hbox
  have c0 := HS.out.cell.1
  go_enter Tryd.func79, Tryd.ntmps79
  go_wp2
  have hs : (w.setCell ⟨b, 1, none⟩ (.int .i64 ((p : Int) + n))).heap.size = w.heap.size := by simp
  have HS1 := Lib.hid (((sc_at HS.out (p + n)).below ((Below.refl _ _).alloc (Nat.le_refl _) (.cells #[.int .i64 0, .string ⟨#[]⟩, .int .i64 0] 35))))
  have HK := Lib.hid ((Keeps.setCell (n0 := base) (b := b) (o := 1) w (.int .i64 ((p + n : Nat) : Int))).trans (Keeps.of_below ((Below.refl _ _).alloc (Nat.le_refl _) (.cells #[.int .i64 0, .string ⟨#[]⟩, .int .i64 0] 35))))
  have hnew := heap_alloc_new (w.setCell ⟨b, 1, none⟩ (.int .i64 ((p : Int) + n))) (.cells #[.int .i64 0, .string ⟨#[]⟩, .int .i64 0] 35)
  rw [hs] at hnew
  have e1 : (((p + n : Nat) : Int)) = (p : Int) + n := by omega
  rw [e1] at HS1 HK
  generalize hW : (w.setCell ⟨b, 1, none⟩ (.int .i64 ((p : Int) + n))).alloc (.cells #[.int .i64 0, .string ⟨#[]⟩, .int .i64 0] 35) = W1 at *
  have HX : Hid (∃ W3 : World, W1.drew = W3.alloc (.cells #[.int .i64 0, .string ⟨#[]⟩, .int .i64 0] 35) ∧ w.heap.size = W3.heap.size ∧ Sc W3 b base text (p + n) vt vn toks notes ∧ Keeps base b w W3) :=
    ⟨(w.setCell ⟨b, 1, none⟩ (.int .i64 ((p : Int) + n))).drew, by rw [← hW]; rfl, hs.symm, by rw [← e1]; exact (sc_at HS.out (p + n)).below ((Below.refl _ _).drew), (Keeps.setCell (n0 := base) (b := b) (o := 1) w (.int .i64 ((p : Int) + n))).trans (Keeps.of_below ((Below.refl _ _).drew))⟩
  have hr : base ≤ w.heap.size ∧ b ≠ w.heap.size := ⟨by have := HS.out.above; omega, by omega⟩
  generalize w.heap.size = r at *
  clear hW hs c1 f1 c0 hbox hn0 hw e1
  obtain ⟨-, -, -, -, c1, f1⟩ := sc_spot HS1.out.box
  have c0 := HS1.out.cell.1
  have q1 : (0 : Int) ≤ (p : Int) + n := by omega
  have q2 : (p : Int) ≤ (p : Int) + n := by omega
  have q3 : (p : Int) + n ≤ (text.size : Int) := by omega
  have q4 : ((p : Int) + n).toNat = p + n := by omega
  go_still_tail 13, (by kernel_rfl)
  change wpList _ _ _ _ _ W1.drew
  clear q1 q2 q3 q4 c1 f1 c0 hnew HS1 HK
  obtain ⟨W3, e3, rfl, hS3, hK3⟩ := HX.out
  rw [e3]
  clear HX e3
  have HS3 := Lib.hid hS3
  clear hS3
  go_wp2
  refine bodyPost_ret (results_cell_row rfl _ _ W3.heap.size 35 _ (0, 0) _ rfl (heap_alloc_new _ _) Tryd.underlying35 rfl (by kernel_rfl)) rfl ?_
  refine ⟨rfl, hK3.trans (Keeps.of_below ((Below.refl _ _).alloc (Nat.le_refl _) _)), HS3.out.below ((Below.refl _ _).alloc (Nat.le_refl _) _)⟩

theorem piece_none (w : World) (b : Nat) (kind p : Nat) :
    Calls Tryd.prog 79 #[.pointer (some ⟨b, 0, none⟩), .int .i64 kind, .int .i64 p, .int .i64 0] w fun e w' => e = .panicked [{ v := .iface 74 (.agg #[.int .i64 p]), recovered := false }] ∧ Below w.heap.size w w' := by
  go_enter Tryd.func79, Tryd.ntmps79
  go_wp2
  exact ⟨rfl, rfl, (Below.refl _ w).alloc (Nat.le_refl _) _⟩

/-- The scanner with one note more. -/
theorem sc_putN {w w' : World} {b base : Nat} {text : ByteArray} {at_ : Nat} {vt vn v' : Value} {toks notes : List Tk} (h : Sc w b base text at_ vt vn toks notes) (tn : Tk) (hk : tn.kind = 0)
    (hg : w.grownBy w' vn.ownBlock) (hown : w'.ownsRow base 35 3 v' (notes.length + 1) (cellsOf notes ++ tn.cells)) :
    w'.heap[b]? = some (.cells #[.string text, .int .i64 at_, vt, vn] 55 (0, 0)) ∧
    Sc (w'.setCell ⟨b, 3, none⟩ v') b base text at_ vt v' toks (notes ++ [tn]) ∧ Keeps base b w (w'.setCell ⟨b, 3, none⟩ v') := by
  have hbox : w'.heap[b]? = some (.cells #[.string text, .int .i64 at_, vt, vn] 55 (0, 0)) := by
    have hlt := lt_of_block h.box
    rw [hg.block b hlt (fun e => h.off.2 e.symm)]
    exact h.box
  have off' : v'.ownBlock ≠ some b := fun e => by
    obtain ⟨c, fz, hc⟩ := Lib.ownsRow_kind hown b e
    rw [hbox] at hc
    injection hc with hc; injection hc with _ hc; revert hc; decide
  refine ⟨hbox, ⟨?_, ?_, ?_, h.kindT, ?_, h.nilT, ?_, h.above⟩, ?_⟩
  · exact block_setCell hbox v'
  · exact ownsRow_setCell_other (h.rowT.kept hg h.apart) (h.off.1) _
  · have e : cellsOf (notes ++ [tn]) = cellsOf notes ++ tn.cells := by rw [cellsOf_append]; simp [cellsOf]
    rw [e, show (notes ++ [tn]).length = notes.length + 1 by simp]
    exact ownsRow_setCell_other hown off' _
  · intro t ht
    rcases List.mem_append.1 ht with ht | ht
    · exact h.kindN t ht
    · simp at ht; subst ht; exact hk
  · intro e; simp at e
  · refine Keeps.trans ?_ (Keeps.setCell _ _)
    exact Keeps.grown hg h.rowN

/-- append of one token that lies in a block, inside a region that draws its order. -/
theorem step_tok {ops : Array Oper} {o : Oper} {act : Act} {Q : Exit → Act → World → Prop} {K : Act → World → Prop} {E : Prop} {w : World} (ki : Int) (tx : ByteArray) (ai : Int) (hgd : o.guard = none) (x y : Operand)
    (ho : o.op = .call { callee := .builtin .append, args := #[x, y], argTypes := #[30, 30] }) (base : Nat) (v : Value) (n : Nat) (xs : List Value) (hs : act.eval x = v) (hown : w.ownsRow base 35 3 v n xs)
    (g : Nat) (hy : act.eval y = .slice (some ⟨g, 0, none⟩) 1 1) (hg : w.heap[g]? = some (.cells #[.int .i64 ki, .string tx, .int .i64 ai] 35 (0, 0))) (hn : n ≤ 1000000) (hbase : base ≤ w.heap.size)
    (h : ∀ v' w', w'.ownsRow base 35 3 v' (n + 1) (xs ++ [.int .i64 ki, .string tx, .int .i64 ai]) → w.grownBy w' v.ownBlock → K (act.put o.dst v') w') : if Region.wanted o (yielded ops act.tmps) = true then Oper.wp Tryd.prog o act w K Q else E := by
  have hw : Region.wanted o (yielded ops act.tmps) = true := by simp [Region.wanted, hgd]
  rw [if_pos hw]
  obtain ⟨i0, hi, hz0, hz1, hz2⟩ := info_parts Tryd.info35
  refine wp_append_own w x y 30 ho base 35 i0 _ 3 32 Tryd.underlying30 hi hz0 hz1 hz2 rfl (by decide) v n xs hs hown ⟨g, 0, none⟩ 1 1 [.int .i64 ki, .string tx, .int .i64 ai] hy rfl (fun j u hj => ?_) (fun u hu => ?_) (by unfold maxLen; omega) (by omega) hbase (fun v' w' h1 h2 _ => h v' w' h1 h2)
  · rw [plain_add, Nat.zero_add]
    simp only [World.cell?, hg]
    simpa using hj
  · simp at hu
    rcases hu with rfl | rfl | rfl <;> rfl

theorem cell_kept {w : World} {r b o : Nat} {k a : Int} {s : ByteArray} (h : w.heap[r]? = some (.cells #[.int .i64 k, .string s, .int .i64 a] 35 (0, 0))) (hrb : r ≠ b) (v : Value) :
    (w.setCell ⟨b, o, none⟩ v).cell? ⟨r, 1, none⟩ = some (.string s) := by
  have e := (Below.heap_setCell w ⟨b, o, none⟩ v r hrb).trans h
  simp [World.cell?, e]

def hasNl (s : ByteArray) : Bool := decide (0 ≤ Lib.indexByte s.data.toList 10)
def noteToks (s : ByteArray) (l : List Tk) (p : Nat) : List Tk := if hasNl s then endL l p else l

theorem note_any (w : World) (b base : Nat) (text : ByteArray) (at_ : Nat) (vt vn : Value) (toks notes : List Tk) (p n : Nat) (h : Sc w b base text at_ vt vn toks notes) (hn : 0 < n) (hp : p + n ≤ text.size) (ht : text.size < 100000) (hl : toks.length < 1000000) (hl2 : notes.length < 1000000) :
    Calls Tryd.prog 62 #[.pointer (some ⟨b, 0, none⟩), .int .i64 p, .int .i64 n] w fun e w' => e = .returned (.tuple #[]) ∧ Keeps base b w w' ∧ ∃ vt' vn', Sc w' b base text (p + n) vt' vn' (noteToks (text.extract p (p + n)) toks p) (notes ++ [⟨0, text.extract p (p + n), p⟩]) := by
  have HP := Lib.hid (piece_any w b base text at_ vt vn toks notes 0 p n h hn hp ht)
  have hbase : base ≤ w.heap.size := by have h1 := h.above; have h2 := lt_of_block h.box; omega
  clear h
  generalize hs : text.extract p (p + n) = s at *
  clear hs hp hn
  go_enter Tryd.func62, Tryd.ntmps62
  go_wp2_with fail
  refine HP.out.mono ?_
  rintro e w1 ⟨rfl, hK, hS⟩
  have HK := Lib.hid hK
  have HS := Lib.hid hS
  clear hK hS
  unfold Tk.val
  go_wp2
  have hvn : vn.ownBlock ≠ some w1.heap.size := fun e => by have := (HS.out.rowN.lt _ e).2; omega
  have hnew := heap_alloc_new w1 (.cells #[.int .i64 0, .string s, .int .i64 p] 35)
  have HS1 := Lib.hid (HS.out.below ((Below.refl _ w1).alloc (Nat.le_refl _) (.cells #[.int .i64 0, .string s, .int .i64 p] 35)))
  have HK1 := Lib.hid (HK.out.trans (Keeps.of_below (n0 := base) (b := b) ((Below.refl _ w1).alloc (Nat.le_refl _) (.cells #[.int .i64 0, .string s, .int .i64 p] 35))))
  have hr1 : w1.heap.size < (w1.alloc (.cells #[.int .i64 0, .string s, .int .i64 p] 35)).heap.size := by simp
  generalize w1.alloc (.cells #[.int .i64 0, .string s, .int .i64 p] 35) = W1 at *
  generalize w1.heap.size = r at *
  clear HS HK HP
  obtain ⟨-, -, c3, f3, -, -⟩ := sc_spot HS1.out.box
  have d0 : W1.cell? ⟨r, 0, none⟩ = some (.int .i64 0) := by simp [World.cell?, hnew]
  have d1 : W1.cell? ⟨r, 1, none⟩ = some (.string s) := by simp [World.cell?, hnew]
  have d2 : W1.cell? ⟨r, 2, none⟩ = some (.int .i64 p) := by simp [World.cell?, hnew]
  have HS2 := Lib.hid ((HS1.out.below ((Below.refl _ W1).alloc (Nat.le_refl _) (.cells #[.int .i64 0, .string s, .int .i64 p] 35))).below ((Below.refl _ _).drew))
  have hrow := Lib.hid (HS2.out.rowN)
  have hsz : base ≤ (W1.alloc (.cells #[.int .i64 0, .string s, .int .i64 p] 35)).drew.heap.size := by have h1 := HS2.out.above; have h2 := lt_of_block HS2.out.box; omega
  have hnew4 : (W1.alloc (.cells #[.int .i64 0, .string s, .int .i64 p] 35)).drew.heap[W1.heap.size]? = some (.cells #[.int .i64 0, .string s, .int .i64 p] 35 (0, 0)) := heap_alloc_new W1 _
  have hnew5 : (W1.alloc (.cells #[.int .i64 0, .string s, .int .i64 p] 35)).drew.heap[r]? = some (.cells #[.int .i64 0, .string s, .int .i64 p] 35 (0, 0)) := (Below.heap_alloc W1 _ r hr1).trans hnew
  have hr5 : r < (W1.alloc (.cells #[.int .i64 0, .string s, .int .i64 p] 35)).drew.heap.size := by show r < (W1.alloc _).heap.size; simp; omega
  have HK2 := Lib.hid (HK1.out.trans (Keeps.of_below (n0 := base) (b := b) (((Below.refl W1.heap.size W1).alloc (Nat.le_refl _) (.cells #[.int .i64 0, .string s, .int .i64 p] 35)).drew)))
  have hrb : r ≠ b := fun e => by
    subst e
    have h1 := HS1.out.box
    rw [hnew] at h1
    injection h1 with h1; injection h1 with _ h1; revert h1; decide
  have c3' : (W1.alloc (.cells #[.int .i64 0, .string s, .int .i64 p] 35)).cell? ⟨b, 3, none⟩ = some vn := HS2.out.cell.2.2.2
  go_region_law (refine step_tok 0 s p rfl (.tmp 15) (.tmp 17) rfl base _ notes.length (cellsOf notes) rfl hrow.out W1.heap.size rfl hnew4 (by omega) hsz ?_; intro v1 w3 hown1 hgr1; obtain ⟨g1, cap1, rfl⟩ := ownsRow_form hown1 (by omega); have HP := Lib.hid (sc_putN HS2.out ⟨0, s, p⟩ rfl hgr1 hown1); obtain ⟨-, -, hbx1, hfx1, -⟩ := sc_spot HP.out.1; have hnew3 := (hgr1.block r hr5 (fun e => hvn e.symm)).trans hnew5; have hd : ∀ v, (w3.setCell ⟨b, 3, none⟩ v).cell? ⟨r, 1, none⟩ = some (.string s) := (fun v => cell_kept hnew3 hrb v); clear hown1 hgr1)
  all_goals
    go_wp2_with fail
    refine (Tryd.strings_Contains_one s 10 _).mono ?_
    rintro e w4 ⟨rfl, rfl⟩
    have HQ := Lib.hid HP.out.2
    have HL : Hid (decide (0 ≤ Lib.indexByte s.data.toList 10) = hasNl s) := rfl
    rw [HL.out]
    clear HP HL hbx1 hfx1 hd hnew3
    generalize w3.setCell ⟨b, 3, none⟩ (.slice (some ⟨g1, 0, none⟩) (notes.length + 1) cap1) = W4 at *
    cases hx : hasNl s
    · have HX := Lib.hid hx
      clear hx
      go_wp2
      refine bodyPost_end (results_none rfl _ _ _) rfl ?_
      refine ⟨rfl, HK2.out.trans HQ.out.2, vt, .slice (some ⟨g1, 0, none⟩) (notes.length + 1) cap1, ?_⟩
      rw [noteToks, HX.out]
      exact HQ.out.1
    · have HX := Lib.hid hx
      clear hx
      go_wp2_with fail
      refine (endLine_any W4 b base text (p + n) vt _ toks _ p HQ.out.1 hl).mono ?_
      rintro e w5 ⟨rfl, hk5, vt', hs5⟩
      have HK5 := Lib.hid hk5
      have HS5 := Lib.hid hs5
      clear hk5 hs5
      go_wp2
      refine bodyPost_end (results_none rfl _ _ _) rfl ?_
      refine ⟨rfl, (HK2.out.trans HQ.out.2).trans HK5.out, vt', .slice (some ⟨g1, 0, none⟩) (notes.length + 1) cap1, ?_⟩
      rw [noteToks, HX.out]
      exact HS5.out
end Go.Proofs.YtijinpnbhnfiiaaDoor
