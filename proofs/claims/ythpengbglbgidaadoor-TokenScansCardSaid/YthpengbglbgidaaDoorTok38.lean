/- The document's scanner: its two rows in memory; what a step tells. -/
import Derived.Test.YthpengbglbgidaaDoorTok37
import Derived.Test.YthpengbglbgidaaDoorTok33
import Derived.Test.YthpengbglbgidaaDoorRefWrong
namespace Go.Proofs.YthpengbglbgidaaDoor
open Go.RowKit Go.Joins
set_option linter.unusedVariables false

/-- The tokens and the notes, in rows of the call's own. -/
structure Two (w : World) (base : Nat) (vt vn : Value) (toks notes : List Tk) : Prop where
  rowT : w.ownsRow base 42 3 vt toks.length (cellsOf toks)
  rowN : w.ownsRow base 42 3 vn notes.length (cellsOf notes)
  kindT : ∀ t ∈ toks, t.kind ≠ 0
  kindN : ∀ t ∈ notes, t.kind = 0
  nilT : toks = [] → vt = .slice none 0 0
  nilN : notes = [] → vn = .slice none 0 0

section
variable {w w' : World} {base : Nat} {vt vn : Value} {toks notes : List Tk}

theorem first_kindR {v : Value} {l : List Tk} {t : Tk} {g : Nat} (h : w.ownsRow base 42 3 v (t :: l).length (cellsOf (t :: l))) (hg : v.ownBlock = some g) : w.cell? ⟨g, 0, none⟩ = some (.int .i64 t.kind) :=
  h.cells hg 0 _ rfl
theorem Two.apart (h : Two w base vt vn toks notes) : vt.ownBlock = none ∨ vt.ownBlock ≠ vn.ownBlock := by
  cases ht : toks with
  | nil => left; rw [h.nilT ht]; rfl
  | cons t l =>
    right
    intro e
    have hT := h.rowT
    rw [ht] at hT
    obtain ⟨g, cap, rfl⟩ := ownsRow_form hT (by simp)
    have c1 := first_kindR hT rfl
    cases hn : notes with
    | nil => rw [h.nilN hn] at e; cases e
    | cons n m =>
      have hN := h.rowN
      rw [hn] at hN
      have c2 := first_kindR hN e.symm
      have e2 := c1.symm.trans c2
      have k1 := h.kindT t (by rw [ht]; exact .head _)
      have k2 := h.kindN n (by rw [hn]; exact .head _)
      have e3 : ((t.kind : Nat) : Int) = ((n.kind : Nat) : Int) := by injection e2 with e2; injection e2
      omega
theorem Two.apart' (h : Two w base vt vn toks notes) : vn.ownBlock = none ∨ vn.ownBlock ≠ vt.ownBlock := by
  rcases h.apart with h | h
  · cases e : vn.ownBlock with
    | none => exact .inl rfl
    | some g => exact .inr (by rw [h]; simp)
  · exact .inr (Ne.symm h)
theorem Two.below (h : Two w base vt vn toks notes) (hb : Below w.heap.size w w') : Two w' base vt vn toks notes := by
  have g : w.grownBy w' none := ⟨hb.os, hb.tape, hb.output, hb.size, fun k hk _ => hb.block k hk⟩
  have aux : ∀ v : Value, v.ownBlock = none ∨ v.ownBlock ≠ none := fun v => by cases v.ownBlock <;> simp
  exact ⟨h.rowT.kept g (aux _), h.rowN.kept g (aux _), h.kindT, h.kindN, h.nilT, h.nilN⟩
theorem cells_push (l : List Tk) (t : Tk) : cellsOf (l ++ [t]) = cellsOf l ++ t.cells := by rw [cellsOf_append]; simp [cellsOf]
theorem Two.pushT (h : Two w base vt vn toks notes) (t : Tk) (hk : t.kind ≠ 0) {v' : Value} (hg : w.grownBy w' vt.ownBlock) (hown : w'.ownsRow base 42 3 v' (toks.length + 1) (cellsOf toks ++ t.cells)) : Two w' base v' vn (toks ++ [t]) notes := by
  refine ⟨?_, h.rowN.kept hg h.apart', ?_, h.kindN, fun e => by simp at e, h.nilN⟩
  · rw [cells_push, show (toks ++ [t]).length = toks.length + 1 by simp]
    exact hown
  · intro u hu
    rcases List.mem_append.1 hu with hu | hu
    · exact h.kindT u hu
    · rw [List.mem_singleton.1 hu]; exact hk
theorem Two.pushN (h : Two w base vt vn toks notes) (t : Tk) (hk : t.kind = 0) {v' : Value} (hg : w.grownBy w' vn.ownBlock) (hown : w'.ownsRow base 42 3 v' (notes.length + 1) (cellsOf notes ++ t.cells)) : Two w' base vt v' toks (notes ++ [t]) := by
  refine ⟨h.rowT.kept hg h.apart, ?_, h.kindT, ?_, h.nilT, fun e => by simp at e⟩
  · rw [cells_push, show (notes ++ [t]).length = notes.length + 1 by simp]
    exact hown
  · intro u hu
    rcases List.mem_append.1 hu with hu | hu
    · exact h.kindN u hu
    · rw [List.mem_singleton.1 hu]; exact hk
theorem tokAt_of_rowR {l : List Tk} (h : w.ownsRow base 42 3 vt l.length (cellsOf l)) : ∃ a cap, vt = .slice a l.length cap ∧ l.length ≤ cap ∧ cap ≤ maxLen ∧ TokAt w a l := by
  rcases h.2 with ⟨h1, h2⟩ | ⟨g, cap, cur, rfl, hb, hh, h1, h2, h3, h4⟩
  · exact ⟨none, 0, by rw [h1, h2], by omega, by unfold maxLen; omega, .inl h2⟩
  · refine ⟨_, cap, rfl, h1, h2, .inr ⟨g, rfl, lt_of_block hh, fun i tk hi => ?_⟩⟩
    have hlt := (List.getElem?_eq_some_iff.1 hi).1
    have hc := h.cellAt
    exact ⟨(hc (i * 3 + 0) (by omega)).trans (cellsOf_at l i tk hi 0 (by omega)), (hc (i * 3 + 1) (by omega)).trans (cellsOf_at l i tk hi 1 (by omega)), (hc (i * 3 + 2) (by omega)).trans (cellsOf_at l i tk hi 2 (by omega))⟩
theorem below_two {B : Nat} {u u' w0 : World} {v : Value} {n : Nat} {xs : List Value} (h : Below B w0 u) (hg : u.grownBy u' v.ownBlock) (hB : B ≤ u.heap.size) (hown : u.ownsRow B 42 3 v n xs) : Below B w0 u' :=
  Below.grown h hg hB (fun k hk => (hown.lt k hk).1)
end

theorem Tryd.info42 : (Tryd.prog.info? 42).map (fun i => (i.zero, i.size, i.bytes)) = some (some (.agg #[.int .i64 0, .string ⟨#[]⟩, .int .i64 0]), 3, 32) := by kernel_rfl

/-- append of one token, laid in a block of its own. -/
theorem app_ref {ops : Array Oper} {rest : List Oper} {o : Oper} {act : Act} {Q : Exit → Act → World → Prop} {w : World} (ki : Int) (tx : ByteArray) (ai : Int) (hgd : o.guard = none) (x y : Operand)
    (ho : o.op = .call { callee := .builtin .append, args := #[x, y], argTypes := #[27, 27] }) (base : Nat) (v : Value) (n : Nat) (xs : List Value) (hs : act.eval x = v) (hown : (w.alloc (.cells #[.int .i64 ki, .string tx, .int .i64 ai] 42)).ownsRow base 42 3 v n xs)
    (hy : act.eval y = .slice (some ⟨w.heap.size, 0, none⟩) 1 1) (hn : n ≤ 1000000) (hbase : base ≤ w.heap.size)
    (h : ∀ v' w', w'.ownsRow base 42 3 v' (n + 1) (xs ++ [.int .i64 ki, .string tx, .int .i64 ai]) → (w.alloc (.cells #[.int .i64 ki, .string tx, .int .i64 ai] 42)).grownBy w' v.ownBlock → wpList Tryd.prog ops Q rest (act.put o.dst v') w') : wpList Tryd.prog ops Q (o :: rest) act (w.alloc (.cells #[.int .i64 ki, .string tx, .int .i64 ai] 42)) := by
  obtain ⟨i0, hi, hz0, hz1, hz2⟩ := info_parts Tryd.info42
  refine wpList_append_own _ hgd x y 27 ho base 42 i0 _ 3 32 Tryd.underlying27 hi hz0 hz1 hz2 rfl (by decide) v n xs hs hown ⟨w.heap.size, 0, none⟩ 1 1 [.int .i64 ki, .string tx, .int .i64 ai] hy rfl (fun j u hj => ?_) (fun u hu => ?_) (by unfold maxLen; omega) (by omega) (by simp; omega) (fun v' w' h1 h2 _ => h v' w' h1 h2)
  · have e := heap_alloc_new w (.cells #[.int .i64 ki, .string tx, .int .i64 ai] 42)
    rw [plain_add, Nat.zero_add]
    simp only [World.cell?, e]
    simpa using hj
  · simp at hu
    rcases hu with rfl | rfl | rfl <;> rfl

/-! ### What a step tells, class by class -/
theorem fine_put (p : Nat) : Fine ⟨6, nlT, p⟩ := by
  refine ⟨by simp, by simp, fun h => by simp at h, fun _ => ?_⟩
  show isLet (bt nlT 0) = false
  decide
theorem cls_fine {t : ByteArray} {p k e : Nat} (hp : p < t.size) (h : Cls t p k e) : Fine ⟨k, t.extract p e, p⟩ := by
  have hg := h.gt hp
  have hb : bt (t.extract p e) 0 = bt t p := by rw [bt_ext t p e 0 (by omega) hg.2, Nat.add_zero]
  cases h with
  | run h =>
    have hw := wordN_le (t.extract p (runB t isIn t.size (p + 1)))
    cases hl : isLet (bt t p)
    · exact ⟨by simp, by simp, fun h => by simp at h, fun h => by simp at h⟩
    · refine ⟨by simp <;> omega, by simp <;> omega, fun _ => by show isLet (bt (t.extract p _) 0) = true; rw [hb]; exact hl, fun h => by simp at h; omega⟩
  | quote h e he => exact ⟨by simp, by simp, fun h => by simp at h, fun h => by simp at h⟩
  | sign hI hn hq h0 =>
    refine ⟨by simp, by simp, fun h => by simp at h, fun _ => ?_⟩
    show isLet (bt (t.extract p _) 0) = false
    rw [hb]
    cases e : isLet (bt t p)
    · rfl
    · rw [let_in e] at hn; cases hn

/-- The step at p is what the scan goes on with. -/
def Goes (s : ByteArray) (f p : Nat) (toks notes : List Tk) (p' : Nat) (toks' notes' : List Tk) : Prop := ∃ f', s.size ≤ p' + f' ∧ scanF s (f + 1) ⟨p, toks, notes⟩ = scanF s f' ⟨p', toks', notes'⟩

theorem scanF_some {s : ByteArray} {f p : Nat} {toks notes : List Tk} {y : St} (hp : p < s.size) (h : stepB s ⟨p, toks, notes⟩ = some y) : scanF s (f + 1) ⟨p, toks, notes⟩ = scanF s f y := by
  rw [scanF, if_pos hp, h]
theorem scanF_none {s : ByteArray} {f p : Nat} {toks notes : List Tk} (hp : p < s.size) (h : stepB s ⟨p, toks, notes⟩ = none) : scanF s (f + 1) ⟨p, toks, notes⟩ = .error p := by
  rw [scanF, if_pos hp, h]

/-- Behind a valid step the rest is valid. -/
theorem step_valid {t : ByteArray} {p : Nat} {l n : List Tk} {y : St} (hp : p < t.size) (hv : Valid t p) (h : stepB t ⟨p, l, n⟩ = some y) : Valid t y.at_ ∧ p < y.at_ ∧ y.at_ ≤ t.size := by
  obtain ⟨hg, hv'⟩ := valid_next hp hv
  have hw := wid_pos t p
  have hwl := wid_le t p hp
  rcases step_same t ⟨0, l, n⟩ p hp hg with ⟨e1, e2⟩ | ⟨x', y', e1, e2, s1, s2, s3⟩
  · have e2' : stepB t ⟨p, l, n⟩ = none := e2
    rw [e2'] at h; cases h
  · have e2' : stepB t ⟨p, l, n⟩ = some y' := e2
    rw [e2'] at h
    cases h
    rcases s3 with ⟨s3, s4⟩ | ⟨s3, s4⟩
    · rw [s4]; exact ⟨hv', by omega, hwl⟩
    · have hE : x'.at_ ≤ t.size ∧ Edge t x'.at_ := by
        cases begin_step hp e1 with
        | nl h e => subst e; exact absurd s3 (by show ¬ p < 0; omega)
        | blank h e => subst e; exact absurd s3 (by show ¬ p < 0; omega)
        | note n h0 hn he e => subst e; exact ⟨hn, he⟩
        | take k n hk h0 hn he hb e => subst e; exact ⟨hn, he⟩
      have hs := edge_skip (t := t) (p := p) (q := x'.at_) hp s3 hE.1 hE.2
      obtain ⟨a1, a2⟩ := allF_to t x' hE.1 hE.2 t.size (p + wid t p) hs (by omega) hv'
      rw [← s4]
      exact ⟨a2, s3, hE.1⟩

/-! ### Is there a line's end? -/
def nlF (s : ByteArray) (p : Nat) : Nat → Bool
  | 0 => false
  | n + 1 => nlF s p n || decide (bt s (p + n) = 10)
theorem nlF_iff (s : ByteArray) (p : Nat) : ∀ n, nlF s p n = true ↔ ∃ i, i < n ∧ bt s (p + i) = 10
  | 0 => by simp [nlF]
  | n + 1 => by
    rw [nlF, Bool.or_eq_true, nlF_iff s p n, decide_eq_true_eq]
    constructor
    · rintro (⟨i, h1, h2⟩ | h)
      · exact ⟨i, by omega, h2⟩
      · exact ⟨n, by omega, h⟩
    · rintro ⟨i, h1, h2⟩
      by_cases e : i = n
      · subst e; exact .inr h2
      · exact .inl ⟨i, by omega, h2⟩
theorem hasNl_iff (t : ByteArray) : hasNl t = true ↔ ∃ i, i < t.size ∧ bt t i = 10 := by
  unfold hasNl
  rw [decide_eq_true_eq]
  have hge := Lib.indexByte_ge t.data.toList 10
  constructor
  · intro h
    obtain ⟨o, ho⟩ : ∃ o : Nat, Lib.indexByte t.data.toList 10 = o := ⟨(Lib.indexByte t.data.toList 10).toNat, by omega⟩
    have h1 := (Lib.indexByte_some ho).1
    refine ⟨o, (List.getElem?_eq_some_iff.1 h1).1, ?_⟩
    exact bt_of_list t o 10 h1
  · rintro ⟨i, h1, h2⟩
    by_cases e : Lib.indexByte t.data.toList 10 = -1
    · have h3 := Lib.indexByte_none e i
      rw [bt_list t i h1, h2] at h3
      exact absurd rfl h3
    · omega
theorem nl_same (s : ByteArray) (p n : Nat) (h : p + n ≤ s.size) : hasNl (s.extract p (p + n)) = nlF s p n := by
  rw [Bool.eq_iff_iff, hasNl_iff, nlF_iff, ext_size _ _ _ h]
  constructor
  · rintro ⟨i, h1, h2⟩
    rw [bt_ext s p (p + n) i (by omega) h] at h2
    exact ⟨i, by omega, h2⟩
  · rintro ⟨i, h1, h2⟩
    refine ⟨i, by omega, ?_⟩
    rw [bt_ext s p (p + n) i (by omega) h]
    exact h2
theorem noteI_cases (s : ByteArray) (p : Nat) : noteI s p = 0 ∨ (bt s p = 47 ∧ (noteI s p = -1 ∨ ∃ e : Nat, e ≠ 0 ∧ noteI s p = (e : Int))) := by
  by_cases h : noteI s p = 0
  · exact .inl h
  · right
    have h47 : bt s p = 47 := by
      by_cases e : bt s p = 47
      · exact e
      · exact absurd (by unfold noteI; rw [if_pos (.inr e)]) h
    refine ⟨h47, ?_⟩
    have aux : ∀ f k, closeI s f k = -1 ∨ ∃ e : Nat, closeI s f k = (e : Int) := by
      intro f
      induction f with
      | zero => intro k; exact .inl rfl
      | succ f ih =>
        intro k
        rw [closeI]
        split
        · split
          · exact .inr ⟨k, rfl⟩
          · exact ih _
        · exact .inl rfl
    by_cases h1 : noteI s p = -1
    · exact .inl h1
    · right
      have : ∃ e : Nat, noteI s p = (e : Int) := by
        unfold noteI at h h1 ⊢
        split
        · exact ⟨0, rfl⟩
        · split
          · exact ⟨_, rfl⟩
          · split
            · exact ⟨0, rfl⟩
            · rename_i c1 c2 c3
              rw [if_neg c1, if_neg c2, if_neg c3] at h1
              rcases aux s.size (p + 4) with e | e
              · exact absurd e h1
              · exact e
      obtain ⟨e, he⟩ := this
      exact ⟨e, fun h0 => h (by rw [he, h0]; rfl), he⟩
end Go.Proofs.YthpengbglbgidaaDoor
