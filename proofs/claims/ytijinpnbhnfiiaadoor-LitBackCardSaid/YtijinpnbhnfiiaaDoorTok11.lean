/- package token: all tokens and notes. -/
import Derived.Test.YtijinpnbhnfiiaaDoorTok10
namespace Go.Proofs.YtijinpnbhnfiiaaDoor
open Go.RowKit Go.Joins
set_option linter.unusedVariables false

/-- The scanner, sign by sign from p on; where it ends in a fault: there. -/
def allF (t : ByteArray) : Nat → Nat → St → Except Nat St
  | 0, _, x => .ok x
  | k + 1, p, x => if p < t.size then
      (if x.at_ ≤ p then (match beginP t x p (sig t p : Int) with
        | none => .error p
        | some x' => allF t k (p + wid t p) x')
      else allF t k (p + wid t p) x)
    else .ok x
def endP (t : ByteArray) : Except Nat St → Except Nat St
  | .ok x => .ok { x with toks := endL x.toks t.size }
  | .error p => .error p
def allP (t : ByteArray) : Except Nat St := endP t (allF t t.size 0 ⟨0, [], []⟩)

theorem endL_len (l : List Tk) (p : Nat) : (endL l p).length ≤ l.length + 1 := by
  unfold endL
  split
  · split <;> simp
  · omega
theorem beginP_len {t : ByteArray} {x x' : St} {p : Nat} {c : Int} (h : beginP t x p c = some x') : x'.toks.length ≤ x.toks.length + 1 ∧ x'.notes.length ≤ x.notes.length + 1 := by
  have hT : ∀ {k n}, takeP t x k p n = some x' → x'.toks.length ≤ x.toks.length + 1 ∧ x'.notes.length ≤ x.notes.length + 1 := by
    intro k n h
    unfold takeP at h
    split at h
    · cases h
    · cases h; simp
  have hN : ∀ {n}, noteP t x p n = some x' → x'.toks.length ≤ x.toks.length + 1 ∧ x'.notes.length ≤ x.notes.length + 1 := by
    intro n h
    unfold noteP at h
    split at h
    · cases h
    · cases h
      refine ⟨?_, by simp⟩
      show (noteToks _ _ _).length ≤ _
      unfold noteToks
      split
      · exact endL_len _ _
      · omega
  unfold beginP at h
  split at h
  · cases h
    exact ⟨endL_len _ _, Nat.le_succ _⟩
  split at h
  · cases h
    exact ⟨Nat.le_succ _, Nat.le_succ _⟩
  split at h
  · exact hN h
  split at h
  · exact hN h
  split at h
  · exact hT h
  split at h
  · exact hT h
  split at h
  · exact hT h
  split at h
  · exact hT h
  · exact hT h

/-- The scanner stands where blocks of cells do. -/
theorem InM.cells {w w' : World} {b base : Nat} {t : ByteArray} {x : St} (h : InM w b base t x) (hw : ∀ (k : Nat) (c : Array Value) (e : TypeId) (fz : Nat × Nat), w.heap[k]? = some (Obj.cells c e fz) → w'.heap[k]? = w.heap[k]?) : InM w' b base t x := by
  obtain ⟨vt, vn, h⟩ := h
  have aux : ∀ {v n xs}, w.ownsRow base 35 3 v n xs → w'.ownsRow base 35 3 v n xs := by
    intro v n xs ho
    obtain ⟨h1, h2⟩ := ho
    refine ⟨h1, ?_⟩
    rcases h2 with h2 | ⟨g, cap, cur, hv, hg, hh, r⟩
    · exact .inl h2
    · exact .inr ⟨g, cap, cur, hv, hg, (hw g _ _ _ hh).trans hh, r⟩
  exact ⟨vt, vn, (hw b _ _ _ h.box).trans h.box, aux h.rowT, aux h.rowN, h.kindT, h.kindN, h.nilT, h.nilN, h.above⟩

theorem InM.iterAt {w : World} {b base r p q : Nat} {t s : ByteArray} {x : St} (h : InM w b base t x) (hit : w.heap[r]? = some (.stringIter s p)) : InM (w.iterAt r s q) b base t x := by
  refine InM.cells h fun k c e fz hk => Lib.iterAt_other w r k s q (fun e => ?_)
  subst e
  rw [hit] at hk
  cases hk

theorem Keeps.iterAt {n0 b r q : Nat} {w u : World} {s : ByteArray} (h : Keeps n0 b w u) (hr : w.heap.size ≤ r) : Keeps n0 b w (u.iterAt r s q) :=
  ⟨h.os, h.tape, h.output, by rw [Lib.iterAt_size]; exact h.size, fun k hk hb ho => (Lib.iterAt_other u r k s q (by omega)).trans (h.block k hk hb ho), fun hx => by
    have hlt : b < w.heap.size := by obtain ⟨_, _, _, _, hx⟩ := hx; exact lt_of_block hx
    exact (h.box hx).same fun _ => Lib.iterAt_other u r b s q (by omega)⟩

theorem Keeps.max {n0 b : Nat} {w w' : World} (h : Keeps n0 b w w') (hm : MaxLen w) (hg : 2 < n0) (hb : n0 ≤ b) : MaxLen w' := by
  obtain ⟨m, hm⟩ := hm
  have hlt : 2 < w.heap.size := by
    rcases Nat.lt_or_ge 2 w.heap.size with h' | h'
    · exact h'
    · simp [World.cell?, Array.getElem?_eq_none h'] at hm
  have e := h.block 2 hlt (by omega) (.inl hg)
  exact ⟨m, (World.cell?_of_block (w := w) e).trans hm⟩

/-- What the whole ends with. -/
def EndsAll (b base : Nat) (t : ByteArray) (w : World) (r : Except Nat St) (e : Ending) (w' : World) : Prop :=
  Keeps base b w w' ∧ match r with
  | .ok x => e = .returned (.tuple #[]) ∧ InM w' b base t x
  | .error p => e = .panicked [{ v := .iface 74 (.agg #[.int .i64 p]), recovered := false }]

theorem all_any (w : World) (b base : Nat) (t : ByteArray) (h : InM w b base t ⟨0, [], []⟩) (hm : MaxLen w) (hg : 2 < base) (ht : t.size < 100000) :
    Calls Tryd.prog 43 #[.pointer (some ⟨b, 0, none⟩)] w fun e w' => EndsAll b base t w (allP t) e w' := by
  have HA : Hid (allP t = endP t (allF t t.size 0 ⟨0, [], []⟩)) := rfl
  have HI := Lib.hid h
  have hab : base ≤ b ∧ b < w.heap.size := by obtain ⟨_, _, h⟩ := h; exact ⟨h.above, lt_of_block h.box⟩
  have cc0 : w.cell? ⟨b, 0, none⟩ = some (.string t) := by obtain ⟨_, _, h⟩ := h; exact h.cell.1
  have HM := Lib.hid hm
  clear h hm
  go_enter Tryd.func43, Tryd.ntmps43
  go_wp2
  go_loopw [2] (fun _ wr => ∃ (x : St) (p k : Nat), wr.heap[w.heap.size]? = some (.stringIter t p) ∧ Hid (InM wr b base t x) ∧ Hid (Keeps base b w wr) ∧ w.heap.size + 1 ≤ wr.heap.size ∧ p ≤ t.size ∧ t.size ≤ p + k ∧ x.toks.length ≤ p ∧ x.notes.length ≤ p ∧ Hid (allF t k p x = allF t t.size 0 ⟨0, [], []⟩)) (fun _ wr => t.size - wr.iterPos w.heap.size)
  case atStart =>
    refine ⟨⟨0, [], []⟩, 0, t.size, World.iter_heap w t 0, ?_, ?_, by simp [World.iter], Nat.zero_le _, by omega, Nat.le_refl _, Nat.le_refl _, rfl⟩
    · exact HI.out.below ((Below.refl _ w).alloc (Nat.le_refl _) _)
    · exact Keeps.of_below ((Below.refl _ w).alloc (Nat.le_refl _) _)
  case round =>
    obtain ⟨x, p, k, hit, hI, hK, hsz, hp, hk, hl1, hl2, HR⟩ := hrel
    have hpos0 := iterPos_of hit
    by_cases hlt : p < t.size
    · have hnx : ∀ ty, (Instr.next (.pointer (some ⟨w.heap.size, 0, none⟩)) true ty).run Tryd.prog wr = _ := fun ty => Lib.run_next_any_at wr w.heap.size t p ty hit hlt
      have hit2 := Lib.iterAt_heap wr w.heap.size t p (p + (Utf8.decode t p).2) hit
      have hsz1 := Lib.iterAt_size wr w.heap.size t (p + (Utf8.decode t p).2)
      have HI1 := Lib.hid (hI.out.iterAt (q := p + (Utf8.decode t p).2) hit)
      have HK1 := Lib.hid (hK.out.iterAt (r := w.heap.size) (q := p + (Utf8.decode t p).2) (s := t) (Nat.le_refl _))
      generalize wr.iterAt w.heap.size t (p + (Utf8.decode t p).2) = W1 at *
      have c1 : W1.cell? ⟨b, 1, none⟩ = some (.int .i64 x.at_) := by obtain ⟨_, _, h⟩ := HI1.out; exact h.cell.2.1
      have HM1 := Lib.hid (HK1.out.max HM.out hg hab.1)
      have hwd := wid_pos t p
      have hwl := wid_le t p hlt
      clear hI hK hit
      obtain ⟨k, rfl⟩ : ∃ f', k = f' + 1 := ⟨k - 1, by omega⟩
      have HR2 : Hid ((if x.at_ ≤ p then (match beginP t x p (sig t p : Int) with | none => .error p | some x' => allF t k (p + wid t p) x') else allF t k (p + wid t p) x) = allF t t.size 0 ⟨0, [], []⟩) := by
        show _ = _
        have e := HR.out
        rw [allF, if_pos hlt] at e
        exact e
      clear HR
      by_cases ha : x.at_ ≤ p
      · have ga : decide (x.at_ ≤ p) = true := decide_eq_true ha
        have HR3 : Hid ((match beginP t x p (sig t p : Int) with | none => .error p | some x' => allF t k (p + wid t p) x') = allF t t.size 0 ⟨0, [], []⟩) := by
          show _ = _
          have e := HR2.out
          rw [if_pos ha] at e
          exact e
        clear HR2 ha
        go_wp2_with fail
        refine (begin_any W1 b base t x p ((Utf8.decode t p).1 : Int) HI1.out HM1.out hlt ht (by omega) (by omega)).mono ?_
        intro e w5 hE
        rcases ends_cases hE with ⟨x', ho, rfl, hk5, hi5⟩ | ⟨ho, rfl, hk5⟩
        · have hbl := beginP_len ho
          have HR4 : Hid (allF t k (p + (Utf8.decode t p).2) x' = allF t t.size 0 ⟨0, [], []⟩) := by
            show _ = _
            have e := HR3.out
            rw [show beginP t x p (sig t p : Int) = some x' from ho] at e
            exact e
          have HK5 := Lib.hid (HK1.out.trans hk5)
          have HI5 := Lib.hid hi5
          have hit5 : w5.heap[w.heap.size]? = some (.stringIter t (p + (Utf8.decode t p).2)) := (hk5.block w.heap.size (by omega) (by omega) (.inr fun c fz e => by rw [hit2] at e; cases e)).trans hit2
          have hs5 := hk5.size
          clear hE ho hk5 hi5 HR3
          go_wp2
          go_roundw
          case rel => exact ⟨x', _, k, hit5, HI5.out, HK5.out, by omega, hwl, (by have hq : (Utf8.decode t p).2 = wid t p := rfl; omega), (by have hq : (Utf8.decode t p).2 = wid t p := rfl; omega), (by have hq : (Utf8.decode t p).2 = wid t p := rfl; omega), HR4.out⟩
          case measure =>
            rw [iterPos_of hit5, hpos0]
            unfold wid at hwd
            omega
        · have HR4 : Hid (allP t = .error p) := by
            show _ = _
            rw [HA.out, ← HR3.out, show beginP t x p (sig t p : Int) = none from ho]
            rfl
          have HK5 := Lib.hid (HK1.out.trans hk5)
          clear hE ho hk5 HR3
          go_wp2
          refine ⟨rfl, HK5.out, ?_⟩
          rw [HR4.out]
      · have ga : decide (x.at_ ≤ p) = false := decide_eq_false ha
        have HR4 : Hid (allF t k (p + (Utf8.decode t p).2) x = allF t t.size 0 ⟨0, [], []⟩) := by
          show _ = _
          have e := HR2.out
          rw [if_neg ha] at e
          exact e
        clear HR2 ha
        go_wp2
        go_roundw
        case rel => exact ⟨x, _, k, hit2, HI1.out, HK1.out, by omega, hwl, (by have hq : (Utf8.decode t p).2 = wid t p := rfl; omega), (by have hq : (Utf8.decode t p).2 = wid t p := rfl; omega), (by have hq : (Utf8.decode t p).2 = wid t p := rfl; omega), HR4.out⟩
        case measure =>
          rw [iterPos_of hit2, hpos0]
          unfold wid at hwd
          omega
    · have hnx : ∀ ty, (Instr.next (.pointer (some ⟨w.heap.size, 0, none⟩)) true ty).run Tryd.prog wr = _ := fun ty => Lib.run_next_end_at wr w.heap.size t p ty hit hlt
      have HE : Hid (allP t = .ok { x with toks := endL x.toks t.size }) := by
        show _ = _
        rw [HA.out, ← HR.out]
        cases k with
        | zero => rfl
        | succ k => rw [allF, if_neg hlt]; rfl
      have cc1 : wr.cell? ⟨b, 0, none⟩ = some (.string t) := by obtain ⟨_, _, h⟩ := hI.out; exact h.cell.1
      go_wp2_with fail
      obtain ⟨vt, vn, hS⟩ := hI.out
      refine (endLine_any wr b base t x.at_ vt vn x.toks x.notes t.size hS (by omega)).mono ?_
      rintro e w5 ⟨rfl, hk5, vt', hi5⟩
      have HI5 := Lib.hid hi5
      have HK5 := Lib.hid (hK.out.trans hk5)
      clear hS hk5 hi5
      go_wp2
      refine bodyPost_end (results_none rfl _ _ _) rfl ?_
      refine ⟨HK5.out, ?_⟩
      rw [HE.out]
      exact ⟨rfl, vt', vn, HI5.out⟩
end Go.Proofs.YtijinpnbhnfiiaaDoor
