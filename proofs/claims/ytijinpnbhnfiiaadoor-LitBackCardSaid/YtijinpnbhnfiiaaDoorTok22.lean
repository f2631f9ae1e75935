/- Rows of tokens, as the laws walk them. -/
import Derived.Test.YtijinpnbhnfiiaaDoorTok21
namespace Go.Proofs.YtijinpnbhnfiiaaDoor
open Go.RowKit Go.Joins
set_option linter.unusedVariables false

/-- The tokens l stand at a in w. -/
def TokAt (w : World) (a : Option Addr) (l : List Tk) : Prop := l.length = 0 ∨ ∃ g, a = some ⟨g, 0, none⟩ ∧ g < w.heap.size ∧ ∀ i tk, l[i]? = some tk →
  w.cell? ⟨g, i * 3, none⟩ = some (.int .i64 tk.kind) ∧ w.cell? ⟨g, i * 3 + 1, none⟩ = some (.string tk.text) ∧ w.cell? ⟨g, i * 3 + 2, none⟩ = some (.int .i64 tk.at_)

theorem TokAt.below {w W : World} {a : Option Addr} {l : List Tk} (h : TokAt w a l) (hb : Below w.heap.size w W) : TokAt W a l := by
  rcases h with h | ⟨g, rfl, hlt, h⟩
  · exact .inl h
  · refine .inr ⟨g, rfl, Nat.lt_of_lt_of_le hlt hb.size, fun i tk hi => ?_⟩
    obtain ⟨h0, h1, h2⟩ := h i tk hi
    exact ⟨(hb.cell (p := ⟨g, i * 3, none⟩) hlt).trans h0, (hb.cell (p := ⟨g, i * 3 + 1, none⟩) hlt).trans h1, (hb.cell (p := ⟨g, i * 3 + 2, none⟩) hlt).trans h2⟩

theorem cellsOf_at (l : List Tk) (i : Nat) (tk : Tk) (h : l[i]? = some tk) (j : Nat) (hj : j < 3) : (cellsOf l)[i * 3 + j]? = tk.cells[j]? := by
  obtain ⟨hlt, he⟩ := List.getElem?_eq_some_iff.1 h
  have e : l = l.take i ++ tk :: l.drop (i + 1) := by
    rw [← he, ← List.drop_eq_getElem_cons hlt, List.take_append_drop]
  have hl : (l.take i).length = i := by rw [List.length_take]; omega
  rw [e, cellsOf_append, List.getElem?_append_right (by rw [cellsOf_length, hl]; omega), cellsOf_length, hl, show i * 3 + j - i * 3 = j by omega]
  show (tk.cells ++ cellsOf (l.drop (i + 1)))[j]? = _
  rw [List.getElem?_append_left (by exact hj)]

theorem tokAt_of_row {w : World} {base : Nat} {vt : Value} {l : List Tk} (h : w.ownsRow base 35 3 vt l.length (cellsOf l)) : ∃ a cap, vt = .slice a l.length cap ∧ l.length ≤ cap ∧ cap ≤ maxLen ∧ TokAt w a l := by
  rcases h.2 with ⟨h1, h2⟩ | ⟨g, cap, cur, rfl, hb, hh, h1, h2, h3, h4⟩
  · exact ⟨none, 0, by rw [h1, h2], by omega, by unfold maxLen; omega, .inl h2⟩
  · refine ⟨_, cap, rfl, h1, h2, .inr ⟨g, rfl, lt_of_block hh, fun i tk hi => ?_⟩⟩
    have hlt := (List.getElem?_eq_some_iff.1 hi).1
    have hc := h.cellAt
    exact ⟨(hc (i * 3 + 0) (by omega)).trans (cellsOf_at l i tk hi 0 (by omega)), (hc (i * 3 + 1) (by omega)).trans (cellsOf_at l i tk hi 1 (by omega)), (hc (i * 3 + 2) (by omega)).trans (cellsOf_at l i tk hi 2 (by omega))⟩

/-- The row's cells at a place. -/
theorem TokAt.at {w : World} {a : Option Addr} {l : List Tk} (h : TokAt w a l) {i : Nat} {tk : Tk} (hi : l[i]? = some tk) : ∃ g, a = some ⟨g, 0, none⟩ ∧ g < w.heap.size ∧
    w.cell? ⟨g, i * 3, none⟩ = some (.int .i64 tk.kind) ∧ w.cell? ⟨g, i * 3 + 1, none⟩ = some (.string tk.text) ∧ w.cell? ⟨g, i * 3 + 2, none⟩ = some (.int .i64 tk.at_) := by
  rcases h with h | ⟨g, rfl, hlt, h⟩
  · have := (List.getElem?_eq_some_iff.1 hi).1
    omega
  · exact ⟨g, rfl, hlt, h i tk hi⟩

/-! ### What scanR says -/
theorem scanR_ok {s : ByteArray} (h : (scanR s).err = 0) : s.size ≤ 65536 ∧ wrongR s = -1 ∧ allP s = .ok (scanR s).st ∧ (scanR s).pos = 0 := by
  unfold scanR at h ⊢
  split
  · rename_i h1; rw [if_pos h1] at h; exact absurd h (by decide)
  · rename_i h1
    rw [if_neg h1] at h
    split
    · rename_i h2; rw [if_pos h2] at h; exact absurd (show (2 : Int) = 0 from h) (by decide)
    · rename_i h2
      rw [if_neg h2] at h
      cases e : allP s with
      | ok x => exact ⟨by omega, wrongR_neg s h2, rfl, rfl⟩
      | error p => rw [e] at h; exact absurd (show (3 : Int) = 0 from h) (by decide)

theorem wrongF_bound (t : ByteArray) : ∀ f p, p ≤ t.size → wrongF t f p ≤ t.size
  | 0, p, h => by rw [wrongF]; omega
  | f + 1, p, h => by
    rw [wrongF]
    split
    · rename_i hlt
      split
      · omega
      · exact wrongF_bound t f _ (wid_le t p hlt)
    · omega
theorem wrongR_bound (t : ByteArray) : wrongR t ≤ t.size := wrongF_bound t t.size 0 (Nat.zero_le _)

theorem allF_err (t : ByteArray) : ∀ k p x q, p ≤ t.size → allF t k p x = .error q → q ≤ t.size
  | 0, p, x, q, hp, h => by rw [allF] at h; cases h
  | k + 1, p, x, q, hp, h => by
    rw [allF] at h
    split at h
    · rename_i hlt
      have hwl := wid_le t p hlt
      split at h
      · split at h
        · cases h; exact hp
        · exact allF_err t k _ _ q hwl h
      · exact allF_err t k _ _ q hwl h
    · cases h

theorem scanR_fault {s : ByteArray} (h : (scanR s).err ≠ 0) (hs : s.size ≤ 65536) : (scanR s).st = st0 ∧ 0 ≤ (scanR s).pos ∧ (scanR s).pos ≤ s.size := by
  unfold scanR at h ⊢
  rw [if_neg (by omega)] at h ⊢
  split
  · rename_i h2
    exact ⟨rfl, h2, wrongR_bound s⟩
  · rename_i h2
    rw [if_neg h2] at h
    cases e : allP s with
    | ok x => rw [e] at h; exact absurd rfl h
    | error p =>
      refine ⟨rfl, by show (0 : Int) ≤ (p : Nat); omega, ?_⟩
      have : p ≤ s.size := by
        unfold allP at e
        cases e2 : allF s s.size 0 ⟨0, [], []⟩ with
        | ok x => rw [e2] at e; cases e
        | error q => rw [e2] at e; cases e; exact allF_err s s.size 0 _ _ (Nat.zero_le _) e2
      show ((p : Nat) : Int) ≤ _
      omega

theorem scanR_kinds {s : ByteArray} (h : (scanR s).err = 0) : ∀ tk ∈ (scanR s).st.toks, KindOk tk := fun tk htk => (allP_good (scanR_ok h).2.2.1 tk htk).kindOk
theorem scanR_put {s : ByteArray} (h : (scanR s).err = 0) : PutOk (scanR s).st.toks := allP_put (scanR_ok h).2.2.1
theorem scanR_last {s : ByteArray} (h : (scanR s).err = 0) (tk : Tk) (hl : (scanR s).st.toks.getLast? = some tk) : endsB tk = false := allP_last (scanR_ok h).2.2.1 tk hl
theorem scanR_stand {s : ByteArray} (h : (scanR s).err = 0) : Stand s s.size (scanR s).st := allP_stand (scanR_ok h).2.1 (scanR_ok h).2.2.1
end Go.Proofs.YtijinpnbhnfiiaaDoor
