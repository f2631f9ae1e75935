/- A constraint in memory. -/
import Derived.Test.YtojdhlmmnhjolaaDoorTagP
import Derived.Test.YtojdhlmmnhjolaaDoorRows
import Derived.Below
import Derived.Lib.Hide
import Derived.OneCell
import Derived.Laws.OwnMore
namespace Go.Proofs.YtojdhlmmnhjolaaDoor
open Go.RowKit
set_option linter.unusedVariables false

mutual
/-- A value is the constraint, its parts in memory, in blocks that are ok. -/
def ExtAt (w : World) (ok : Nat → Prop) : Ex → Value → Prop
  | .mk op tag kids, v => ∃ a cap, v = .agg #[.string op, .string tag, .slice a kids.length cap] ∧ (ExtL w ok kids a 0 ∧ kids.length ≤ cap)
def ExtL (w : World) (ok : Nat → Prop) : List Ex → Option Addr → Nat → Prop
  | [], _, _ => True
  | x :: r, a, i => (∃ b o c0 c1 c2, a = some ⟨b, o, none⟩ ∧ ok b ∧ w.cell? ⟨b, o + i * 3, none⟩ = some c0 ∧ w.cell? ⟨b, o + i * 3 + 1, none⟩ = some c1 ∧ w.cell? ⟨b, o + i * 3 + 2, none⟩ = some c2 ∧ ExtAt w ok x (.agg #[c0, c1, c2])) ∧ ExtL w ok r a (i + 1)
end

theorem cell_lt {w : World} {b i : Nat} {v : Value} (h : w.cell? ⟨b, i, none⟩ = some v) : b < w.heap.size := by
  rcases Nat.lt_or_ge b w.heap.size with h' | h'
  · exact h'
  · simp [World.cell?, Array.getElem?_eq_none h'] at h
theorem cell_of_heap {w w' : World} {b i : Nat} (h : w'.heap[b]? = w.heap[b]?) : w'.cell? ⟨b, i, none⟩ = w.cell? ⟨b, i, none⟩ := by simp [World.cell?, h]
/-- What is ok in w is ok in w', and lies there as it lay. -/
def Moves (w w' : World) (ok ok' : Nat → Prop) : Prop := ∀ b, b < w.heap.size → ok b → ok' b ∧ w'.heap[b]? = w.heap[b]?
mutual
theorem ExtAt.moves {w w' : World} {ok ok' : Nat → Prop} (hb : Moves w w' ok ok') : ∀ (x : Ex) (v : Value), ExtAt w ok x v → ExtAt w' ok' x v
  | .mk op tag kids, v, h => by
    rw [ExtAt] at h ⊢
    obtain ⟨a, cap, rfl, hl, hc⟩ := h
    exact ⟨a, cap, rfl, ExtL.moves hb kids a 0 hl, hc⟩
theorem ExtL.moves {w w' : World} {ok ok' : Nat → Prop} (hb : Moves w w' ok ok') : ∀ (l : List Ex) (a : Option Addr) (i : Nat), ExtL w ok l a i → ExtL w' ok' l a i
  | [], a, i, h => by rw [ExtL]; trivial
  | x :: r, a, i, h => by
    rw [ExtL] at h ⊢
    obtain ⟨⟨b, o, c0, c1, c2, rfl, hok, h0, h1, h2, hx⟩, hr⟩ := h
    obtain ⟨k1, k2⟩ := hb b (cell_lt h0) hok
    exact ⟨⟨b, o, c0, c1, c2, rfl, k1, (cell_of_heap k2).trans h0, (cell_of_heap k2).trans h1, (cell_of_heap k2).trans h2, ExtAt.moves hb x _ hx⟩, ExtL.moves hb r _ _ hr⟩
end
/-- Constraints in a row of memory. -/
def ExtK (w : World) (ok : Nat → Prop) (l : List Ex) (a : Option Addr) (cap : Nat) : Prop := ExtL w ok l a 0 ∧ l.length ≤ cap
theorem ExtK.moves {w w' : World} {ok ok' : Nat → Prop} (hb : Moves w w' ok ok') (l : List Ex) (a : Option Addr) (cap : Nat) (h : ExtK w ok l a cap) : ExtK w' ok' l a cap := ⟨ExtL.moves hb l a 0 h.1, h.2⟩
theorem ExtAt_eq (w : World) (ok : Nat → Prop) (op tag : ByteArray) (kids : List Ex) (v : Value) : ExtAt w ok (.mk op tag kids) v = ∃ a cap, v = .agg #[.string op, .string tag, .slice a kids.length cap] ∧ ExtK w ok kids a cap := by
  rw [ExtAt]
  rfl
theorem extk_nil (w : World) (ok : Nat → Prop) : ExtK w ok [] Option.none 0 := ⟨by rw [ExtL]; trivial, Nat.le_refl _⟩
theorem ExtL.at_ {w : World} {ok : Nat → Prop} : ∀ (l : List Ex) (a : Option Addr) (j i : Nat) (x : Ex), ExtL w ok l a j → l[i]? = some x → ∃ b o c0 c1 c2, a = some ⟨b, o, none⟩ ∧ w.cell? ⟨b, o + (j + i) * 3, none⟩ = some c0 ∧ w.cell? ⟨b, o + (j + i) * 3 + 1, none⟩ = some c1 ∧ w.cell? ⟨b, o + (j + i) * 3 + 2, none⟩ = some c2 ∧ ExtAt w ok x (.agg #[c0, c1, c2])
  | [], a, j, i, x, h, hx => by cases hx
  | y :: r, a, j, 0, x, h, hx => by
    injection hx with hx
    subst hx
    rw [ExtL] at h
    obtain ⟨b, o, c0, c1, c2, e, _, h0, h1, h2, h3⟩ := h.1
    exact ⟨b, o, c0, c1, c2, e, h0, h1, h2, h3⟩
  | y :: r, a, j, i + 1, x, h, hx => by
    rw [ExtL] at h
    have := ExtL.at_ r a (j + 1) i x h.2 (by simpa using hx)
    rw [show j + 1 + i = j + (i + 1) by omega] at this
    exact this

/-- The cells of constraints one behind the other. -/
def KidCells (w : World) (ok : Nat → Prop) : List Ex → List Value → Prop
  | [], xs => xs = []
  | x :: r, xs => ∃ c0 c1 c2 rest, xs = c0 :: c1 :: c2 :: rest ∧ ExtAt w ok x (.agg #[c0, c1, c2]) ∧ KidCells w ok r rest
theorem KidCells.moves {w w' : World} {ok ok' : Nat → Prop} (hb : Moves w w' ok ok') : ∀ (l : List Ex) (xs : List Value), KidCells w ok l xs → KidCells w' ok' l xs
  | [], xs, h => h
  | x :: r, xs, h => by
    obtain ⟨c0, c1, c2, rest, e, h1, h2⟩ := h
    exact ⟨c0, c1, c2, rest, e, ExtAt.moves hb x _ h1, KidCells.moves hb r _ h2⟩
theorem KidCells.snoc {w : World} {ok : Nat → Prop} {x : Ex} {c0 c1 c2 : Value} (hx : ExtAt w ok x (.agg #[c0, c1, c2])) : ∀ (l : List Ex) (xs : List Value), KidCells w ok l xs → KidCells w ok (l ++ [x]) (xs ++ [c0, c1, c2])
  | [], xs, h => by
    have : xs = [] := h
    subst this
    exact ⟨c0, c1, c2, [], rfl, hx, rfl⟩
  | y :: r, xs, h => by
    obtain ⟨d0, d1, d2, rest, rfl, h1, h2⟩ := h
    exact ⟨d0, d1, d2, _, rfl, h1, KidCells.snoc hx r _ h2⟩
theorem KidCells.len {w : World} {ok : Nat → Prop} : ∀ (l : List Ex) (xs : List Value), KidCells w ok l xs → xs.length = l.length * 3
  | [], xs, h => by
    have : xs = [] := h
    subst this; rfl
  | y :: r, xs, h => by
    obtain ⟨d0, d1, d2, rest, rfl, h1, h2⟩ := h
    have := KidCells.len r _ h2
    simp; omega
theorem kids_list {w : World} {ok : Nat → Prop} {g : Nat} (hg : ok g) : ∀ (l : List Ex) (xs : List Value) (i : Nat), KidCells w ok l xs → (∀ j u, xs[j]? = some u → w.cell? ⟨g, 0 + (i * 3 + j), none⟩ = some u) → ExtL w ok l (some ⟨g, 0, none⟩) i
  | [], xs, i, h, hc => by rw [ExtL]; trivial
  | x :: r, xs, i, h, hc => by
    obtain ⟨c0, c1, c2, rest, rfl, h1, h2⟩ := h
    rw [ExtL]
    refine ⟨⟨g, 0, c0, c1, c2, rfl, hg, hc 0 c0 rfl, ?_, ?_, h1⟩, kids_list hg r rest (i + 1) h2 fun j u hj => ?_⟩
    · have := hc 1 c1 rfl; rw [← Nat.add_assoc] at this; exact this
    · have := hc 2 c2 rfl; rw [← Nat.add_assoc] at this; exact this
    · have := hc (j + 3) u (by simpa using hj)
      rw [show (i + 1) * 3 + j = i * 3 + (j + 3) by omega]
      exact this
theorem kids_row {w : World} {ok : Nat → Prop} {base : Nat} {T : TypeId} {v : Value} {l : List Ex} {xs : List Value} (h : w.ownsRow base T 3 v l.length xs) (hk : KidCells w ok l xs) (hok : ∀ g, base ≤ g → ok g) : ∃ a cap, v = .slice a l.length cap ∧ ExtK w ok l a cap := by
  rcases h.2 with ⟨rfl, h0⟩ | ⟨g, cap, cur, rfl, hbg, _, hnc, _⟩
  · have : l = [] := List.eq_nil_of_length_eq_zero h0
    subst this
    exact ⟨none, 0, rfl, extk_nil _ _⟩
  · refine ⟨_, cap, rfl, kids_list (hok g hbg) l xs 0 hk (fun j u hj => ?_), hnc⟩
    have hlt := (List.getElem?_eq_some_iff.1 hj).1
    have hlen := KidCells.len l xs hk
    rw [show 0 + (0 * 3 + j) = j by omega, h.cellAt j (by omega)]
    exact hj
end Go.Proofs.YtojdhlmmnhjolaaDoor
