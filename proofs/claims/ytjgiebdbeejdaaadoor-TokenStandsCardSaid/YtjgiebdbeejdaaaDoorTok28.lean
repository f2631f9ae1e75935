/- TokenStands: what is used of the text. -/
import Derived.Test.YtjgiebdbeejdaaaDoorTok22
import Derived.Test.YtjgiebdbeejdaaaDoorTok27
namespace Go.Proofs.YtjgiebdbeejdaaaDoor
open Go.RowKit Go.Joins
set_option linter.unusedVariables false

def spanB (tk : Tk) (k : Nat) : Bool := !putB tk && (decide (tk.at_ ≤ k) && decide (k < tk.at_ + tk.text.size))
theorem spanB_iff (tk : Tk) (k : Nat) : spanB tk k = true ↔ Span tk k := by
  unfold spanB Span
  cases putB tk <;> simp
/-- Which bytes the pieces hold. -/
def usedB (l : List Tk) (k : Nat) : Bool := l.any (fun tk => spanB tk k)
theorem usedB_push (l : List Tk) (tk : Tk) (k : Nat) : usedB (l ++ [tk]) k = (usedB l k || spanB tk k) := by
  unfold usedB
  rw [List.any_append]
  simp
theorem take_push {l : List Tk} {i : Nat} {tk : Tk} (h : l[i]? = some tk) : l.take (i + 1) = l.take i ++ [tk] := by
  obtain ⟨hlt, he⟩ := List.getElem?_eq_some_iff.1 h
  rw [List.take_succ_eq_append_getElem hlt, he]

theorem stand_off {t : ByteArray} {p : Nat} {x : St} (h : Stand t p x) : (x.toks ++ x.notes).Pairwise Off := by
  rw [List.pairwise_append]
  exact ⟨h.rise.imp fun ha => (off_of_le ha).1, h.offN.imp fun ha => (off_of_le ha).1, fun a ha b hb => h.off a ha b hb⟩

theorem used_free {l : List Tk} (h : l.Pairwise Off) {i : Nat} {tk : Tk} (hi : l[i]? = some tk) {k : Nat} (hk : Span tk k) : usedB (l.take i) k = false := by
  cases e : usedB (l.take i) k
  · rfl
  · exfalso
    unfold usedB at e
    obtain ⟨a, ha, hs⟩ := List.any_eq_true.1 e
    obtain ⟨j, hj⟩ := List.mem_iff_getElem?.1 ha
    obtain ⟨hj1, hj2⟩ := List.getElem?_eq_some_iff.1 hj
    rw [List.length_take] at hj1
    obtain ⟨hi1, hi2⟩ := List.getElem?_eq_some_iff.1 hi
    have hp := List.pairwise_iff_getElem.1 h j i (by omega) hi1 (by omega)
    rw [hi2] at hp
    rw [List.getElem_take] at hj2
    rw [hj2] at hp
    exact hp k ((spanB_iff a k).1 hs) hk

/-- The used bytes, and what is blank, are all. -/
theorem used_all {t : ByteArray} {x : St} (h : Stand t t.size x) (k : Nat) (hk : k < t.size) : usedB (x.toks ++ x.notes) k = true ∨ blankAt t k = true := by
  rcases h.cover k (by omega) with ⟨a, ha, hs⟩ | hb
  · exact .inl (List.any_eq_true.2 ⟨a, ha, (spanB_iff a k).2 hs⟩)
  · exact .inr hb

/-- The end that counts when the token i comes. -/
def EndOk (l : List Tk) (i e : Nat) : Prop := e = 0 ∨ ∃ j u, j < i ∧ l[j]? = some u ∧ putB u = false ∧ e = u.at_ + u.text.size
theorem EndOk.le {t : ByteArray} {p : Nat} {x : St} (h : Stand t p x) {i e : Nat} {tk : Tk} (hi : x.toks[i]? = some tk) (he : EndOk x.toks i e) : e ≤ tk.at_ := by
  rcases he with rfl | ⟨j, u, hj, hu, hp, rfl⟩
  · exact Nat.zero_le _
  · obtain ⟨hi1, hi2⟩ := List.getElem?_eq_some_iff.1 hi
    obtain ⟨hj1, hj2⟩ := List.getElem?_eq_some_iff.1 hu
    have := List.pairwise_iff_getElem.1 h.rise j i hj1 hi1 hj
    rw [hi2, hj2] at this
    unfold room at this
    rw [hp] at this
    exact this

/-! ### A row of bools of the call's own -/
def BoolRow (w : World) (b n : Nat) (u : Nat → Bool) : Prop := ∃ cur, w.heap[b]? = some (.cells cur 4 (0, 0)) ∧ cur.size = n ∧ ∀ k, k < n → cur[k]? = some (.bool (u k))
theorem BoolRow.cell {w : World} {b n : Nat} {u : Nat → Bool} (h : BoolRow w b n u) {k : Nat} (hk : k < n) : w.cell? ⟨b, k, none⟩ = some (.bool (u k)) ∧ w.frozen? ⟨b, k, none⟩ = false := by
  obtain ⟨cur, h1, h2, h3⟩ := h
  exact ⟨by simp [World.cell?, h1, h3 k hk], by simp [World.frozen?, h1]⟩
theorem BoolRow.lt {w : World} {b n : Nat} {u : Nat → Bool} (h : BoolRow w b n u) : b < w.heap.size := by
  obtain ⟨cur, h1, _⟩ := h
  exact lt_of_block h1
theorem BoolRow.same {w W : World} {b n : Nat} {u : Nat → Bool} (h : BoolRow w b n u) (e : W.heap[b]? = w.heap[b]?) : BoolRow W b n u := by
  obtain ⟨cur, h1, h2⟩ := h
  exact ⟨cur, e.trans h1, h2⟩
theorem BoolRow.congr {w : World} {b n : Nat} {u v : Nat → Bool} (h : BoolRow w b n u) (e : ∀ k, k < n → u k = v k) : BoolRow w b n v := by
  obtain ⟨cur, h1, h2, h3⟩ := h
  exact ⟨cur, h1, h2, fun k hk => by rw [← e k hk]; exact h3 k hk⟩
theorem BoolRow.set {w : World} {b n : Nat} {u : Nat → Bool} (h : BoolRow w b n u) (k : Nat) (x : Bool) : BoolRow (w.setCell ⟨b, k, none⟩ (.bool x)) b n (fun j => if j = k then x else u j) := by
  obtain ⟨cur, h1, h2, h3⟩ := h
  refine ⟨_, cells_set h1 _, by simpa using h2, fun j hj => ?_⟩
  rw [Array.getElem?_setIfInBounds]
  by_cases e : k = j
  · subst e; simp [h2, hj]
  · rw [if_neg e]
    dsimp only
    rw [if_neg (fun hh : j = k => e hh.symm)]
    exact h3 j hj
end Go.Proofs.YtjgiebdbeejdaaaDoor
