/- Plain laws on places: a text's signs, lines and columns. No program stands in it. -/
import Derived.Laws.RangeAny
namespace Go.Proofs.YthpengbglbgidaaDoor

/-- How many bytes the sign at p has; its number. -/
def wid (s : ByteArray) (p : Nat) : Nat := (Utf8.decode s p).2
def sig (s : ByteArray) (p : Nat) : Nat := (Utf8.decode s p).1
def lineN (s : ByteArray) (p l : Nat) : Nat := if sig s p = 10 then l + 1 else l
def colN (s : ByteArray) (p c : Nat) : Nat := if sig s p = 10 then 1 else c + 1

theorem wid_pos (s : ByteArray) (p : Nat) : 1 ≤ wid s p := by
  unfold wid Utf8.decode
  simp only []
  repeat' split
  all_goals simp

theorem wid_le (s : ByteArray) (p : Nat) (h : p < s.size) : p + wid s p ≤ s.size := by
  unfold wid Utf8.decode
  simp only []
  repeat' split
  all_goals simp_all
  all_goals omega

theorem sig_le (s : ByteArray) (p : Nat) : sig s p ≤ 2147483647 := decode_le s p

/-- Where the walk stands, from p, l, c on, when it comes to the first sign at the byte a or behind it (or to the end). -/
def seek (s : ByteArray) (a : Nat) : Nat → Nat → Nat → Nat → Nat × Nat × Nat
  | 0, p, l, c => (p, l, c)
  | f + 1, p, l, c => if p < s.size ∧ p < a then seek s a f (p + wid s p) (lineN s p l) (colN s p c) else (p, l, c)

theorem seek_more (s : ByteArray) (a : Nat) : ∀ f g p l c, s.size ≤ p + f → s.size ≤ p + g → seek s a f p l c = seek s a g p l c
  | 0, 0, p, l, c, _, _ => rfl
  | 0, g + 1, p, l, c, hf, _ => by
    rw [seek, seek, if_neg (by omega)]
  | f + 1, 0, p, l, c, _, hg => by
    rw [seek, seek, if_neg (by omega)]
  | f + 1, g + 1, p, l, c, hf, hg => by
    rw [seek, seek]
    have := wid_pos s p
    rw [seek_more s a f g _ _ _ (by omega) (by omega)]

/-- The state in which the walk from the beginning comes to a. -/
def st (s : ByteArray) (a : Nat) : Nat × Nat × Nat := seek s a s.size 0 1 1

theorem seek_step (s : ByteArray) (a p l c : Nat) (h : p < s.size) (ha : p < a) (f g : Nat) (hf : s.size ≤ p + f) (hg : s.size ≤ p + 1 + g) :
    seek s a f p l c = seek s a g (p + wid s p) (lineN s p l) (colN s p c) := by
  have := wid_pos s p
  rw [seek_more s a f (g + 1) p l c hf (by omega), seek, if_pos ⟨h, ha⟩]

theorem seek_stop (s : ByteArray) (a p l c : Nat) (h : ¬ (p < s.size ∧ p < a)) (f : Nat) : seek s a f p l c = (p, l, c) := by
  cases f with
  | zero => rfl
  | succ f => rw [seek, if_neg h]

/-- What Of tells. -/
def ofL (s : ByteArray) (a : Int) : Nat := if a < 0 ∨ (s.size : Int) < a then 0 else (st s a.toNat).2.1
def ofC (s : ByteArray) (a : Int) : Nat := if a < 0 ∨ (s.size : Int) < a then 0 else (st s a.toNat).2.2

/-! ### Bounds -/
theorem seek_bounds (s : ByteArray) (a : Nat) : ∀ f p l c, (seek s a f p l c).2.1 ≤ l + f ∧ (seek s a f p l c).2.2 ≤ max c 1 + f ∧ l ≤ (seek s a f p l c).2.1 ∧ (1 ≤ c → 1 ≤ (seek s a f p l c).2.2)
  | 0, p, l, c => by simp [seek]; omega
  | f + 1, p, l, c => by
    rw [seek]
    split
    · have h := seek_bounds s a f (p + wid s p) (lineN s p l) (colN s p c)
      have h1 : lineN s p l ≤ l + 1 ∧ l ≤ lineN s p l := by unfold lineN; split <;> omega
      have h2 : colN s p c ≤ c + 1 ∧ 1 ≤ colN s p c := by unfold colN; split <;> omega
      have h3 := h.2.2.2 h2.2
      omega
    · simp only []; omega

theorem seek_pos_le (s : ByteArray) (a : Nat) : ∀ f p l c, p ≤ s.size → (seek s a f p l c).1 ≤ s.size
  | 0, p, l, c, h => h
  | f + 1, p, l, c, h => by
    rw [seek]
    split
    · rename_i hp
      exact seek_pos_le s a f _ _ _ (wid_le s p hp.1)
    · exact h

/-! ### Places rise -/
theorem seek_ge (s : ByteArray) (a : Nat) : ∀ f p l c, p ≤ (seek s a f p l c).1
  | 0, p, l, c => Nat.le_refl _
  | f + 1, p, l, c => by
    rw [seek]
    split
    · have := seek_ge s a f (p + wid s p) (lineN s p l) (colN s p c)
      have := wid_pos s p
      omega
    · exact Nat.le_refl _

/-- To come to b one may come to a ≤ b first. -/
theorem seek_seek (s : ByteArray) (a b : Nat) (hab : a ≤ b) : ∀ f p l c, s.size ≤ p + f →
    seek s b f (seek s a f p l c).1 (seek s a f p l c).2.1 (seek s a f p l c).2.2 = seek s b f p l c
  | 0, p, l, c, _ => rfl
  | f + 1, p, l, c, hf => by
    have hw := wid_pos s p
    by_cases h : p < s.size ∧ p < a
    · have e := seek_seek s a b hab f (p + wid s p) (lineN s p l) (colN s p c) (by omega)
      rw [show seek s a (f + 1) p l c = seek s a f (p + wid s p) (lineN s p l) (colN s p c) by rw [seek, if_pos h]]
      rw [show seek s b (f + 1) p l c = seek s b f (p + wid s p) (lineN s p l) (colN s p c) by rw [seek, if_pos (by omega)]]
      rw [← e]
      refine seek_more s b (f + 1) f _ _ _ ?_ ?_
      all_goals
        have : p + wid s p ≤ (seek s a f (p + wid s p) (lineN s p l) (colN s p c)).1 := seek_ge s a f _ _ _
        omega
    · rw [show seek s a (f + 1) p l c = (p, l, c) by rw [seek, if_neg h]]

theorem seek_rises (s : ByteArray) (b : Nat) : ∀ f p l c, l < (seek s b f p l c).2.1 ∨ l = (seek s b f p l c).2.1 ∧ c ≤ (seek s b f p l c).2.2
  | 0, p, l, c => .inr ⟨rfl, Nat.le_refl _⟩
  | f + 1, p, l, c => by
    rw [seek]
    split
    · have h := seek_rises s b f (p + wid s p) (lineN s p l) (colN s p c)
      have h1 : (lineN s p l = l + 1) ∨ (lineN s p l = l ∧ colN s p c = c + 1) := by unfold lineN colN; split <;> simp
      omega
    · exact .inr ⟨rfl, Nat.le_refl _⟩

theorem st_rises (s : ByteArray) (a b : Nat) (hab : a ≤ b) : (st s a).2.1 < (st s b).2.1 ∨ (st s a).2.1 = (st s b).2.1 ∧ (st s a).2.2 ≤ (st s b).2.2 := by
  have h := seek_rises s b s.size (st s a).1 (st s a).2.1 (st s a).2.2
  unfold st at *
  rw [seek_seek s a b hab _ _ _ _ (by omega)] at h
  exact h

end Go.Proofs.YthpengbglbgidaaDoor
