/- Names, byte by byte; small laws on signs. No program stands in it. -/
import Derived.Test.YtijinpnbhnfiiaaDoorTok14
import Derived.Test.YtijinpnbhnfiiaaDoorBase
namespace Go.Proofs.YtijinpnbhnfiiaaDoor
open Go.RowKit Go.Joins
set_option linter.unusedVariables false

/-- From byte k on: letters and figures. -/
def restB (s : ByteArray) : Nat → Nat → Bool
  | 0, _ => true
  | f + 1, k => if k < s.size then isIn (bt s k) && restB s f (k + 1) else true
def refNameB (s : ByteArray) : Bool := if s.size = 0 then false else if isFig (bt s 0) then false else if wordN s ≠ 0 then false else restB s s.size 0

theorem size_pos_list (s : ByteArray) (h : s.size ≠ 0) : (s.toList == []) = false := by
  cases e : s.toList with
  | nil => have := list_size s; rw [e] at this; simp at this; omega
  | cons x l => rfl

theorem MaxLen.below {w w' : World} (h : MaxLen w) (hb : Below w.heap.size w w') : MaxLen w' := by
  obtain ⟨m, h⟩ := h
  have hlt : 2 < w.heap.size := by
    rcases Nat.lt_or_ge 2 w.heap.size with h' | h'
    · exact h'
    · simp [World.cell?, Array.getElem?_eq_none h'] at h
  exact ⟨m, (hb.cell (p := ⟨2, 0, none⟩) hlt).trans h⟩

theorem sig_1 (s : ByteArray) (p : Nat) (h : bt s p < 128) : sig s p = bt s p ∧ wid s p = 1 := by
  have e := dec_1 s p h
  unfold sig wid
  rw [e]
  exact ⟨rfl, rfl⟩

theorem sig_big (s : ByteArray) (p : Nat) (h : 128 ≤ bt s p) : 128 ≤ sig s p := by
  by_cases h1 : bt s p < 192 ∨ 248 ≤ bt s p
  · have e := dec_x s p h h1
    unfold sig
    rw [e]
    decide
  · unfold sig
    by_cases h2 : bt s p < 224
    · rw [dec_2 s p (by omega) (by omega)]
      split
      · rename_i hx; exact hx.2.2
      · decide
    · by_cases h3 : bt s p < 240
      · rw [dec_3 s p (by omega) (by omega)]
        split
        · rename_i hx; have := hx.2.2.2.1; show 128 ≤ _; omega
        · decide
      · rw [dec_4 s p (by omega) (by omega)]
        split
        · rename_i hx; show 128 ≤ _; omega
        · decide

theorem isLet_lt {c : Int} (h : isLet c = true) : 65 ≤ c ∧ c ≤ 122 := by
  unfold isLet at h
  simp only [Bool.or_eq_true, Bool.and_eq_true, decide_eq_true_eq, beq_iff_eq] at h
  omega
theorem isFig_lt {c : Int} (h : isFig c = true) : 48 ≤ c ∧ c ≤ 57 := by
  unfold isFig at h
  simp only [Bool.and_eq_true, decide_eq_true_eq] at h
  omega
theorem isIn_lt {c : Int} (h : isIn c = true) : c < 128 := by
  unfold isIn at h
  rcases Bool.or_eq_true_iff.1 h with h | h
  · have := isLet_lt h; omega
  · have := isFig_lt h; omega

/-- The row of signs reaches the end just where every byte is of the sort. -/
theorem row_rest (s : ByteArray) : ∀ k p, p ≤ s.size → s.size ≤ p + k → ((rowF s isIn k p = s.size) ↔ restB s k p = true)
  | 0, p, h1, h2 => by simp [rowF, restB]
  | k + 1, p, h1, h2 => by
    rw [rowF, restB]
    by_cases hp : p < s.size
    · rw [if_pos hp, if_pos hp]
      by_cases hb : bt s p < 128
      · obtain ⟨e1, e2⟩ := sig_1 s p hb
        rw [e1, e2]
        cases hi : isIn (bt s p)
        · simp; omega
        · simp only [if_true, Bool.true_and]
          exact row_rest s k (p + 1) hp (by omega)
      · have hs := sig_big s p (by omega)
        have n1 : isIn (sig s p) = false := by
          cases e : isIn (sig s p)
          · rfl
          · have := isIn_lt e; omega
        have n2 : isIn (bt s p) = false := by
          cases e : isIn (bt s p)
          · rfl
          · have := isIn_lt e; omega
        rw [n1, n2]
        simp
        omega
    · rw [if_neg hp, if_neg hp]
      simp

theorem names_same (s : ByteArray) : nameB s = refNameB s := by
  unfold nameB refNameB
  by_cases h0 : s.size = 0
  · rw [if_pos h0]
    have := nameN_le s
    have : nameN s = 0 := by omega
    rw [this]; rfl
  rw [if_neg h0]
  have hrr := row_rest s s.size 0 (Nat.zero_le _) (by omega)
  have hlet : rowN s isLet = 0 ↔ isLet (bt s 0) = false := by
    unfold rowN
    obtain ⟨k, hk⟩ : ∃ k, s.size = k + 1 := ⟨s.size - 1, by omega⟩
    have e : rowF s isLet s.size 0 = if isLet (sig s 0) then rowF s isLet k (0 + wid s 0) else 0 := by
      conv => lhs; rw [show s.size = k + 1 from hk]
      rw [rowF, if_pos (by omega)]
    rw [e]
    have mono : ∀ k p, p ≤ s.size → p ≤ rowF s isLet k p := by
      intro k
      induction k with
      | zero => intro p hp; rw [rowF]; exact hp
      | succ k ih =>
        intro p hp
        rw [rowF]
        split
        · rename_i hlt
          split
          · exact Nat.le_trans (Nat.le_add_right _ _) (ih _ (wid_le s p hlt))
          · exact Nat.le_refl _
        · exact hp
    by_cases hb : bt s 0 < 128
    · obtain ⟨e1, e2⟩ := sig_1 s 0 hb
      rw [e1, e2]
      cases isLet (bt s 0)
      · simp
      · have := mono k 1 (by omega)
        simp
        omega
    · have hs := sig_big s 0 (by omega)
      have n1 : isLet (sig s 0) = false := by
        cases e : isLet (sig s 0)
        · rfl
        · have := isLet_lt e; omega
      have n2 : isLet (bt s 0) = false := by
        cases e : isLet (bt s 0)
        · rfl
        · have := isLet_lt e; omega
      rw [n1, n2]
      simp
  cases hl : isLet (bt s 0)
  · have : nameN s = 0 := by unfold nameN; rw [if_pos (hlet.2 hl)]
    rw [this]
    cases hf : isFig (bt s 0)
    · have hin : isIn (bt s 0) = false := by unfold isIn; rw [hl, hf]; rfl
      have : restB s s.size 0 = false := by
        obtain ⟨k, hk⟩ : ∃ k, s.size = k + 1 := ⟨s.size - 1, by omega⟩
        conv => lhs; rw [show s.size = k + 1 from hk]
        rw [restB, if_pos (by omega), hin]
        rfl
      rw [this]
      simp
    · simp
  · have hf : isFig (bt s 0) = false := by
      cases e : isFig (bt s 0)
      · rfl
      · have := isFig_lt e; have := isLet_lt hl; omega
    have hN : nameN s = rowN s isIn := by
      unfold nameN
      rw [if_neg (fun h => by have := hlet.1 h; rw [hl] at this; cases this)]
    rw [hf, hN]
    simp only [Bool.false_eq_true, if_false]
    have hrr' : rowN s isIn = s.size ↔ restB s s.size 0 = true := hrr
    by_cases hw : wordN s = 0
    · rw [hw]
      cases hr : restB s s.size 0
      · have : rowN s isIn ≠ s.size := fun h => by rw [hrr'.1 h] at hr; cases hr
        simp [this]
      · have := hrr'.2 hr
        rw [this]
        simp [h0]
    · simp [hw]
end Go.Proofs.YtijinpnbhnfiiaaDoor
