/- TokenLong: what a text of one byte again and again is. -/
import Derived.Test.YtjgiebdbeejdaaaDoorTok22
import Derived.Deep.OwnRows
namespace Go.Proofs.YtjgiebdbeejdaaaDoor
open Go.RowKit Go.Joins
set_option linter.unusedVariables false

def repB (k : Nat) (c : UInt8) : ByteArray := ⟨Array.replicate k c⟩
theorem repB_size (k : Nat) (c : UInt8) : (repB k c).size = k := by show (Array.replicate k c).size = k; simp
theorem repB_bt (k : Nat) (c : UInt8) (i : Nat) (h : i < k) : bt (repB k c) i = c.toNat := by
  rw [bt_eq _ _ (by rw [repB_size]; exact h)]
  show ((Array.replicate k c)[i]'(by simpa using h)).toNat = _
  simp

theorem rep_wrong (k : Nat) : ∀ f p, wrongF (repB k 97) f p = -1
  | 0, p => rfl
  | f + 1, p => by
    rw [wrongF]
    split
    · rename_i h
      rw [repB_size] at h
      have hb := repB_bt k 97 p h
      obtain ⟨e1, e2⟩ := sig_1 (repB k 97) p (by rw [hb]; decide)
      rw [e1, hb]
      have : bad (repB k 97) p ((97 : UInt8).toNat : Int) = false := by
        show ((97 : Int) == 0 || ((97 : Int) == 65279 && decide (0 < p)) || ((97 : Int) == 65533 && decide (wid (repB k 97) p = 1))) = false
        simp
      rw [this]
      exact rep_wrong k f _
    · rfl

theorem allF_done (t : ByteArray) (x : St) (h : t.size ≤ x.at_) : ∀ k p, allF t k p x = .ok x
  | 0, p => rfl
  | k + 1, p => by
    rw [allF]
    split
    · rw [if_neg (by omega)]
      exact allF_done t x h k _
    · rfl

theorem words_short : words1.all (fun l => decide (l.length < 100)) = true ∧ words2.all (fun l => decide (l.length < 100)) = true := by decide
theorem word_long (s : ByteArray) (h : 100 ≤ s.size) : wordN s = 0 := by
  have aux : ∀ ws : List (List UInt8), ws.all (fun l => decide (l.length < 100)) = true → ws.contains s.toList = false := fun ws hw => by
    cases hc : ws.contains s.toList
    · rfl
    · have := List.all_eq_true.1 hw _ (mem_contains hc)
      rw [decide_eq_true_eq, list_size] at this
      omega
  unfold wordN
  rw [aux words1 words_short.1, aux words2 words_short.2]
  rfl

theorem hasPre_first (s t : ByteArray) (h0 : 0 < t.size) (h : bt s 0 ≠ bt t 0) : hasPre s t = false := by
  cases e : hasPre s t
  · rfl
  · exact absurd ((hasPre_byte s t e).2 0 h0) h

theorem rep_all (k : Nat) (h : 100 ≤ k) : ∃ x, allP (repB k 97) = .ok x ∧ x.toks.length = 2 := by
  have hz := repB_size k 97
  generalize ht : repB k 97 = t at *
  have hb : ∀ i, i < k → bt t i = 97 := fun i hi => by rw [← ht]; exact repB_bt k 97 i hi
  have hrb : ∀ i, i < k → bt (t.extract 0 t.size) i = 97 := fun i hi => by rw [bt_ext t 0 t.size i (by omega) (Nat.le_refl _), Nat.zero_add]; exact hb i hi
  have hrz : (t.extract 0 t.size).size = k := by rw [ext_size _ _ _ (Nat.le_refl _), hz]; omega
  generalize hr : t.extract 0 t.size = r at *
  have hsig := (sig_1 t 0 (by rw [hb 0 (by omega)]; decide)).1
  have hrow : rowN r isIn = r.size := (row_rest r r.size 0 (Nat.zero_le _) (by omega)).2 (restB_of r r.size 0 (fun i _ hi => by rw [hrb i (by omega)]; decide))
  have hlet : rowN r isLet ≠ 0 := fun h0 => by
    have := (rowN_pos r isLet (by omega)).1 h0
    rw [sig_small r 0 isLet isLet128, hrb 0 (by omega)] at this
    exact absurd this (by decide)
  have hname : nameN r = k := by unfold nameN; rw [if_neg hlet, hrow, hrz]
  have hw : wordN (r.extract 0 k) = 0 := word_long _ (by rw [ext_size _ _ _ (by omega)]; omega)
  have hbeg : beginP t ⟨0, [], []⟩ 0 (sig t 0 : Int) = some ⟨0 + k, [⟨1 + 0, t.extract 0 (0 + k), 0⟩], []⟩ := by
    rw [hsig, hb 0 (by omega)]
    unfold beginP
    rw [if_neg (by decide), if_neg (by decide), hr, if_neg (by rw [hasPre_first r sSlash (by decide) (by rw [hrb 0 (by omega)]; decide)]; decide), if_neg (by rw [hasPre_first r sOpen (by decide) (by rw [hrb 0 (by omega)]; decide)]; decide), if_pos (by decide), hname, hw]
    unfold takeP
    rw [if_neg (by omega)]
    rfl
  obtain ⟨m, rfl⟩ : ∃ m, k = m + 1 := ⟨k - 1, by omega⟩
  refine ⟨⟨0 + (m + 1), endL [⟨1 + 0, t.extract 0 (0 + (m + 1)), 0⟩] t.size, []⟩, ?_, ?_⟩
  · unfold allP
    have e : allF t (m + 1) 0 ⟨0, [], []⟩ = .ok ⟨0 + (m + 1), [⟨1 + 0, t.extract 0 (0 + (m + 1)), 0⟩], []⟩ := by
      rw [allF, if_pos (by omega), if_pos (Nat.le_refl _), hbeg]
      exact allF_done t _ (by show t.size ≤ 0 + (m + 1); omega) _ _
    rw [show allF t t.size 0 ⟨0, [], []⟩ = allF t (m + 1) 0 ⟨0, [], []⟩ by rw [hz], e]
    rfl
  · show (endL [⟨1 + 0, t.extract 0 (0 + (m + 1)), 0⟩] t.size).length = 2
    unfold endL
    simp [endsB, kinds145]

theorem rep_scan (k : Nat) (h1 : 100 ≤ k) (h2 : k ≤ 65536) : (scanR (repB k 97)).err = 0 ∧ (scanR (repB k 97)).st.toks.length = 2 := by
  obtain ⟨x, hx, hl⟩ := rep_all k h1
  have hw : wrongR (repB k 97) = -1 := rep_wrong k _ _
  unfold scanR
  rw [if_neg (by rw [repB_size]; omega), hw, if_neg (by omega), hx]
  exact ⟨rfl, hl⟩
theorem scan_err (s : ByteArray) (h : s.size ≤ 65536) : (scanR s).err ≠ 12 := by
  unfold scanR
  rw [if_neg (by omega)]
  split
  · show (2 : Int) ≠ 12; decide
  · cases allP s with
    | ok x => show (0 : Int) ≠ 12; decide
    | error p => show (3 : Int) ≠ 12; decide
theorem scan_longer (s : ByteArray) (h : 65536 < s.size) : scanR s = ⟨12, 65536, st0⟩ := by
  unfold scanR
  rw [if_pos h]
end Go.Proofs.YtjgiebdbeejdaaaDoor
