/- Plain laws under package tag: a tag alone. No program stands in it. -/
import Derived.Test.YtojdhlmmnhjolaaDoorTagH
set_option linter.unusedVariables false
namespace Go.Proofs.YtojdhlmmnhjolaaDoor

theorem tag_not_blank {c : UInt8} (h : tagB c = true) : tblB c = false := by
  have h : tagN c.toNat = true := h
  show tblN c.toNat = false
  unfold tagN at h
  unfold tblN
  simp at h ⊢
  omega
theorem takeS_tag {c : UInt8} {r : List UInt8} (sg : UInt8) (sgs : List UInt8) (h : tagB c = true) (hs : tagB sg = false) : takeS (sg :: sgs) (c :: r) = (false, c :: r) := by
  have e : (c :: r).takeWhile tblB = [] := by rw [List.takeWhile_cons, tag_not_blank h]; rfl
  unfold takeS
  rw [e, List.length_nil, List.drop_zero]
  have : (sg :: sgs).isPrefixOf (c :: r) = false := by
    rw [List.isPrefixOf_cons_cons, show (sg == c) = false from beq_eq_false_iff_ne.2 fun e => by rw [e, h] at hs; cases hs]
    rfl
  rw [if_neg (by rw [this]; decide)]
theorem takeTag_all {l : List UInt8} (h : l.all tagB = true) : l.takeWhile tagB = l := by
  induction l with
  | nil => rfl
  | cons c r ih =>
    rw [List.all_cons, Bool.and_eq_true] at h
    rw [List.takeWhile_cons, if_pos h.1, ih h.2]
theorem factor_alone {s : ByteArray} (f : Nat) (h0 : ls s ≠ []) (h : (ls s).all tagB = true) : factorF (f + 1) (ls s) = some (.mk ⟨#[]⟩ s [], []) := by
  obtain ⟨c, r, hl⟩ : ∃ c r, ls s = c :: r := by
    cases hs : ls s with
    | nil => exact absurd hs h0
    | cons c r => exact ⟨c, r, rfl⟩
  have hc : tagB c = true := by rw [hl, List.all_cons, Bool.and_eq_true] at h; exact h.1
  have e1 : takeS notL (ls s) = (false, ls s) := by rw [hl]; exact takeS_tag 33 [] hc (by decide)
  have e2 : takeS [40] (ls s) = (false, ls s) := by rw [hl]; exact takeS_tag 40 [] hc (by decide)
  rw [factorF]
  dsimp only
  rw [e1, if_neg (by simp)]
  dsimp only
  rw [e2, if_neg (by simp)]
  dsimp only
  rw [takeTag_all h, if_neg (by rw [hl]; simp), List.drop_length]
theorem parts_alone (op : List UInt8) (part : Part) (l : List UInt8) (x : Ex) (ho : takeS op [] = (false, [])) (h : part l = some (x, [])) : partsP op part l = some (x, []) := by
  unfold partsP
  rw [h]
  dsimp only
  rw [moreP, ho, if_neg (by decide)]
  rfl
theorem whole_alone {s : ByteArray} (h0 : ls s ≠ []) (h : (ls s).all tagB = true) : wholeL (ls s) = some (.mk ⟨#[]⟩ s []) := by
  unfold wholeL orP
  rw [parts_alone orL _ _ _ (by decide) (parts_alone andL _ _ _ (by decide) (factor_alone _ h0 h))]
  have hr : rightE 100 (.mk ⟨#[]⟩ s []) = true := by
    rw [rightE, rightL, shapedE, if_pos rfl, show s.data.toList.all tagB = true from h, show s.data.toList.isEmpty = false from by cases hs : ls s with | nil => exact absurd hs h0 | cons _ _ => (show (ls s).isEmpty = false; rw [hs]; rfl)]
    rfl
  dsimp only
  rw [hr]
  rfl
theorem read_alone {s : ByteArray} (hs : s.size ≤ 500) (h : rightE 100 (.mk ⟨#[]⟩ s []) = true) : readM s = some (.mk ⟨#[]⟩ s []) := by
  have hsh := (right_parts h).2.1
  rw [shapedE, if_pos rfl, Bool.and_eq_true, Bool.and_eq_true] at hsh
  unfold readM
  rw [if_neg (by omega)]
  exact whole_alone (fun e => by rw [show s.data.toList = [] from e] at hsh; exact absurd hsh.1.1 (by decide)) hsh.1.2
end Go.Proofs.YtojdhlmmnhjolaaDoor
