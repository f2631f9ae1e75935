/- Plain laws under package tag: how a constraint is written. No program stands in it. -/
import Derived.Test.YtojdhlmmnhjolaaDoorTagH
set_option linter.unusedVariables false
namespace Go.Proofs.YtojdhlmmnhjolaaDoor

def plainIn (x : Ex) (op : List UInt8) : Bool := match x with
  | .mk o _ _ => if o.data.toList = [] then true else if o.data.toList = notL then true else decide (o.data.toList = andL ∧ op = orL)
mutual
def writtenE : Ex → List UInt8
  | .mk op tag kids =>
    if op.data.toList = [] then tag.data.toList
    else if op.data.toList = notL then 33 :: headW kids
    else rowW op.data.toList true kids
def headW : List Ex → List UInt8
  | [] => []
  | x :: _ => if plainIn x notL then writtenE x else 40 :: (writtenE x ++ [41])
def rowW (op : List UInt8) (first : Bool) : List Ex → List UInt8
  | [] => []
  | x :: r => (if first then [] else 32 :: (op ++ [32])) ++ ((if plainIn x op then writtenE x else 40 :: (writtenE x ++ [41])) ++ rowW op false r)
end
def withinL (x : Ex) (op : List UInt8) : List UInt8 := if plainIn x op then writtenE x else 40 :: (writtenE x ++ [41])
theorem wr_tag (tag : ByteArray) (k : List Ex) : writtenE (.mk ⟨#[]⟩ tag k) = tag.data.toList := by rw [writtenE, if_pos rfl]
theorem wr_not (tag : ByteArray) (y : Ex) : writtenE (.mk ⟨#[33]⟩ tag [y]) = 33 :: withinL y notL := by
  rw [writtenE, if_neg (by decide), if_pos (show (⟨#[33]⟩ : ByteArray).data.toList = notL from rfl), headW]
  rfl
theorem wr_row (op tag : ByteArray) (k : List Ex) (h0 : ¬ op.data.toList = []) (h1 : ¬ op.data.toList = notL) : writtenE (.mk op tag k) = rowW op.data.toList true k := by rw [writtenE, if_neg h0, if_neg h1]
theorem rowW_at (op : List UInt8) (first : Bool) : ∀ (l : List Ex) (i : Nat) (x : Ex), l[i]? = some x → rowW op (first && i == 0) (l.drop i) = (if first && i == 0 then [] else 32 :: (op ++ [32])) ++ (withinL x op ++ rowW op false (l.drop (i + 1)))
  | [], i, x, h => by cases h
  | y :: r, 0, x, h => by injection h with h; subst h; rw [List.drop_zero, rowW]; rfl
  | y :: r, i + 1, x, h => by
    have := rowW_at op false r i x (by simpa using h)
    rw [Bool.false_and] at this
    rw [show (first && (i + 1 == 0)) = false by simp]
    exact this
theorem withinL_le (x : Ex) (op : List UInt8) : (writtenE x).length ≤ (withinL x op).length := by
  unfold withinL
  split
  · exact Nat.le_refl _
  · simp only [List.length_cons, List.length_append]; omega
end Go.Proofs.YtojdhlmmnhjolaaDoor
