/- A slice of bytes that came in holds a text's bytes. -/
import Derived.Test.YthohljlfbakkhaaDoorAwake
import Derived.ProofKit
import Derived.OpenShut
import Derived.ShutString
import Derived.ChangeOld
namespace Go.Proofs.YthohljlfbakkhaaDoor
open Go.ChangeShapes Go.WideShapes Go.ChangeAt Go.RowKit

/-- What the walk is told of a slice of integers that came in. -/
def IsRow (k : IntKind) (w : World) (a : Option Addr) (len cap : Nat) (zs : List Int) : Prop :=
  (a = none ∧ len = 0 ∧ cap = 0 ∧ zs = []) ∨
  ∃ x, a = some x ∧ len ≤ cap ∧ cap ≤ maxLen ∧ zs.length = cap ∧ (∀ i, i < zs.length → w.cell? (x.add i) = some (.int k (zs.getD i 0))) ∧ ∀ n ∈ zs, (Lit.int k n).wf = true

theorem IsRow.text {w : World} {a : Option Addr} {len cap : Nat} {zs : List Int} (h : IsRow .u8 w a len cap zs) : ∃ s : ByteArray, s.size = len ∧ Text w a s := by
  rcases h with ⟨rfl, rfl, rfl, rfl⟩ | ⟨x, rfl, hl, hm, hz, hc, hw⟩
  · exact ⟨ByteArray.empty, rfl, .inl rfl⟩
  by_cases h0 : len = 0
  · subst h0; exact ⟨ByteArray.empty, rfl, .inl rfl⟩
  have hsz : (strOfNums (zs.take len)).size = len := by rw [strOfNums_size]; simp; omega
  refine ⟨strOfNums (zs.take len), hsz, .inr ?_⟩
  obtain ⟨b, off, spot⟩ := x
  have c0 := hc 0 (by omega)
  have hspot : spot = none := by simpa [Addr.add] using World.cell?_spot c0
  subst hspot
  have hplain : ∀ i, (⟨b, off, none⟩ : Addr).add i = ⟨b, off + i, none⟩ := fun i => by unfold Addr.add; split <;> simp_all
  refine ⟨b, off, rfl, ?_, fun i hi => ?_⟩
  · rw [hplain] at c0
    rcases Nat.lt_or_ge b w.heap.size with h | h
    · exact h
    · simp [World.cell?, Array.getElem?_eq_none h] at c0
  · have c := hc i (by omega)
    rw [hplain] at c
    rw [c]
    have hi' : i < len := by omega
    have hil : i < zs.length := by omega
    have e1 : zs.getD i 0 = zs[i] := by simp [List.getD, hil]
    have hb := bounds_u8 (hw zs[i] (List.getElem_mem hil))
    have e2 : (strOfNums (zs.take len))[i] = UInt8.ofNat zs[i].toNat := by
      show (strOfNums (zs.take len)).data[i] = _
      simp [strOfNums]
    rw [e1, e2]
    congr 2
    simp
    omega
end Go.Proofs.YthohljlfbakkhaaDoor
