/- Tags that came in; what is asked of them. -/
import Derived.Test.YtojdhlmmnhjolaaDoorTagS
import Derived.Test.YtojdhlmmnhjolaaDoorTag14
import Derived.SliceStrings
namespace Go.Proofs.YtojdhlmmnhjolaaDoor
open Go.RowKit
set_option linter.unusedVariables false

/-- Tags in a row of memory. -/
def TagRow (w : World) (a : Option Addr) (n : Nat) (zs : List ByteArray) : Prop := zs.length = n ∧ (n = 0 ∨ ∃ b off, a = some ⟨b, off, none⟩ ∧ b < w.heap.size ∧ ∀ j, j < n → w.cell? ⟨b, off + j, none⟩ = some (.string (zs.getD j ByteArray.empty)))
theorem TagRow.below {w w' : World} {a : Option Addr} {n : Nat} {zs : List ByteArray} (h : TagRow w a n zs) (hb : Below w.heap.size w w') : TagRow w' a n zs := by
  obtain ⟨hz, h⟩ := h
  refine ⟨hz, ?_⟩
  rcases h with h | ⟨b, off, rfl, hlt, hc⟩
  · exact .inl h
  · exact .inr ⟨b, off, rfl, Nat.lt_of_lt_of_le hlt hb.size, fun j hj => (hb.cell (p := ⟨b, off + j, none⟩) hlt).trans (hc j hj)⟩
theorem TagRow.ok {w : World} {a : Option Addr} {n : Nat} {zs : List ByteArray} (h : TagRow w a n zs) (cap : Nat) (hn : n ≤ 3000000) : TagsOk (.slice a n cap) (Lib.containsS zs) w := by
  intro W hW t _
  obtain ⟨hz, h⟩ := h.below hW
  rcases h with h | ⟨b, off, rfl, hlt, hc⟩
  · subst h
    obtain rfl : zs = [] := List.eq_nil_of_length_eq_zero hz
    refine (Tryd.slices_Contains_string_empty a cap t W).mono ?_
    rintro e w' ⟨rfl, rfl⟩
    exact ⟨rfl, Below.refl _ _⟩
  · refine (Tryd.slices_Contains_string b off n cap zs t W (by omega) (by omega) (fun j hj => hc j (by omega))).mono ?_
    rintro e w' ⟨rfl, rfl⟩
    rw [List.take_of_length_le (by omega)]
    exact ⟨rfl, Below.refl _ _⟩
section
open Go.ChangeShapes Go.WideShapes
variable {H : Type} {enc : TypeId × Value → H} {W : World} {sp : Nat → Bool}
theorem bulk_strs : ∀ ss : List ByteArray, ss.length ≤ Rows.uptoBulkAll (strs (H := H) ss)
  | [] => Nat.zero_le _
  | s :: r => by
    have := bulk_strs r
    show r.length + 1 ≤ Rows.uptoBulkAll (DataW.lit (.string s.data.toList) :: strs r)
    rw [Rows.uptoBulkAll, Rows.uptoBulk]
    omega
theorem open_tags {n : Nat} {a : Option Addr} {len cap : Nat} {y : DataW H × List MemPlace} (h : DataW.trod enc Tryd.prog W 0 sp true n 25 [.slice a len cap] = some y) : ∃ zs, TagRow W a len zs ∧ len ≤ Rows.uptoBulk y.1 := by
  rcases open_strings Tryd.underlying25 Tryd.underlying9 str_cell h with ⟨e, rfl⟩ | ⟨x, l, c, ss, e, _, hlc, _, hss, rfl, hcell, _⟩
  · simp only [List.cons.injEq, Value.slice.injEq, and_true] at e
    obtain ⟨rfl, rfl, rfl⟩ := e
    exact ⟨[], ⟨rfl, .inl rfl⟩, Nat.zero_le _⟩
  · simp only [List.cons.injEq, Value.slice.injEq, and_true] at e
    obtain ⟨rfl, rfl, rfl⟩ := e
    have hle : len ≤ ss.length := by rw [hss]; split <;> omega
    refine ⟨ss.take len, ⟨by rw [List.length_take]; omega, ?_⟩, ?_⟩
    · by_cases h0 : len = 0
      · exact .inl h0
      right
      obtain ⟨b, o, spot⟩ := x
      have c0 := hcell 0 (by omega)
      have hspot : spot = none := by simpa [Addr.add] using World.cell?_spot c0
      subst hspot
      refine ⟨b, o, rfl, ?_, fun j hj => ?_⟩
      · rw [add_at] at c0
        exact cell_lt c0
      · have c := hcell j (by omega)
        rw [add_at] at c
        rw [c]
        congr 2
        simp only [List.getD, List.getElem?_take, hj, if_true]
    · have := bulk_strs (H := H) (ss.take len)
      rw [List.length_take] at this
      show len ≤ Rows.uptoBulkAll _ + Rows.uptoBulkAll _ + 1
      omega
end
end Go.Proofs.YtojdhlmmnhjolaaDoor
