/- TokenLines: the walk. -/
import Derived.Test.YtjgiebdbeejdaaaDoorTok22
namespace Go.Proofs.YtjgiebdbeejdaaaDoor
open Go.RowKit Go.Joins
set_option linter.unusedVariables false

/-- A token of kind 6 that ends a line is one of five. -/
theorem six_ends {u : Tk} (h : KindOk u) (hg : GoodT u) (he : endsB u = true) (hk : u.kind = 6) : u.text.toList = [41] ∨ u.text.toList = [93] ∨ u.text.toList = [125] ∨ u.text.toList = [43, 43] ∨ u.text.toList = [45, 45] := by
  have hin : u.text.toList ∈ enders := by
    unfold endsB at he
    rw [hk] at he
    exact mem_contains (by rcases Bool.or_eq_true_iff.1 he with h | h; exact absurd h (by decide); exact h)
  have hall : ∀ ws : List (List UInt8), ws.contains u.text.toList = true → ws.all (fun l => !enders.contains l || [[41], [93], [125], [43, 43], [45, 45]].contains l) = true → [[41], [93], [125], [43, 43], [45, 45]].contains u.text.toList = true := fun ws hc ha => by
    have := List.all_eq_true.1 ha _ (mem_contains hc)
    rw [List.contains_iff_mem.2 hin] at this
    simpa using this
  have hres : [[41], [93], [125], [43, 43], [45, 45]].contains u.text.toList = true := by
    cases hg with
    | name h0 hk' hl hr => have := wordN_le u.text; omega
    | number h0 hk' hf hr => omega
    | text h0 hk' hq => omega
    | sign hk' hs =>
      unfold isSign at hs
      rcases Bool.or_eq_true_iff.1 hs with hs | hs
      · rcases Bool.or_eq_true_iff.1 hs with hs | hs
        · exact hall signs3 hs (by decide)
        · exact hall signs2 hs (by decide)
      · exact hall signs1 hs (by decide)
    | put hk' hs =>
      have : u.text.toList = [10] := by rw [hs, ByteArray.toList_eq]; rfl
      rw [this] at hin
      exact absurd hin (by decide)
  simpa using mem_contains hres

/-- What a token that ends no line is not. -/
theorem no_ends {u : Tk} (h : endsB u = false) : (u.kind == 1) = false ∧ (u.kind == 4) = false ∧ (u.kind == 5) = false ∧ (u.text.toList == [114, 101, 116, 117, 114, 110]) = false ∧ (u.text.toList == [41]) = false := by
  unfold endsB at h
  obtain ⟨h1, h2⟩ := Bool.or_eq_false_iff.1 h
  unfold kinds145 at h1
  obtain ⟨h1, h3⟩ := Bool.or_eq_false_iff.1 h1
  obtain ⟨h1, h4⟩ := Bool.or_eq_false_iff.1 h1
  have hn := not_in h2
  exact ⟨h1, h4, h3, hn _ (by decide), hn _ (by decide)⟩
end Go.Proofs.YtjgiebdbeejdaaaDoor
