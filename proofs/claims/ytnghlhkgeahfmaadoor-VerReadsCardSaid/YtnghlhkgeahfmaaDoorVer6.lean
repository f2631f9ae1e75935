/- package ver: the words of each line, one line behind the other. -/
import Derived.Test.YtnghlhkgeahfmaaDoorVer5
import Derived.Test.YtnghlhkgeahfmaaDoorVerR
import Derived.RangeFuncBound
import Derived.RangeFuncCalls
import Derived.RangeFuncLeaves
import Derived.Shelf.Abstract
import Derived.Shelf.RegionOpen
import Derived.OwnWalkIn
import Derived.TacticsInMore
import Derived.LoopNIn
import Derived.LoopIn
namespace Go.Proofs.YtnghlhkgeahfmaaDoor
open Go.RowKit Go.Shelf
set_option linter.unusedVariables false
attribute [local go_sem] Oper.semAt_some

abbrev nlB : ByteArray := ⟨#[10]⟩
abbrev slB : ByteArray := ⟨#[47, 47]⟩
def cutA (s sep : ByteArray) : ByteArray := ⟨(Lib.cut (ls s) (ls sep)).1.toArray⟩
def cutB (s sep : ByteArray) : ByteArray := ⟨(Lib.cut (ls s) (ls sep)).2.1.toArray⟩
def cutF (s sep : ByteArray) : Bool := (Lib.cut (ls s) (ls sep)).2.2
theorem ls_mk (l : List UInt8) : ls ⟨l.toArray⟩ = l := rfl
theorem size_mk (l : List UInt8) : (⟨l.toArray⟩ : ByteArray).size = l.length := by show l.toArray.size = _; simp
theorem cutA_len (s sep : ByteArray) : (cutA s sep).size ≤ s.size := by
  unfold cutA Lib.cut
  rw [size_mk, ← ls_len s]
  split
  · show (List.take _ _).length ≤ _; simp; omega
  · exact Nat.le_refl _
theorem cutB_len (s sep : ByteArray) : (cutB s sep).size ≤ s.size := by
  unfold cutB Lib.cut
  rw [size_mk, ← ls_len s]
  split
  · show (List.drop _ _).length ≤ _; simp
  · simp
theorem cut_parts (s : ByteArray) : (cutF s nlB = true ∧ (cutB s nlB).size < s.size ∧ partsF 10 [] (ls s) = ls (cutA s nlB) :: partsF 10 [] (ls (cutB s nlB))) ∨ (cutF s nlB = false ∧ partsF 10 [] (ls s) = [ls (cutA s nlB)]) := by
  unfold cutA cutB cutF Lib.cut
  rw [show ls nlB = [10] from rfl]
  rcases parts_index 10 (ls s) with ⟨h1, h2⟩ | ⟨i, h1, h2, h3⟩
  · rw [if_neg (by omega)]
    exact .inr ⟨rfl, h2⟩
  · rw [if_pos (by omega)]
    have e : (Lib.index (ls s) [10]).toNat = i := by omega
    refine .inl ⟨rfl, ?_, ?_⟩
    · rw [size_mk, ← ls_len s]
      show (List.drop _ _).length < _
      rw [List.length_drop, e]
      simp only [List.length_cons, List.length_nil]
      omega
    · rw [ls_mk, ls_mk, h3]
      show _ = List.take (Lib.index (ls s) [10]).toNat (ls s) :: partsF 10 [] (List.drop ((Lib.index (ls s) [10]).toNat + 1) (ls s))
      rw [e]

theorem cut_any (s sep : ByteArray) (hs : s.size ≤ 1000000) (w : World) (hm : MaxLen w) : Calls Tryd.prog 39 #[.string s, .string sep] w fun e w' => e = .returned (.tuple #[.string (cutA s sep), .string (cutB s sep), .bool (cutF s sep)]) ∧ ∃ n, w' = w.drewN n := by
  obtain ⟨m, hm⟩ := hm
  exact Go.Proofs.Tryd.strings_Cut s sep m w (by omega) hm

/-- The words of a line. -/
def noteB (t : ByteArray) : ByteArray := cutA t slB
def wordsB (t : ByteArray) : List ByteArray := Lib.goFieldsP blankN (noteB t)
theorem wordsB_ls (t : ByteArray) : (wordsB t).map ls = lineWords (ls t) := words_eq blankN blankN_big (noteB t)
def wordsOf (s : ByteArray) : List (List ByteArray) := (partsF 10 [] (ls s)).map fun l => wordsB ⟨l.toArray⟩

/-- Texts one behind the other in a block. -/
def Row (b : Nat) (l : List ByteArray) (w : World) : Prop := ∀ (i : Nat) t, l[i]? = some t → w.cell? ⟨b, i, none⟩ = some (.string t)
def rowV (b : Nat) (l : List ByteArray) : Value := .slice (some ⟨b, 0, none⟩) l.length l.length

theorem blank_enters : ∀ args W, (callFunc 41 args).run Tryd.prog W = .ok (.enter 41 args) W := fun args W => by kernel_rfl
theorem fields_any (t : ByteArray) (hs : t.size ≤ 1000000) (w : World) : Calls Tryd.prog 40 #[.string t, .func (.func 41) #[] #[]] w fun e w' => ∃ A, e = .returned (rowV A (Lib.goFieldsP blankN t)) ∧ Row A (Lib.goFieldsP blankN t) w' ∧ Below w.heap.size w w' := by
  refine (Go.Proofs.Tryd.strings_FieldsFunc_runes _ #[] blank_enters blankN t w (by omega) (blank_pred w)).mono ?_
  rintro e w' ⟨A, rfl, _, ho, hb⟩
  refine ⟨A, rfl, fun i u hu => ?_, hb⟩
  have hlt := (List.getElem?_eq_some_iff.1 hu).1
  rw [ho.cellAt i (by omega), List.getElem?_map, hu]
  rfl

theorem lines_any (s : ByteArray) (w : World) : Calls Tryd.prog 32 #[.string s] w fun e w' => e = .returned (.func (.func 38) #[] #[.pointer (some ⟨w.heap.size, 0, none⟩)]) ∧ w'.cell? ⟨w.heap.size, 0, none⟩ = some (.string s) ∧ Below w.heap.size w w' := by
  go_enter Tryd.func32, Tryd.ntmps32
  go_wp2
  go_ret
  exact ⟨rfl, by rw [World.cell?_alloc_new]; rfl, (Below.refl _ w).alloc (Nat.le_refl _) _⟩
end Go.Proofs.YtnghlhkgeahfmaaDoor
