/- The bytes of a text in memory; a slice of bytes that came in holds them; a region that draws its order, whose operations read and whose calls make memory of their own alone: one walk in the order of the text serves every order. -/
import Derived.Test.YtpdkebljacmgfaaDoorRows
import Derived.WalkKit
import Derived.WalkSmall
import Derived.WalkSpells
import Derived.WalkLawsBesides
import Derived.OneCell
import Derived.Below
import Derived.Lib.OthersKept
import Derived.Lib.Hide
import Derived.Test.YtpdkebljacmgfaaDoorBase
import Derived.Lib.SlBytesRow
import Derived.ProofKit
import Derived.OpenShut
import Derived.ShutString
import Derived.ChangeOld
import Derived.BigQuiet
import Derived.Deep.QuietTactic
namespace Go.Proofs.YtpdkebljacmgfaaDoor
open Go.ChangeShapes Go.WideShapes Go.ChangeAt Go.RowKit

/-- The bytes s stand at a in w. -/
def Text (w : World) (a : Option Addr) (s : ByteArray) : Prop := s.size = 0 ∨ ∃ b o, a = some ⟨b, o, none⟩ ∧ b < w.heap.size ∧ Lib.Bytes w b o s

theorem Text.below {w W : World} {a : Option Addr} {s : ByteArray} (h : Text w a s) (hb : Below w.heap.size w W) : Text W a s := by
  rcases h with h | ⟨b, o, rfl, hlt, h⟩
  · exact .inl h
  · exact .inr ⟨b, o, rfl, Nat.lt_of_lt_of_le hlt hb.size, fun i hi => (hb.cell (p := ⟨b, o + i, none⟩) hlt).trans (h i hi)⟩

theorem Text.conv {w : World} {a : Option Addr} {s : ByteArray} (h : Text w a s) (cap : Nat) : (convert 75 9 (.slice a s.size cap)).run Tryd.prog w = .ok (.string s) w := by
  rcases h with h | ⟨b, o, rfl, hlt, h⟩
  · have he : s = ByteArray.empty := by apply ByteArray.ext; apply Array.eq_empty_of_size_eq_zero; exact h
    subst he
    cases a with
    | none => exact run_convert_bytes_nil w 75 5 Tryd.underlying75 Tryd.underlying5 _ _ 9 Tryd.underlying9
    | some x =>
      have hl : (loadCells x 0).run Tryd.prog w = .ok (([] : List Int).map (Value.int .u8)).toArray w := run_loadCells_list (P := Tryd.prog) w x [] (fun j v hj => by simp at hj)
      rw [run_convert_bytes_string w 75 9 5 _ _ cap Tryd.underlying75 Tryd.underlying5 Tryd.underlying9]
      exact run_bytesToString w x 0 cap [] hl
  · exact Lib.run_convert_whole w 75 5 9 Tryd.underlying75 Tryd.underlying5 Tryd.underlying9 b o s h cap

theorem Text.byte {w : World} {b o : Nat} {s : ByteArray} (h : Lib.Bytes w b o s) (k : Nat) (hk : k < s.size) : w.cell? ⟨b, o + k, none⟩ = some (.int .u8 (bt s k)) := by
  rw [bt_eq s k hk]; exact h k hk

/-- What the walk is told of a slice of integers that came in. -/
def IsRow (k : IntKind) (w : World) (a : Option Addr) (len cap : Nat) (zs : List Int) : Prop :=
  (a = none ∧ len = 0 ∧ cap = 0 ∧ zs = []) ∨
  ∃ x, a = some x ∧ len ≤ cap ∧ cap ≤ maxLen ∧ zs.length = cap ∧ (∀ i, i < zs.length → w.cell? (x.add i) = some (.int k (zs.getD i 0))) ∧ ∀ n ∈ zs, (Lit.int k n).wf = true

theorem IsRow.text {w : World} {a : Option Addr} {len cap : Nat} {zs : List Int} (h : IsRow .u8 w a len cap zs) : ∃ s : ByteArray, s.size = len ∧ Text w a s := by
  rcases h with ⟨rfl, rfl, rfl, rfl⟩ | ⟨x, rfl, hl, hm, hz, hc, hw⟩
  · exact ⟨ByteArray.empty, rfl, .inl rfl⟩
  by_cases h0 : len = 0
  · subst h0; exact ⟨ByteArray.empty, rfl, .inl rfl⟩
  have hsz : (strOfNums (zs.take len)).size = len := by rw [strOfNums_size]; simp; omega
  refine ⟨strOfNums (zs.take len), hsz, .inr ?_⟩
  obtain ⟨b, off, spot⟩ := x
  have c0 := hc 0 (by omega)
  have hspot : spot = none := by simpa [Addr.add] using World.cell?_spot c0
  subst hspot
  have hplain : ∀ i, (⟨b, off, none⟩ : Addr).add i = ⟨b, off + i, none⟩ := fun i => by unfold Addr.add; split <;> simp_all
  refine ⟨b, off, rfl, ?_, fun i hi => ?_⟩
  · rw [hplain] at c0
    rcases Nat.lt_or_ge b w.heap.size with h | h
    · exact h
    · simp [World.cell?, Array.getElem?_eq_none h] at c0
  · have c := hc i (by omega)
    rw [hplain] at c
    rw [c]
    have hi' : i < len := by omega
    have hil : i < zs.length := by omega
    have e1 : zs.getD i 0 = zs[i] := by simp [List.getD, hil]
    have hb := bounds_u8 (hw zs[i] (List.getElem_mem hil))
    have e2 : (strOfNums (zs.take len))[i] = UInt8.ofNat zs[i].toNat := by
      show (strOfNums (zs.take len)).data[i] = _
      simp [strOfNums]
    rw [e1, e2]
    congr 2
    simp
    omega
theorem IsRow.nil {w : World} {a : Option Addr} {len cap : Nat} {zs : List Int} (h : IsRow .u8 w a len cap zs) : a = none → cap = 0 := by
  rcases h with ⟨_, _, rfl, _⟩ | ⟨x, rfl, _⟩
  · exact fun _ => rfl
  · exact fun h => by cases h
theorem IsRow.cap {w : World} {a : Option Addr} {len cap : Nat} {zs : List Int} (h : IsRow .u8 w a len cap zs) : len ≤ cap := by
  rcases h with ⟨_, rfl, rfl, _⟩ | ⟨x, rfl, h, _⟩
  · exact Nat.le_refl _
  · exact h

/-- A world in which all that was there in W0 stands. -/
structure Kept (W0 : World) where
  W : World
  h : Below W0.heap.size W0 W

instance (w : World) : Nonempty (Kept w) := ⟨⟨w, Below.refl _ w⟩⟩

theorem wp_region_kept {P : Program} {id : Nat} {Q : Exit → Act → World → Prop} {a : Act} {w : World} {l : List Oper} (hm : P.follows .mixedOrders = true) (hB : Region.lexB .any l.toArray = true)
    (h : wpQuiet P l.toArray (fun w' => ∃ x : Kept w, w' = x.W) (fun a' => ∀ w', (∃ x : Kept w, w' = x.W) → Q .normal a' w') l a) : (Code.region id l.toArray true).wp P Q a w :=
  wp_region_quiet (C := fun w' => ∃ x : Kept w, w' = x.W) hm hB ⟨⟨_, (Below.refl _ w).drew⟩, rfl⟩ (by simpa using h)

theorem kept_call {P : Program} {f : FuncId} {args : Array Value} {w : World} {x : Kept w} {v : Value} (h : Calls P f args x.W fun e w' => e = .returned v ∧ Below x.W.heap.size x.W w') :
    Calls P f args x.W fun e w'' => e = .returned v ∧ ∃ y : Kept w, w'' = y.W :=
  h.mono fun _ w' ⟨he, hb⟩ => ⟨he, ⟨w', x.h.trans (hb.mono x.h.size)⟩, rfl⟩

theorem Kept.cell {w : World} {b o : Nat} {v : Value} (h : w.cell? ⟨b, o, none⟩ = some v) (x : Kept w) : x.W.cell? ⟨b, o, none⟩ = some v := by
  have hlt : b < w.heap.size := by
    rcases Nat.lt_or_ge b w.heap.size with h' | h'
    · exact h'
    · simp [World.cell?, Array.getElem?_eq_none h'] at h
  exact (x.h.cell (p := ⟨b, o, none⟩) hlt).trans h
theorem Kept.text {w : World} {a : Option Addr} {s : ByteArray} (h : Text w a s) (x : Kept w) : Text x.W a s := h.below x.h
end Go.Proofs.YtpdkebljacmgfaaDoor
