/- A region that draws its order, whose operations read and whose calls make memory of their own alone: one walk in the order of the text serves every order. -/
import Derived.Test.YthohljlfbakkhaaDoorRow
import Derived.BigQuiet
import Derived.Deep.QuietTactic
namespace Go.Proofs.YthohljlfbakkhaaDoor
open Go.RowKit

/-- A world in which all that was there in W0 stands. -/
structure Kept (W0 : World) where
  W : World
  h : Below W0.heap.size W0 W

instance (w : World) : Nonempty (Kept w) := ⟨⟨w, Below.refl _ w⟩⟩

theorem wp_region_kept {P : Program} {id : Nat} {Q : Exit → Act → World → Prop} {a : Act} {w : World} {l : List Oper} (hm : P.follows .mixedOrders = true) (hB : Region.lexB .any l.toArray = true)
    (h : wpQuiet P l.toArray (fun w' => ∃ x : Kept w, w' = x.W) (fun a' => ∀ w', (∃ x : Kept w, w' = x.W) → Q .normal a' w') l a) : (Code.region id l.toArray true).wp P Q a w :=
  wp_region_quiet (C := fun w' => ∃ x : Kept w, w' = x.W) hm hB ⟨⟨_, (Below.refl _ w).drew⟩, rfl⟩ (by simpa using h)

theorem kept_call {P : Program} {f : FuncId} {args : Array Value} {w : World} {x : Kept w} {v : Value} (h : Calls P f args x.W fun e w' => e = .returned v ∧ Below x.W.heap.size x.W w') :
    Calls P f args x.W fun e w'' => e = .returned v ∧ ∃ y : Kept w, w'' = y.W :=
  h.mono fun _ w' ⟨he, hb⟩ => ⟨he, ⟨w', x.h.trans (hb.mono x.h.size)⟩, rfl⟩

theorem Kept.cell {w : World} {b o : Nat} {v : Value} (h : w.cell? ⟨b, o, none⟩ = some v) (x : Kept w) : x.W.cell? ⟨b, o, none⟩ = some v := by
  have hlt : b < w.heap.size := by
    rcases Nat.lt_or_ge b w.heap.size with h' | h'
    · exact h'
    · simp [World.cell?, Array.getElem?_eq_none h'] at h
  exact (x.h.cell (p := ⟨b, o, none⟩) hlt).trans h
theorem Kept.text {w : World} {a : Option Addr} {s : ByteArray} (h : Text w a s) (x : Kept w) : Text x.W a s := h.below x.h

/-- A field of a place that a call told. -/
theorem field_0 (m n : Int) (w : World) : (Instr.field 28 (.agg #[.int .i64 m, .int .i64 n]) 0).run Tryd.prog w = .ok (.int .i64 m) w := by kernel_rfl
theorem field_1 (m n : Int) (w : World) : (Instr.field 28 (.agg #[.int .i64 m, .int .i64 n]) 1).run Tryd.prog w = .ok (.int .i64 n) w := by kernel_rfl
end Go.Proofs.YthohljlfbakkhaaDoor
