/- place.Lines tells how many bytes 10 there are, and 1. -/
import Derived.Test.YthohljlfbakkhaaDoorOf
import Derived.Shelf.Bytes.SlCountOne
namespace Go.Proofs.YthohljlfbakkhaaDoor
open Go.RowKit

theorem bytesOf_back (l : List UInt8) : Lib.bytesOf (l.map fun x => (x.toNat : Int)) = l := by
  unfold Lib.bytesOf
  rw [List.map_map]
  conv => rhs; rw [← List.map_id l]
  apply List.map_congr_left
  intro x _
  simp

theorem Text.count {w : World} {a : Option Addr} {s : ByteArray} (h : Text w a s) (cap : Nat) : (Extern.BytealgCount.count #[.slice a s.size cap, .int .u8 10]).run Tryd.prog w = .ok (.int .i64 (nl s)) w := by
  rcases h with h | ⟨b, o, rfl, hlt, h⟩
  · have he : s = ByteArray.empty := by apply ByteArray.ext; apply Array.eq_empty_of_size_eq_zero; exact h
    subst he
    cases a with
    | none => exact Lib.run_countNil w _ _ 10
    | some x => exact Lib.run_countAt w x _ _ [] rfl (fun i hi => absurd hi (Nat.not_lt_zero _)) 10
  · have e := Lib.run_countSlice (P := Tryd.prog) w b o s.size cap (s.data.toList.map fun x => (x.toNat : Int)) (by simp) (fun i hi => by
      rw [h i hi]
      simp [List.getD, hi]
      rfl) 10
    rw [bytesOf_back] at e
    exact e

theorem lines_any (s : ByteArray) (a : Option Addr) (cap : Nat) (w : World) (hs : s.size ≤ 1000000) (ht : Text w a s) :
    Calls Tryd.prog 6 #[.slice a s.size cap] w
      fun e w' => e = .returned (.int .i64 (nl s + 1 : Nat)) ∧ Below w.heap.size w w' := by
  have hn : nl s ≤ 1000000 := Nat.le_trans (List.count_le_length) (by simpa using hs)
  have hc := (ht.below ((Below.refl _ w).alloc (Nat.le_refl _) (.cells #[.int .u8 10] 5))).count cap
  have hx : (callFunc 17 #[.slice a s.size cap, .int .u8 10]).run Tryd.prog (w.alloc (.cells #[.int .u8 10] 5)) = .ok (.value (.int .i64 (nl s))) (w.alloc (.cells #[.int .u8 10] 5)) := by
    rw [run_callFunc_extern Tryd.func17 (by kernel_rfl) (by kernel_rfl) (by kernel_rfl) (e := Extern.BytealgCount.count) (by kernel_rfl), hc]
    rfl
  clear hc ht
  go_enter Tryd.func6, Tryd.ntmps6
  go_wp2
  go_ret
  exact ⟨by simp, (Below.refl _ w).alloc (Nat.le_refl _) _⟩
end Go.Proofs.YthohljlfbakkhaaDoor
