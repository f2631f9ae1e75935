/- package ver: what the chapter's examples say. -/
import Derived.Test.YtnghlhkgeahfmaaDoorVer11
import Derived.Lib.SlBytesConst
import Derived.Lib.ConvBytes
namespace Go.Proofs.YtnghlhkgeahfmaaDoor
open Go.RowKit
set_option linter.unusedVariables false

theorem text_fresh (w : World) (l : List UInt8) (vs : Array Value) (T : TypeId) (fr : Nat × Nat) (h : vs = (l.map fun b => Value.int .u8 (b.toNat : Int)).toArray) : Text (w.alloc (.cells vs T fr)) (some ⟨w.heap.size, 0, none⟩) ⟨l.toArray⟩ := by
  refine .inr ⟨w.heap.size, 0, rfl, by simp, fun i hi => ?_⟩
  have hi' : i < l.length := by rw [← size_mk l]; exact hi
  rw [Nat.zero_add]
  have hn : (w.alloc (.cells vs T fr)).heap[w.heap.size]? = some (.cells vs T fr) := heap_alloc_new w _
  subst h
  show (match (w.alloc (.cells (l.map fun b => Value.int .u8 (b.toNat : Int)).toArray T fr)).heap[w.heap.size]? with
    | some (.cells c _ _) => if (none : Option Nat).isSome then none else c[i]?
    | _ => none) = _
  rw [hn]
  show (l.map fun b => Value.int .u8 (b.toNat : Int)).toArray[i]? = _
  rw [List.getElem?_toArray, List.getElem?_map, List.getElem?_eq_getElem hi']
  rfl

def exL : List UInt8 := [109, 111, 100, 117, 108, 101, 32, 97, 47, 98, 10, 103, 111, 32, 49, 46, 50, 50, 46, 49, 32, 47, 47, 32, 120]
def exA : ByteArray := ⟨#[49, 46, 50, 49, 114, 99, 50]⟩
def exB : ByteArray := ⟨#[49, 46, 48, 50, 49]⟩
theorem exA_v : toldM (minorL (ls exA)) = .tuple #[.int .i64 21, .int .i64 0] := by kernel_rfl
theorem exB_v : toldM (minorL (ls exB)) = .tuple #[.int .i64 0, .int .i64 6] := by kernel_rfl
theorem ex_v : readV ⟨exL.toArray⟩ = .tuple #[.agg #[.string ⟨#[97, 47, 98]⟩, .int .i64 22], .int .i64 0] := by kernel_rfl

set_option maxRecDepth 100000 in
theorem awake_any (w : World) (hm : MaxLen w) : Calls Tryd.prog 16 #[] w fun e w' => e = .returned (.bool true) ∧ Below w.heap.size w w' := by
  have c1 := minor_any exA (by decide)
  have c2 := minor_any exB (by decide)
  rw [exA_v] at c1
  rw [exB_v] at c2
  unfold exA at c1
  unfold exB at c2
  have c3 := fun a cap w' (hT : Text w' a ⟨exL.toArray⟩) (hM : MaxLen w') => read_any ⟨exL.toArray⟩ a cap w' hT (by decide) hM
  rw [ex_v] at c3
  have HF := Lib.hid text_fresh
  have HM := Lib.hid hm
  clear hm
  go_enter Tryd.func16, Tryd.ntmps16
  go_wp2_with (first
    | ((with_reducible refine (c1 _).mono ?_); rintro e w1 ⟨rfl, hb⟩; have HB1 := Lib.hid hb; clear hb)
    | ((with_reducible refine (c2 _).mono ?_); rintro e w2 ⟨rfl, hb⟩; have HB2 := Lib.hid hb; clear hb))
  rw [Lib.run_convert_bytes_const w2 31 5 _ 25 25 Tryd.underlying31 Tryd.underlying5]
  simp only [Result.andThen, List.size_toArray, List.length_cons, List.length_nil, Nat.reduceAdd]
  rw [Oper.upon_value]
  have HT := Lib.hid (text_fresh w2 exL _ 5 (25, 26) rfl)
  have HB3 := Lib.hid ((HB1.out.trans (HB2.out.mono HB1.out.size)).alloc (Nat.le_trans HB1.out.size HB2.out.size) (.cells (exL.map fun b => Value.int .u8 (b.toNat : Int)).toArray 5 (25, 26)))
  have hw : w2.alloc (.cells (exL.map fun b => Value.int .u8 (b.toNat : Int)).toArray 5 (25, 26)) = w2.alloc (.cells #[Value.int .u8 109, Value.int .u8 111, Value.int .u8 100, Value.int .u8 117, Value.int .u8 108, Value.int .u8 101, Value.int .u8 32, Value.int .u8 97, Value.int .u8 47, Value.int .u8 98, Value.int .u8 10, Value.int .u8 103, Value.int .u8 111, Value.int .u8 32, Value.int .u8 49, Value.int .u8 46, Value.int .u8 50, Value.int .u8 50, Value.int .u8 46, Value.int .u8 49, Value.int .u8 32, Value.int .u8 47, Value.int .u8 47, Value.int .u8 32, Value.int .u8 120] 5 (25, 26)) := rfl
  rw [hw] at HT HB3
  generalize w2.alloc (.cells #[Value.int .u8 109, Value.int .u8 111, Value.int .u8 100, Value.int .u8 117, Value.int .u8 108, Value.int .u8 101, Value.int .u8 32, Value.int .u8 97, Value.int .u8 47, Value.int .u8 98, Value.int .u8 10, Value.int .u8 103, Value.int .u8 111, Value.int .u8 32, Value.int .u8 49, Value.int .u8 46, Value.int .u8 50, Value.int .u8 50, Value.int .u8 46, Value.int .u8 49, Value.int .u8 32, Value.int .u8 47, Value.int .u8 47, Value.int .u8 32, Value.int .u8 120] 5 (25, 26)) = W3 at *
  have c4 := c3 (some ⟨w2.heap.size, 0, none⟩) 25 W3 HT.out (HM.out.below HB3.out)
  rw [show (⟨exL.toArray⟩ : ByteArray).size = 25 from rfl] at c4
  clear c1 c2 c3 hw
  go_wp2_with ((with_reducible refine c4.mono ?_); rintro e w4 ⟨rfl, hb⟩; have HB4 := Lib.hid hb; clear hb)
  go_ret
  have hb := HB3.out.trans (HB4.out.mono HB3.out.size)
  exact ⟨rfl, hb.alloc hb.size _⟩
end Go.Proofs.YtnghlhkgeahfmaaDoor
