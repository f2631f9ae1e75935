/- What the chapter's example says holds. -/
import Derived.Test.YthohljlfbakkhaaDoorLines
import Derived.Lib.SlBytesConst
namespace Go.Proofs.YthohljlfbakkhaaDoor
open Go.RowKit

/-- The bytes of the chapter's example. -/
def ex : ByteArray := ⟨#[97, 195, 164, 10, 98]⟩
theorem ex_size : ex.size = 5 := rfl
theorem ex_1 : ofL ex 1 = 1 ∧ ofC ex 1 = 2 := by decide +kernel
theorem ex_3 : ofL ex 3 = 1 ∧ ofC ex 3 = 3 := by decide +kernel
theorem ex_4 : ofL ex 4 = 2 ∧ ofC ex 4 = 1 := by decide +kernel
theorem ex_nl : nl ex = 1 := by decide +kernel

theorem ex_of {b : Nat} (k l c : Nat) (h : ofL ex k = l ∧ ofC ex k = c) (w : World) (ht : Text w (some ⟨b, 0, none⟩) ex) :
    Calls Tryd.prog 14 #[.slice (some ⟨b, 0, none⟩) 5 5, .int .i64 k] w fun e w' => e = .returned (.agg #[.int .i64 l, .int .i64 c]) ∧ Below w.heap.size w w' := by
  have := of_any ex (some ⟨b, 0, none⟩) 5 k w (by rw [ex_size]; omega) ht
  rw [h.1, h.2] at this
  exact this
theorem ex_lines {b : Nat} (w : World) (ht : Text w (some ⟨b, 0, none⟩) ex) :
    Calls Tryd.prog 6 #[.slice (some ⟨b, 0, none⟩) 5 5] w fun e w' => e = .returned (.int .i64 2) ∧ Below w.heap.size w w' := by
  have := lines_any ex (some ⟨b, 0, none⟩) 5 w (by rw [ex_size]; omega) ht
  rw [ex_nl] at this
  exact this

theorem ex_text (w : World) : Text (w.alloc (.cells #[.int .u8 97, .int .u8 195, .int .u8 164, .int .u8 10, .int .u8 98] 5 (5, 6))) (some ⟨w.heap.size, 0, none⟩) ex := by
  refine .inr ⟨_, _, rfl, by simp, fun i hi => ?_⟩
  rw [Nat.zero_add, World.cell?_alloc_mark]
  rw [ex_size] at hi
  match i, hi with
  | 0, _ => rfl
  | 1, _ => rfl
  | 2, _ => rfl
  | 3, _ => rfl
  | 4, _ => rfl

set_option maxHeartbeats 400000 in
theorem awake_any (w : World) : Calls Tryd.prog 8 #[] w fun e w' => e = .returned (.bool true) ∧ Below w.heap.size w w' := by
  have kc := fun (w : World) (C : Array Value) (n c : Nat) => Lib.run_convert_bytes_const (P := Tryd.prog) w 22 5 C n c Tryd.underlying22 Tryd.underlying5
  have HT := Lib.hid (ex_text w)
  have HB := Lib.hid ((Below.refl w.heap.size w).alloc (Nat.le_refl _) (.cells #[.int .u8 97, .int .u8 195, .int .u8 164, .int .u8 10, .int .u8 98] 5 (5, 6)))
  go_enter Tryd.func8, Tryd.ntmps8
  go_wp2_with fail
  refine (ex_of 1 1 2 ex_1 _ HT.out).mono ?_
  rintro e w1 ⟨rfl, hb1⟩
  have HT1 := Lib.hid (HT.out.below hb1)
  have HB1 := Lib.hid (HB.out.trans (hb1.mono (by simp)))
  clear hb1
  go_wp2_with fail
  refine (ex_of 3 1 3 ex_3 _ HT1.out).mono ?_
  rintro e w2 ⟨rfl, hb2⟩
  have HT2 := Lib.hid (HT1.out.below hb2)
  have HB2 := Lib.hid (HB1.out.trans (hb2.mono HB1.out.size))
  clear hb2
  go_wp2_with fail
  refine (ex_of 4 2 1 ex_4 _ HT2.out).mono ?_
  rintro e w3 ⟨rfl, hb3⟩
  have HT3 := Lib.hid (HT2.out.below hb3)
  have HB3 := Lib.hid (HB2.out.trans (hb3.mono HB2.out.size))
  clear hb3
  go_wp2_with fail
  refine (ex_lines _ HT3.out).mono ?_
  rintro e w4 ⟨rfl, hb4⟩
  have HB4 := Lib.hid (HB3.out.trans (hb4.mono HB3.out.size))
  clear hb4
  go_wp2
  go_ret
  exact ⟨rfl, HB4.out⟩
end Go.Proofs.YthohljlfbakkhaaDoor
