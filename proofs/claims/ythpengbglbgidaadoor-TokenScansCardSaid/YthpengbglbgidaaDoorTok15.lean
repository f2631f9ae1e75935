/- What the chapter's example says holds. -/
import Derived.Test.YthpengbglbgidaaDoorTok14N
import Derived.Test.YthpengbglbgidaaDoorTokP
import Derived.Lib.SlBytesConst
namespace Go.Proofs.YthpengbglbgidaaDoor
open Go.RowKit Go.Joins
set_option linter.unusedVariables false

def ex2 : ByteArray := ⟨#[97, 10, 43, 98]⟩
def ex2T : List Tk := [⟨1, ⟨#[97]⟩, 0⟩, ⟨6, ⟨#[10]⟩, 1⟩, ⟨6, ⟨#[43]⟩, 2⟩, ⟨1, ⟨#[98]⟩, 3⟩, ⟨6, ⟨#[10]⟩, 4⟩]
theorem ex2_size : ex2.size = 4 := rfl
theorem ex2_err : (scanR ex2).err = 0 ∧ (scanR ex2).pos = 0 ∧ (scanR ex2).st.toks = ex2T := by decide +kernel

theorem ex2_scan {b : Nat} (w : World) (ht : Text w (some ⟨b, 0, none⟩) ex2) (hT : Tabs w) (hm : MaxLen w) :
    Calls Tryd.prog 5 #[.slice (some ⟨b, 0, none⟩) 4 4] w fun e w' => Below w.heap.size w w' ∧ ∃ vt, e = .returned (.tuple #[vt, .int .i64 0, .int .i64 0]) ∧ w'.ownsRow w.heap.size 35 3 vt 5 (cellsOf ex2T) := by
  have := toks_any ex2 (some ⟨b, 0, none⟩) 4 w ht hT hm (by rw [ex2_size]; omega)
  unfold ToksEnds at this
  rw [ex2_err.1, ex2_err.2.1, ex2_err.2.2] at this
  exact this

theorem ex2_text (w : World) : Text (w.alloc (.cells #[.int .u8 97, .int .u8 10, .int .u8 43, .int .u8 98] 5 (4, 5))) (some ⟨w.heap.size, 0, none⟩) ex2 := by
  refine .inr ⟨_, _, rfl, by simp, fun i hi => ?_⟩
  rw [Nat.zero_add, World.cell?_alloc_mark]
  rw [ex2_size] at hi
  match i, hi with
  | 0, _ => rfl
  | 1, _ => rfl
  | 2, _ => rfl
  | 3, _ => rfl

set_option maxHeartbeats 400000 in
theorem awake_any (w : World) (hT : Tabs w) (hm : MaxLen w) : Calls Tryd.prog 9 #[] w fun e w' => e = .returned (.bool true) ∧ Below w.heap.size w w' := by
  have kc := fun (w : World) (C : Array Value) (n c : Nat) => Lib.run_convert_bytes_const (P := Tryd.prog) w 22 5 C n c Tryd.underlying22 Tryd.underlying5
  have hb := (Below.refl w.heap.size w).alloc (Nat.le_refl _) (.cells #[.int .u8 97, .int .u8 10, .int .u8 43, .int .u8 98] 5 (4, 5))
  have HT := Lib.hid (ex2_scan _ (ex2_text w) (hT.below hb) (hm.below hb))
  have HB := Lib.hid hb
  clear hT hm hb
  go_enter Tryd.func9, Tryd.ntmps9
  go_wp2_with fail
  refine HT.out.mono ?_
  rintro e w1 ⟨hb1, vt, rfl, hrow⟩
  obtain ⟨g, cap, rfl⟩ := ownsRow_form hrow (by decide)
  have hl : 5 ≤ cap ∧ cap ≤ maxLen := by
    rcases hrow.2 with ⟨h, _⟩ | ⟨_, _, _, h, _, _, h1, h2, _⟩
    · cases h
    · cases h; exact ⟨h1, h2⟩
  have c1 : w1.cell? ⟨g, 1, none⟩ = some (.string ⟨#[97]⟩) := hrow.cellAt 1 (by decide)
  have c4 : w1.cell? ⟨g, 4, none⟩ = some (.string ⟨#[10]⟩) := hrow.cellAt 4 (by decide)
  have c5 : w1.cell? ⟨g, 5, none⟩ = some (.int .i64 1) := hrow.cellAt 5 (by decide)
  have c7 : w1.cell? ⟨g, 7, none⟩ = some (.string ⟨#[43]⟩) := hrow.cellAt 7 (by decide)
  have c14 : w1.cell? ⟨g, 14, none⟩ = some (.int .i64 4) := hrow.cellAt 14 (by decide)
  have HB1 := Lib.hid (HB.out.trans (hb1.mono (by simp)))
  clear hb1 hrow
  go_wp2
  go_ret
  exact ⟨rfl, HB1.out⟩
end Go.Proofs.YthpengbglbgidaaDoor
