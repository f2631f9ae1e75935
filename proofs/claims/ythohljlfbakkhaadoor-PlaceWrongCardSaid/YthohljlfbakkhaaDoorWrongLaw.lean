/- The walk of demoticlaw01.PlaceWrong: it returns true, and writes nothing that was there. -/
import Derived.Test.YthohljlfbakkhaaDoorRefWrong
import Derived.Test.YthohljlfbakkhaaDoorApp
namespace Go.Proofs.YthohljlfbakkhaaDoor
open Go.RowKit

set_option maxHeartbeats 400000 in
theorem wrong_walk (a0 : Option Addr) (cap0 : Nat) (s : ByteArray) (w : World) (hs : Text w a0 s) (hc0 : a0 = none → cap0 = 0) (hT : Tabs w) :
    Calls Tryd.prog 3 #[.slice a0 s.size cap0] w fun e w' => e = .returned (.bool true) ∧ Below w.heap.size w w' := by
  by_cases hl : 1000 < s.size
  · clear hs hc0 hT
    go_enter Tryd.func3, Tryd.ntmps3
    go_wp2
    go_ret
    exact ⟨rfl, Below.refl _ _⟩
  have hw1 := (Below.refl w.heap.size w).alloc (Nat.le_refl _) (.cells #[] 5)
  have HO : (w.alloc (.cells #[] 5)).ownsRow w.heap.size 5 1 (.slice (some ⟨w.heap.size, 0, none⟩) 0 0) 0 [] := ⟨rfl, .inr ⟨w.heap.size, 0, #[], rfl, Nat.le_refl _, heap_alloc_new _ _, Nat.le_refl _, Nat.zero_le _, rfl, rfl⟩⟩
  have HS := Lib.hid hs
  have HT := Lib.hid hT
  have HS1 := Lib.hid (hs.below hw1)
  have HW1 := Lib.hid hw1
  have HO1 := Lib.hid HO
  have HC0 := Lib.hid hc0
  clear hs hc0 hT hw1 HO
  go_enter Tryd.func3, Tryd.ntmps3
  go_wp2_with (at_builtin; refine app_text rfl (.tmp 6) (.tmp 7) rfl w.heap.size _ 0 [] rfl HO1.out a0 s cap0 rfl HS1.out HC0.out (by omega) (by simp) ?_; intro v1 w1 hown1 hgr1; simp only [Nat.zero_add, List.nil_append] at hown1; have HB1 := Lib.hid (below_own HW1.out hgr1 (by simp) HO1.out); have HX := Lib.hid (copied hown1); clear hown1 hgr1)
  obtain ⟨a, cap, rfl, hX, hcap⟩ := HX.out
  have HX1 := Lib.hid hX
  clear hX HX
  refine (wrong_any s a cap w1 (by omega) HX1.out (HT.out.below HB1.out) hcap).mono ?_
  rintro e w2 ⟨rfl, hb⟩
  have HB2 := Lib.hid (HB1.out.trans (hb.mono HB1.out.size))
  clear hb HB1 HX1 hcap
  go_wp2_with fail
  refine (refWrong_any s a0 cap0 w2 (by omega) (HS.out.below HB2.out)).mono ?_
  rintro e w' ⟨rfl, rfl⟩
  go_wp2_with fail
  refine (lines_any s a0 cap0 w2 (by omega) (HS.out.below HB2.out)).mono ?_
  rintro e w3 ⟨rfl, hb⟩
  have HB3 := Lib.hid (HB2.out.trans (hb.mono HB2.out.size))
  clear hb HB2
  go_wp2_with fail
  refine (refLines_any s a0 cap0 w3 (by omega) (HS.out.below HB3.out)).mono ?_
  rintro e w' ⟨rfl, rfl⟩
  go_wp2_with fail
  refine (awake_any w3).mono ?_
  rintro e w4 ⟨rfl, hb⟩
  have HB4 := Lib.hid (HB3.out.trans (hb.mono HB3.out.size))
  clear hb HB3
  go_wp2
  go_ret
  exact ⟨rfl, HB4.out⟩
end Go.Proofs.YthohljlfbakkhaaDoor
