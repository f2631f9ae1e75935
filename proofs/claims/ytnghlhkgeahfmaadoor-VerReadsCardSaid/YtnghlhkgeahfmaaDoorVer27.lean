/- VerReads: what any bytes say as a go.mod. -/
import Derived.Test.YtnghlhkgeahfmaaDoorVer26
import Derived.Test.YtnghlhkgeahfmaaDoorVerApp
namespace Go.Proofs.YtnghlhkgeahfmaaDoor
open Go.RowKit
set_option linter.unusedVariables false

set_option maxHeartbeats 1000000 in
set_option maxRecDepth 100000 in
theorem reads_walk (a : Option Addr) (cap : Nat) (s : ByteArray) (w : World) (hT : Text w a s) (hc : s.size ≤ cap) (hcn : a = none → cap = 0) (hm : MaxLen w) : Calls Tryd.prog 4 #[.slice a s.size cap] w fun e w' => e = .returned (.bool true) ∧ Below w.heap.size w w' := by
  by_cases h1 : 1000 < s.size
  · have g1 : decide ((1000 : Int) < (s.size : Int)) = true := by simp; omega
    clear h1 hm hT hc hcn
    go_enter Tryd.func4, Tryd.ntmps4
    go_wp2
    go_ret
    exact ⟨rfl, Below.refl _ _⟩
  have g1 : decide ((1000 : Int) < (s.size : Int)) = false := by simp; omega
  have HM := Lib.hid hm
  have HT := Lib.hid hT
  have HC := Lib.hid hcn
  have hs : s.size ≤ 1000 := by omega
  have HS := Lib.hid hs
  obtain ⟨p, m, er, hp, hre, hrf⟩ : ∃ (p : ByteArray) (m : Nat) (er : Int), (er = 0 ∨ er = 7) ∧ readV s = .tuple #[.agg #[.string p, .int .i64 (m : Nat)], .int .i64 er] ∧ refV (readL (ls s)) = .tuple #[.string p, .int .i64 (m : Nat), .int .i64 er] := by
    rw [readV_short s (by omega)]
    cases readL (ls s) with
    | none => exact ⟨⟨#[]⟩, 0, 7, .inr rfl, rfl, rfl⟩
    | some x => exact ⟨⟨x.1.toArray⟩, x.2, 0, .inl rfl, rfl, rfl⟩
  have c1 := fun a cap w hT hm => read_any s a cap w hT (by omega) hm
  rw [hre] at c1
  have c2 := fun w => refRead_any s hs w
  rw [hrf] at c2
  have HO1 : Hid ((w.alloc (.cells #[] 5)).ownsRow w.heap.size 5 1 (.slice (some ⟨w.heap.size, 0, none⟩) 0 0) 0 []) := by
    refine ⟨rfl, .inr ⟨w.heap.size, 0, #[], rfl, Nat.le_refl _, heap_alloc_new w _, Nat.le_refl _, by unfold maxLen; decide, rfl, rfl⟩⟩
  have HW1 : Hid (Below w.heap.size w (w.alloc (.cells #[] 5))) := (Below.refl _ w).alloc (Nat.le_refl _) _
  have HX1 : Hid (Text (w.alloc (.cells #[] 5)) a s) := HT.out.below HW1.out
  have C1 := Lib.hid c1
  have C2 := Lib.hid c2
  clear h1 hm hT hc hcn hs hre hrf hp c1 c2
  go_enter Tryd.func4, Tryd.ntmps4
  go_wp2_with (at_builtin; refine app_text rfl (.tmp 12) (.tmp 13) rfl w.heap.size _ 0 [] rfl HO1.out a s cap rfl HX1.out HC.out (by have := HS.out; omega) (by simp) ?_)
  intro v1 w1 hown1 hgr1
  have HB1 := Lib.hid (below_own HW1.out hgr1 (by simp) HO1.out)
  try simp only [Nat.zero_add, List.nil_append] at hown1
  obtain ⟨a1, cp1, hv1, ht1, hc1⟩ := copied hown1
  subst hv1
  have c3 := C1.out a1 cp1 w1 ht1 (HM.out.below HB1.out)
  clear hown1 hgr1 ht1 hc1 HO1 HX1 HW1 C1
  go_wp2_with ((with_reducible refine c3.mono ?_); rintro e w2 ⟨rfl, hb⟩; have HB2 := Lib.hid (HB1.out.trans (hb.mono HB1.out.size)); clear hb)
  clear c3
  have HBa := Lib.hid (HB2.out.alloc HB2.out.size (.cells #[.string p, .int .i64 (m : Nat)] 33))
  have H6 := Lib.hid (heap_alloc_new w2 (.cells #[.string p, .int .i64 (m : Nat)] 33))
  obtain ⟨b6, hb6⟩ : ∃ b6, b6 = w2.heap.size := ⟨_, rfl⟩
  rw [← hb6] at H6 ⊢
  clear hb6
  generalize w2.alloc (.cells #[.string p, .int .i64 (m : Nat)] 33) = W3 at *
  rw [(HT.out.below HBa.out).conv cap]
  simp only [Result.andThen]
  rw [Oper.upon_value]
  have c2 := C2.out
  go_wp2_with (first
    | ((with_reducible refine (c2 _).mono ?_); rintro e w4 ⟨rfl, hb⟩; have HB4 := Lib.hid (HBa.out.trans (hb.mono HBa.out.size)); obtain ⟨x0, x1, _, _⟩ := two_cells ((hb.block _ (lt_of_block H6.out)).trans H6.out); clear hb)
    | ((with_reducible refine (awake_any _ (HM.out.below HB4.out)).mono ?_); rintro e w5 ⟨rfl, hb⟩; have HB5 := Lib.hid (HB4.out.trans (hb.mono HB4.out.size)); clear hb))
  go_ret
  exact ⟨rfl, HB5.out⟩
end Go.Proofs.YtnghlhkgeahfmaaDoor
