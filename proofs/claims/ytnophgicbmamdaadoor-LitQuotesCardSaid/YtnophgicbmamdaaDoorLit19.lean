/- demoticlaw03.LitQuotes: the walk. -/
import Derived.Test.YtnophgicbmamdaaDoorLit18
import Derived.Test.YtnophgicbmamdaaDoorText
import Derived.Laws.Concat
namespace Go.Proofs.YtnophgicbmamdaaDoor
open Go.RowKit
set_option linter.unusedVariables false

theorem quoteL_flat (s : ByteArray) : ∀ k p, s.size ≤ p + k → quoteL s k p = (s.data.toList.drop p).flatMap fun c => (quotedB c.toNat).data.toList
  | 0, p, h => by
    rw [quoteL, List.drop_eq_nil_of_le (by rw [← ByteArray.size_data] at h; simpa using h)]
    rfl
  | k + 1, p, h => by
    rw [quoteL]
    by_cases hp : p < s.size
    · have hl : p < s.data.toList.length := by simpa using hp
      rw [if_pos hp, List.drop_eq_getElem_cons hl, List.flatMap_cons, quoteL_flat s k (p + 1) (by omega), bt_eq s p hp]
      rfl
    · rw [if_neg hp, List.drop_eq_nil_of_le (by simpa using hp)]
      rfl
theorem quoteL_le (s : ByteArray) : ∀ k p, (quoteL s k p).length ≤ 4 * k
  | 0, p => by rw [quoteL]; simp
  | k + 1, p => by
    rw [quoteL]
    by_cases hp : p < s.size
    · rw [if_pos hp, List.length_append]
      have := quoteL_le s k (p + 1)
      have := quotedB_size (bt s p) (bt_lt s p)
      omega
    · rw [if_neg hp]
      simp
theorem quoteB_le (s : ByteArray) (h : s.size ≤ 2000) : (quoteB s).size ≤ 10000 := by
  have := quoteL_le s s.size 0
  unfold quoteB
  rw [ByteArray.size]
  simp
  omega
def quoteM (s : ByteArray) : List UInt8 := s.data.toList.flatMap fun c => (quotedB c.toNat).data.toList
theorem quoteB_flat (s : ByteArray) : quoteB s = ⟨(34 :: (quoteM s ++ [34])).toArray⟩ := by
  unfold quoteB quoteM
  rw [quoteL_flat s s.size 0 (by omega), List.drop_zero]
theorem quoteM_append (a b : ByteArray) : quoteM (a ++ b) = quoteM a ++ quoteM b := by
  unfold quoteM
  rw [ByteArray.data_append, Array.toList_append, List.flatMap_append]
theorem quoteB_size (s : ByteArray) : (quoteB s).size = (quoteM s).length + 2 := by
  rw [quoteB_flat, ByteArray.size]
  simp
theorem quoteB_join (a b : ByteArray) : quoteB (a ++ b) = (quoteB a).extract 0 ((quoteB a).size - 1) ++ (quoteB b).extract 1 (quoteB b).size := by
  rw [quoteB_size, quoteB_size, quoteB_flat, quoteB_flat, quoteB_flat, quoteM_append]
  apply ByteArray.ext
  apply Array.toList_inj.1
  rw [ByteArray.data_append, Array.toList_append, ByteArray.data_extract, ByteArray.data_extract, Array.toList_extract, Array.toList_extract]
  simp only [List.extract_eq_take_drop]
  rw [show (quoteM a).length + 2 - 1 - 0 = (34 :: quoteM a).length by simp, show (quoteM b).length + 2 - 1 = (quoteM b ++ [34]).length by simp]
  show (34 :: (quoteM a ++ quoteM b ++ [34])) = List.take (34 :: quoteM a).length (34 :: quoteM a ++ [34]) ++ List.take (quoteM b ++ [34]).length (quoteM b ++ [34])
  rw [List.take_left, List.take_length, List.cons_append, List.append_assoc]

set_option maxHeartbeats 2000000 in
set_option maxRecDepth 100000 in
theorem quotes_walk (s t : ByteArray) (w : World) (hT : Tabs w) :
    Calls Tryd.prog 7 #[.string s, .string t] w fun e w' => e = .returned (.bool true) ∧ Below w.heap.size w w' := by
  by_cases h1 : 300 < s.size
  · have g1 : decide ((300 : Int) < s.size) = true := decide_eq_true (by omega)
    go_enter Tryd.func7, Tryd.ntmps7
    go_wp2
    go_ret
    exact ⟨rfl, Below.refl _ w⟩
  by_cases h2 : 300 < t.size
  · have g1 : decide ((300 : Int) < s.size) = false := decide_eq_false (by omega)
    have g2 : decide ((300 : Int) < t.size) = true := decide_eq_true (by omega)
    go_enter Tryd.func7, Tryd.ntmps7
    go_wp2
    go_ret
    exact ⟨rfl, Below.refl _ w⟩
  have g1 : decide ((300 : Int) < s.size) = false := decide_eq_false (by omega)
  have g2 : decide ((300 : Int) < t.size) = false := decide_eq_false (by omega)
  have hz : (s ++ t).size ≤ 2000 := by rw [ByteArray.size_append]; omega
  have Q1 := Lib.hid (quote_any s (by omega) w)
  have HJ := Lib.hid (quoteB_join s t)
  have z1 : 2 ≤ (quoteB s).size := by rw [quoteB_size]; omega
  have z2 : 2 ≤ (quoteB t).size := by rw [quoteB_size]; omega
  have z3 : (quoteB s).size ≤ 10000 := quoteB_le s (by omega)
  have z4 : (quoteB t).size ≤ 10000 := quoteB_le t (by omega)
  have Q2 := Lib.hid (fun w => quote_any t (by omega) w)
  have Q3 := Lib.hid (fun w => quote_any (s ++ t) hz w)
  have KA := fun w => run_string_add_sum (P := Tryd.prog) w s t (by omega)
  clear h1 h2 hz
  generalize quoteB s = x at *
  generalize quoteB t = y at *
  generalize quoteB (s ++ t) = z at *
  have gx : decide ((2 : Int) ≤ x.size) = true := decide_eq_true (by omega)
  have gy : decide ((2 : Int) ≤ y.size) = true := decide_eq_true (by omega)
  go_enter Tryd.func7, Tryd.ntmps7
  go_wp2_with fail
  refine Q1.out.mono ?_
  rintro e w1 ⟨rfl, hb1⟩
  have HB1 := Lib.hid hb1
  clear hb1 Q1
  go_wp2_with fail
  refine (Q2.out w1).mono ?_
  rintro e w2 ⟨rfl, hb2⟩
  have HB2 := Lib.hid (HB1.out.trans (hb2.mono HB1.out.size))
  clear hb2 Q2 HB1
  go_wp2_with fail
  refine (Q3.out w2).mono ?_
  rintro e w3 ⟨rfl, hb3⟩
  have HB3 := Lib.hid (HB2.out.trans (hb3.mono HB2.out.size))
  clear hb3 Q3 HB2
  have KB := fun w => run_string_add_sum (P := Tryd.prog) w (x.extract 0 (x.size - 1)) (y.extract 1 y.size) (by rw [ByteArray.size_extract, ByteArray.size_extract]; omega)
  have gz : (z.toList == (x.extract 0 (x.size - 1) ++ y.extract 1 y.size).toList) = true := by rw [HJ.out]; exact beq_self_eq_true _
  clear KA
  have HA : Hid (∀ v : Kept w3, Calls Tryd.prog 14 #[] v.W fun e w' => e = .returned (.bool true) ∧ Below v.W.heap.size v.W w') := fun v => awake_any v.W ((hT.below HB3.out).below v.h)
  clear hT
  go_wp2_with fail
  refine wp_region_kept (by kernel_rfl) (by kernel_rfl) ?_
  repeat (go_big_quiet_step ((go_at_call 14; exact kept_call (HA.out _))))
  refine wpQuiet_nil ?_
  rintro _ ⟨v, rfl⟩
  have HBV := Lib.hid (HB3.out.trans (v.h.mono HB3.out.size))
  clear HA KB
  go_wp2
  go_ret
  exact ⟨rfl, HBV.out⟩
end Go.Proofs.YtnophgicbmamdaaDoor
