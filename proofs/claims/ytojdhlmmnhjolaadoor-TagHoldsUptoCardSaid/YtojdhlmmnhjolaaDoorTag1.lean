/- package ver, as package tag asks it: which signs are figures; how long a row of them is; what stands behind a text that another begins with. -/
import Derived.Test.YtojdhlmmnhjolaaDoorVerText
import Derived.Test.YtojdhlmmnhjolaaDoorVer0
import Derived.Shelf.Strings.FieldsFuncAny
namespace Go.Proofs.YtojdhlmmnhjolaaDoor
open Go.RowKit
set_option linter.unusedVariables false


set_option maxRecDepth 100000 in
theorem figure_any (n : Nat) (h : n ≤ 1114111) (w : World) : Calls Tryd.prog 52 #[.int .i32 n] w fun e w' => e = .returned (.bool (figN n)) ∧ ∃ q, w' = w.drewN q := by
  by_cases h1 : 48 ≤ n
  · by_cases h2 : n ≤ 57
    · have e : figN n = true := by unfold figN; simp [h1, h2]
      rw [e]
      have g1 : decide ((48 : Int) ≤ (n : Int)) = true := by simp; omega
      have g2 : decide ((n : Int) ≤ 57) = true := by simp; omega
      clear h1 h2
      go_enter Tryd.func52, Tryd.ntmps52
      go_wp2
      go_ret
      exact ⟨rfl, 0, rfl⟩
    · have e : figN n = false := by unfold figN; simp [h2]
      rw [e]
      have g1 : decide ((48 : Int) ≤ (n : Int)) = true := by simp; omega
      have g2 : decide ((n : Int) ≤ 57) = false := by simp; omega
      clear h1 h2
      go_enter Tryd.func52, Tryd.ntmps52
      go_wp2
      go_ret
      exact ⟨rfl, 0, rfl⟩
  · have e : figN n = false := by unfold figN; simp [h1]
    rw [e]
    have g1 : decide ((48 : Int) ≤ (n : Int)) = false := by simp; omega
    clear h1
    go_enter Tryd.func52, Tryd.ntmps52
    go_wp2
    go_ret
    exact ⟨rfl, 0, rfl⟩

theorem figure_pred (w : World) : Go.Proofs.PredAtRunes Tryd.prog 52 #[] figN w := fun W x hx _ => figure_any x hx W
theorem row_any (g : FuncId) (p : Nat → Bool) (hp0 : ∀ r, 128 ≤ r → p r = false) (eg : ∀ args W, (callFunc g args).run Tryd.prog W = .ok (.enter g args) W) (s : ByteArray) (w : World) (hs : s.size ≤ 4294967296) (hp : Go.Proofs.PredAtRunes Tryd.prog g #[] p w) :
    Calls Tryd.prog 51 #[.string s, .func (.func g) #[] #[]] w fun e w' => e = .returned (.int .i64 (rowN p s)) ∧ Below w.heap.size w w' := by
  go_enter Tryd.func51, Tryd.ntmps51
  go_wp2
  go_loopw [5, 6] (fun _ _ wr => ∃ k : Nat, wr.heap[w.heap.size]? = some (.stringIter s k) ∧ Below w.heap.size w wr ∧ k ≤ s.size ∧ Hid (∀ i, i < k → p (bt s i) = true)) (fun _ _ wr => s.size - wr.iterPos w.heap.size)
  case atStart =>
    exact ⟨0, World.iter_heap w s 0, (Below.refl _ w).alloc (Nat.le_refl _) _, Nat.zero_le _, fun i hi => by omega⟩
  case round =>
    obtain ⟨k, hit, hb, hk, HR⟩ := hrel
    have hpos0 := iterPos_of hit
    by_cases hlt : k < s.size
    · have hnx : ∀ ty, (Instr.next (.pointer (some ⟨w.heap.size, 0, none⟩)) true ty).run Tryd.prog wr = _ := fun ty => Lib.run_next_any_at wr w.heap.size s k ty hit hlt
      have hit2 := Lib.iterAt_heap wr w.heap.size s k (k + (Utf8.decode s k).2) hit
      have hb2 := Lib.below_iterAt hb (k := w.heap.size) (Nat.le_refl _) s (k + (Utf8.decode s k).2)
      have HK := Lib.hid (sign_kind s k)
      have hwl := wid_le s k hlt
      have HRN := Lib.hid (Lib.rune_le s k)
      have cS : Calls Tryd.prog g #[.int .i32 ((Utf8.decode s k).1 : Nat)] (wr.iterAt w.heap.size s (k + (Utf8.decode s k).2)) _ := hp _ (Utf8.decode s k).1 HRN.out hb2
      clear hp hs
      generalize wr.iterAt w.heap.size s (k + (Utf8.decode s k).2) = W1 at *
      cases hq : p (Utf8.decode s k).1
      · go_wp2_with (refine cS.mono ?_; rintro e W2 ⟨rfl, q, rfl⟩; rw [hq])
        refine bodyPost_ret (results_tmp rfl _ _ _) rfl ?_
        have hR : rowN p s = k := rowN_at p s k hk HR.out fun _ => by
          rcases HK.out with ⟨_, k2, _⟩ | ⟨_, k2, _⟩
          · rw [← k2]; exact hq
          · exact hp0 _ k2
        rw [hR]
        exact ⟨rfl, Go.Proofs.below_drewN' hb2 q⟩
      · go_wp2_with (refine cS.mono ?_; rintro e W2 ⟨rfl, q, rfl⟩; rw [hq])
        have hw1 : (Utf8.decode s k).2 = 1 ∧ p (bt s k) = true := by
          rcases HK.out with ⟨k1, k2, _⟩ | ⟨k1, _⟩
          · exact ⟨k1, by rw [← k2]; exact hq⟩
          · have := hp0 _ k1
            rw [show sig s k = (Utf8.decode s k).1 from rfl, hq] at this
            cases this
        go_roundw
        case rel =>
          refine ⟨k + (Utf8.decode s k).2, hit2, Go.Proofs.below_drewN' hb2 q, hwl, ?_⟩
          intro i hi
          rw [hw1.1] at hi
          rcases Nat.lt_or_ge i k with h | h
          · exact HR.out i h
          · obtain rfl : i = k := by omega
            exact hw1.2
        case measure =>
          rw [hpos0, show (W1.drewN q).iterPos w.heap.size = k + (Utf8.decode s k).2 from iterPos_of hit2, hw1.1]
          omega
    · have hnx : ∀ ty, (Instr.next (.pointer (some ⟨w.heap.size, 0, none⟩)) true ty).run Tryd.prog wr = _ := fun ty => Lib.run_next_end_at wr w.heap.size s k ty hit hlt
      clear hp
      obtain rfl : k = s.size := by omega
      go_wp2_with fail
      refine bodyPost_ret (results_tmp rfl _ _ _) rfl ?_
      rw [rowN_at p s s.size (Nat.le_refl _) HR.out (fun h => by omega)]
      exact ⟨rfl, hb⟩

/-! ### What stands behind a text that another begins with -/
def hasPre (s t : ByteArray) : Bool := decide (t.size ≤ s.size) && ((s.extract 0 t.size).toList == t.toList)
theorem hasPre_list (s t : ByteArray) : hasPre s t = (ls t).isPrefixOf (ls s) := by
  unfold hasPre
  rw [Bool.eq_iff_iff, Bool.and_eq_true, decide_eq_true_eq, beq_iff_eq, Lib.toList_data, Lib.toList_data, Lib.extract_data, List.drop_zero, Nat.sub_zero, List.isPrefixOf_iff_prefix, List.prefix_iff_eq_take]
  rw [← ls_len s, ← ls_len t]
  constructor
  · rintro ⟨_, h⟩
    exact h.symm
  · intro h
    refine ⟨?_, h.symm⟩
    have := congrArg List.length h
    rw [List.length_take] at this
    omega

theorem hasPrefix_any (s t : ByteArray) (w : World) : Calls Tryd.prog 58 #[.string s, .string t] w fun e w' => e = .returned (.bool (hasPre s t)) ∧ w = w' := by
  have HB : Hid (hasPre s t = (decide (t.size ≤ s.size) && ((s.extract 0 t.size).toList == t.toList))) := rfl
  by_cases h : t.size ≤ s.size
  · have g : decide (t.size ≤ s.size) = true := decide_eq_true h
    have HE : Hid (hasPre s t = ((s.extract 0 t.size).toList == t.toList)) := by show _ = _; rw [HB.out, g]; rfl
    go_enter Tryd.func58, Tryd.ntmps58
    go_wp2
    go_ret
    rw [HE.out]
    exact ⟨rfl, rfl⟩
  · have g : decide (t.size ≤ s.size) = false := decide_eq_false h
    have HE : Hid (hasPre s t = false) := by show _ = _; rw [HB.out, g]; rfl
    go_enter Tryd.func58, Tryd.ntmps58
    go_wp2
    go_ret
    rw [HE.out]
    exact ⟨rfl, rfl⟩

/-- What is left of s behind t. -/
def behind (s t : ByteArray) : ByteArray := if hasPre s t then s.extract t.size s.size else s
theorem cutPrefix0_any (s t : ByteArray) (w : World) : Calls Tryd.prog 50 #[.string s, .string t] w fun e w' => e = .returned (.tuple #[.string (behind s t), .bool (hasPre s t)]) ∧ w = w' := by
  unfold behind
  cases h : hasPre s t
  · go_enter Tryd.func50, Tryd.ntmps50
    go_wp2_with ((with_reducible refine (hasPrefix_any s t _).mono ?_); rintro e w' ⟨rfl, rfl⟩; rw [h])
    go_ret2
    exact ⟨rfl, rfl⟩
  · have hle : t.size ≤ s.size := by
      unfold hasPre at h
      rw [Bool.and_eq_true, decide_eq_true_eq] at h
      exact h.1
    go_enter Tryd.func50, Tryd.ntmps50
    go_wp2_with ((with_reducible refine (hasPrefix_any s t _).mono ?_); rintro e w' ⟨rfl, rfl⟩; rw [h])
    go_ret2
    exact ⟨rfl, rfl⟩
theorem cutPrefix_any (s t : ByteArray) (w : World) : Calls Tryd.prog 42 #[.string s, .string t] w fun e w' => e = .returned (.tuple #[.string (behind s t), .bool (hasPre s t)]) ∧ w = w' := by
  go_enter Tryd.func42, Tryd.ntmps42
  go_wp2_with ((with_reducible refine (cutPrefix0_any s t _).mono ?_); rintro e w' ⟨rfl, rfl⟩)
  go_ret2
  exact ⟨rfl, rfl⟩

/-! ### package tag -/
theorem trow_any (g : FuncId) (p : Nat → Bool) (hp0 : ∀ r, 128 ≤ r → p r = false) (eg : ∀ args W, (callFunc g args).run Tryd.prog W = .ok (.enter g args) W) (s : ByteArray) (w : World) (hs : s.size ≤ 4294967296) (hp : Go.Proofs.PredAtRunes Tryd.prog g #[] p w) :
    Calls Tryd.prog 40 #[.string s, .func (.func g) #[] #[]] w fun e w' => e = .returned (.int .i64 (rowN p s)) ∧ Below w.heap.size w w' := by
  go_enter Tryd.func40, Tryd.ntmps40
  go_wp2
  go_loopw [5, 6] (fun _ _ wr => ∃ k : Nat, wr.heap[w.heap.size]? = some (.stringIter s k) ∧ Below w.heap.size w wr ∧ k ≤ s.size ∧ Hid (∀ i, i < k → p (bt s i) = true)) (fun _ _ wr => s.size - wr.iterPos w.heap.size)
  case atStart =>
    exact ⟨0, World.iter_heap w s 0, (Below.refl _ w).alloc (Nat.le_refl _) _, Nat.zero_le _, fun i hi => by omega⟩
  case round =>
    obtain ⟨k, hit, hb, hk, HR⟩ := hrel
    have hpos0 := iterPos_of hit
    by_cases hlt : k < s.size
    · have hnx : ∀ ty, (Instr.next (.pointer (some ⟨w.heap.size, 0, none⟩)) true ty).run Tryd.prog wr = _ := fun ty => Lib.run_next_any_at wr w.heap.size s k ty hit hlt
      have hit2 := Lib.iterAt_heap wr w.heap.size s k (k + (Utf8.decode s k).2) hit
      have hb2 := Lib.below_iterAt hb (k := w.heap.size) (Nat.le_refl _) s (k + (Utf8.decode s k).2)
      have HK := Lib.hid (sign_kind s k)
      have hwl := wid_le s k hlt
      have HRN := Lib.hid (Lib.rune_le s k)
      have cS : Calls Tryd.prog g #[.int .i32 ((Utf8.decode s k).1 : Nat)] (wr.iterAt w.heap.size s (k + (Utf8.decode s k).2)) _ := hp _ (Utf8.decode s k).1 HRN.out hb2
      clear hp hs
      generalize wr.iterAt w.heap.size s (k + (Utf8.decode s k).2) = W1 at *
      cases hq : p (Utf8.decode s k).1
      · go_wp2_with (refine cS.mono ?_; rintro e W2 ⟨rfl, q, rfl⟩; rw [hq])
        refine bodyPost_ret (results_tmp rfl _ _ _) rfl ?_
        have hR : rowN p s = k := rowN_at p s k hk HR.out fun _ => by
          rcases HK.out with ⟨_, k2, _⟩ | ⟨_, k2, _⟩
          · rw [← k2]; exact hq
          · exact hp0 _ k2
        rw [hR]
        exact ⟨rfl, Go.Proofs.below_drewN' hb2 q⟩
      · go_wp2_with (refine cS.mono ?_; rintro e W2 ⟨rfl, q, rfl⟩; rw [hq])
        have hw1 : (Utf8.decode s k).2 = 1 ∧ p (bt s k) = true := by
          rcases HK.out with ⟨k1, k2, _⟩ | ⟨k1, _⟩
          · exact ⟨k1, by rw [← k2]; exact hq⟩
          · have := hp0 _ k1
            rw [show sig s k = (Utf8.decode s k).1 from rfl, hq] at this
            cases this
        go_roundw
        case rel =>
          refine ⟨k + (Utf8.decode s k).2, hit2, Go.Proofs.below_drewN' hb2 q, hwl, ?_⟩
          intro i hi
          rw [hw1.1] at hi
          rcases Nat.lt_or_ge i k with h | h
          · exact HR.out i h
          · obtain rfl : i = k := by omega
            exact hw1.2
        case measure =>
          rw [hpos0, show (W1.drewN q).iterPos w.heap.size = k + (Utf8.decode s k).2 from iterPos_of hit2, hw1.1]
          omega
    · have hnx : ∀ ty, (Instr.next (.pointer (some ⟨w.heap.size, 0, none⟩)) true ty).run Tryd.prog wr = _ := fun ty => Lib.run_next_end_at wr w.heap.size s k ty hit hlt
      clear hp
      obtain rfl : k = s.size := by omega
      go_wp2_with fail
      refine bodyPost_ret (results_tmp rfl _ _ _) rfl ?_
      rw [rowN_at p s s.size (Nat.le_refl _) HR.out (fun h => by omega)]
      exact ⟨rfl, hb⟩

end Go.Proofs.YtojdhlmmnhjolaaDoor
