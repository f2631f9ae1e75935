/- package ver: the walk over a go.mod's lines: each line's words are told, one behind the other, as long as they are wanted. -/
import Derived.Test.YtnghlhkgeahfmaaDoorVer6
namespace Go.Proofs.YtnghlhkgeahfmaaDoor
open Go.RowKit Go.Shelf
set_option linter.unusedVariables false
attribute [local go_sem] Oper.semAt_some

set_option maxHeartbeats 1000000 in
set_option maxRecDepth 100000 in
theorem lines1_in (n : Nat) (hn : 1 ≤ n) (l : Nat) (J : Nat → World → Prop) (Jx : World → Prop) (s : ByteArray) (hs : s.size ≤ 1000000) (b : Nat) (W : World)
    (hJ : ∀ k A B, J k A → Below A.heap.size A B → J k B) (hM : ∀ k A, J k A → MaxLen A)
    (hY : ∀ k b x W1, J k W1 → (wordsOf s)[k]? = some x → Row b x W1 → YieldAt Fence.wide (n - 1) Tryd.prog l #[rowV b x] W1 fun e W' => (e = .returned (.bool true) ∧ J (k + 1) W') ∨ (e = .returned (.bool false) ∧ Jx W'))
    (h0 : J 0 W) (hc : W.cell? ⟨b, 0, none⟩ = some (.string s)) :
    CallsIn Fence.wide n Tryd.prog 38 #[.func (.yield l) #[] #[], .pointer (some ⟨b, 0, none⟩)] W fun e W' => (∃ v, e = .returned v) ∧ (J (wordsOf s).length W' ∨ Jx W') := by
  refine callsIn_of_wp Tryd.func38 rfl trivial ?_ rfl
  simp only [Tryd.ntmps38, List.size_toArray, List.length_cons, List.length_nil, Nat.reduceAdd, Nat.reduceSub, Array.replicate_succ, Array.replicate_zero, List.push_toArray, List.append_toArray, List.nil_append, List.cons_append]
  obtain ⟨P, hP⟩ : ∃ P, partsF 10 [] (ls s) = P := ⟨_, rfl⟩
  have hWP : wordsOf s = P.map fun l => wordsB ⟨l.toArray⟩ := by unfold wordsOf; rw [hP]
  have HWP := Lib.hid hWP
  have HJ := Lib.hid hJ
  have HM := Lib.hid hM
  have HY := Lib.hid hY
  have HS := Lib.hid hs
  clear hWP hJ hM hY hs
  gi_wp2
  gi_loopw [3, 4] (fun v3 v4 wr => ∃ (r : ByteArray) (m : Bool) (k : Nat), v3 = .string r ∧ v4 = .bool m ∧ J k wr ∧ r.size ≤ 1000000 ∧ Hid ((m = true ∧ P.drop k = partsF 10 [] (ls r)) ∨ (m = false ∧ k = P.length)))
    (fun v3 v4 _ => match v3, v4 with | .string r, .bool m => if m then r.size + 2 else 1 | _, _ => 0)
  case atStart =>
    exact ⟨s, true, 0, rfl, rfl, h0, HS.out, .inl ⟨rfl, by rw [hP]; rfl⟩⟩
  case round =>
    obtain ⟨r, m, k, rfl, rfl, hj, hr, HR⟩ := hrel
    have HJ0 := Lib.hid hj
    cases m
    · have hk : k = P.length := by
        rcases HR.out with ⟨h, _⟩ | ⟨_, h⟩
        · cases h
        · exact h
      clear hj
      gi_wp2
      go_end0
      exact ⟨⟨_, rfl⟩, .inl (by rw [HWP.out, List.length_map, ← hk]; exact HJ0.out)⟩
    · have hdr : P.drop k = partsF 10 [] (ls r) := by
        rcases HR.out with ⟨_, h⟩ | ⟨h, _⟩
        · exact h
        · cases h
      have hcp := cut_parts r
      have hmk : (⟨(ls (cutA r nlB)).toArray⟩ : ByteArray) = cutA r nlB := rfl
      have hhd : P[k]? = some (ls (cutA r nlB)) := by
        have : (P.drop k)[0]? = some (ls (cutA r nlB)) := by
          rw [hdr]
          rcases hcp with ⟨_, _, h⟩ | ⟨_, h⟩ <;> rw [h] <;> rfl
        simpa using this
      have hwk : (wordsOf s)[k]? = some (wordsB (cutA r nlB)) := by
        rw [HWP.out, List.getElem?_map, hhd]
        show some (wordsB ⟨(ls (cutA r nlB)).toArray⟩) = _
        rw [hmk]
      have hnx : (cutF r nlB = true ∧ (cutB r nlB).size < r.size ∧ P.drop (k + 1) = partsF 10 [] (ls (cutB r nlB))) ∨ (cutF r nlB = false ∧ k + 1 = P.length) := by
        rcases hcp with ⟨h1, h2, h3⟩ | ⟨h1, h3⟩
        · refine .inl ⟨h1, h2, ?_⟩
          rw [← List.drop_drop, hdr, h3]; rfl
        · refine .inr ⟨h1, ?_⟩
          have := congrArg List.length hdr
          rw [h3, List.length_drop] at this
          simp at this
          omega
      have hA := cutA_len r nlB
      have hB := cutB_len r nlB
      have HNX := Lib.hid hnx
      have HWK := Lib.hid hwk
      have HRS := Lib.hid hr
      have c1 := cut_any r nlB hr
      have HAS : Hid ((cutA r nlB).size ≤ 1000000) := Nat.le_trans hA hr
      have HBS : Hid ((cutB r nlB).size ≤ 1000000) := Nat.le_trans hB hr
      clear hcp hmk hhd hwk hnx hdr hA hB hr HR
      have c2 := cut_any (cutA r nlB) slB HAS.out
      have HCF : Hid (cutF r nlB = true ∨ cutF r nlB = false) := by rcases HNX.out with h | h; exact .inl h.1; exact .inr h.1
      have HN3 : Hid ((noteB (cutA r nlB)).size ≤ 1000000) := Nat.le_trans (cutA_len _ _) HAS.out
      have HWB : Hid (wordsB (cutA r nlB) = Lib.goFieldsP blankN (noteB (cutA r nlB))) := rfl
      have c3 := fields_any (noteB (cutA r nlB)) HN3.out
      rw [show cutA (cutA r nlB) slB = noteB (cutA r nlB) from rfl] at c2
      generalize cutA r nlB = ln at *
      generalize cutB r nlB = rest at *
      generalize cutF r nlB = more at *
      generalize noteB ln = nt at *
      generalize cutB ln slB = ln2 at *
      generalize cutF ln slB = more2 at *
      generalize wordsB ln = ws at *
      rw [← HWB.out] at c3
      gi_wp2_with (first
        | (refine ⟨trivial, ?_⟩; gi_at_call 39; refine (callsIn_wide.2 (c1 _ (HM.out k _ HJ0.out))).mono ?_; clear c1; rintro e w1 ⟨rfl, q1, hq1⟩; have HJ1 : Hid (J k w1) := (by rw [hq1]; exact HJ.out k _ _ HJ0.out (Go.Proofs.below_drewN' (Below.refl _ _) q1)); clear hq1)
        | (refine ⟨trivial, ?_⟩; gi_at_call 39; refine (callsIn_wide.2 (c2 _ (HM.out k _ HJ1.out))).mono ?_; clear c2; rintro e w2 ⟨rfl, q2, hq2⟩; have HJ2 : Hid (J k w2) := (by rw [hq2]; exact HJ.out k _ _ HJ1.out (Go.Proofs.below_drewN' (Below.refl _ _) q2)); clear hq2)
        | (refine ⟨trivial, ?_⟩; gi_at_call 40; refine (callsIn_wide.2 (c3 _)).mono ?_; clear c3; rintro e w3 ⟨A, rfl, hrow, hb3⟩; have HJ3 : Hid (J k w3) := HJ.out k _ _ HJ2.out hb3; obtain ⟨fn, tmps, assign, body, hy, hR⟩ := HY.out k A ws w3 HJ3.out HWK.out hrow; unfold rowV at hy; unfold rowV; clear hb3 hrow))
      refine hR.mono ?_
      clear hR
      rintro e w4 (⟨rfl, hj4⟩ | ⟨rfl, hx4⟩)
      · have HJ4 := Lib.hid hj4
        clear hj4 hy
        gi_wp2
        go_roundw
        case rel =>
          refine ⟨rest, more, k + 1, rfl, rfl, HJ4.out, HBS.out, ?_⟩
          rcases HNX.out with ⟨h1, _, h2⟩ | ⟨h1, h2⟩
          · exact .inl ⟨h1, h2⟩
          · exact .inr ⟨h1, h2⟩
        case measure =>
          rcases HNX.out with ⟨h1, h3, h2⟩ | ⟨h1, h2⟩
          · rw [h1]
            simp only [if_true]
            omega
          · rw [h1]
            simp
      · have HX4 := Lib.hid hx4
        clear hx4 hy
        gi_wp2
        refine bodyPost_ret (results_none rfl _ _ _) rfl ?_
        exact ⟨⟨_, rfl⟩, .inr HX4.out⟩
end Go.Proofs.YtnghlhkgeahfmaaDoor
