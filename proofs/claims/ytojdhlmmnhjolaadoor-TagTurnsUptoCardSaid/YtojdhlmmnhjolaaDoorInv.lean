/- A region that draws its order, walked once for each operation: what holds whatever has come up so far (I), until a point (stop) from which the order is forced. No program stands in it. -/
import Derived.Orders
import Derived.RegionTactic
namespace Go.Proofs.YtojdhlmmnhjolaaDoor
open Go

theorem wpAny_inv {P : Program} {md : Region.Mode} {ops : Array Oper} {Q : Exit → Act → World → Prop} (I : Array Bool → Act → World → Prop) (stop : Array Bool → Bool)
    (hstep : ∀ listed a w, I listed a w → stop listed = false → ∀ i o, ops[i]? = some o → listed.getD i true = false → (∀ e ∈ o.after, Region.binds md e = true → listed.getD e.on false = true) →
      ∀ K' : Act → World → Prop, (∀ a' w', I (listed.setIfInBounds i true) a' w' → K' a' w') → if Region.wanted o (yielded ops a.tmps) = true then Oper.wp P o a w K' Q else K' (a.put o.dst undef) w)
    (hne : ∀ listed a w, I listed a w → stop listed = false → Region.ready md ops listed ≠ [])
    (hstop : ∀ listed a w, I listed a w → stop listed = true → wpAny P md ops Q (listed.toList.count false) listed a w) :
    ∀ n listed a w, listed.toList.count false = n → I listed a w → wpAny P md ops Q n listed a w
  | n, listed, a, w, hn, hI => by
    cases hs : stop listed with
    | true => rw [← hn]; exact hstop listed a w hI hs
    | false =>
      have hready := hne listed a w hI hs
      have hcount : ∀ i, listed.getD i true = false → (listed.setIfInBounds i true).toList.count false + 1 = listed.toList.count false := by
        intro i hi
        have hlt : i < listed.size := by
          rcases Nat.lt_or_ge i listed.size with h | h
          · exact h
          · simp [Array.getD, Nat.not_lt.2 h] at hi
        have hv : listed[i] = false := by simpa [Array.getD, hlt] using hi
        have hlt' : i < listed.toList.length := by simpa using hlt
        have hc := List.count_set (a := true) (b := false) (l := listed.toList) (i := i) hlt'
        have hpos : 0 < listed.toList.count false := by
          rw [List.count_pos_iff]
          rw [← hv]
          exact Array.mem_toList_iff.2 (Array.getElem_mem hlt)
        have hv' : listed.toList[i] = false := by simpa using hv
        rw [Array.toList_setIfInBounds, hc, hv', if_pos (show (false == false) = true from rfl), if_neg (show ¬ (true == false) = true by decide)]
        omega
      cases n with
      | zero =>
        exfalso
        cases hr : Region.ready md ops listed with
        | nil => exact hready hr
        | cons i r =>
          have hi : i ∈ Region.ready md ops listed := by rw [hr]; exact List.mem_cons_self
          have := hcount i (mem_ready.1 hi).1
          omega
      | succ n =>
        refine ⟨fun h0 => absurd h0 hready, fun i hi => ?_⟩
        obtain ⟨h1, o, ho, h2⟩ := mem_ready.1 hi
        refine wpOp_step ho fun K' hK' => hstep listed a w hI hs i o ho h1 h2 K' fun a' w' hI' => hK' a' w' ?_
        exact wpAny_inv I stop hstep hne hstop n _ a' w' (by have := hcount i h1; omega) hI'
end Go.Proofs.YtojdhlmmnhjolaaDoor
