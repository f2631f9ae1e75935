/- package lit: Number, Plain. -/
import Derived.Test.YtijinpnbhnfiiaaDoorLit7
import Derived.Test.YtijinpnbhnfiiaaDoorBase
namespace Go.Proofs.YtijinpnbhnfiiaaDoor
open Go.RowKit
set_option linter.unusedVariables false

theorem fits_number : ∀ args W, (callFunc 18 args).run Tryd.prog W = .ok (.enter 18 args) W := fun _ _ => by kernel_rfl

/-- What a text means as a number. -/
def numR (s : ByteArray) : ByteArray × Int := if 200 < s.size then (⟨#[]⟩, 12) else meantV (numberP s)
theorem numR_eq (s : ByteArray) : meantR s.size 200 (numberP s) = numR s := by
  unfold meantR numR
  by_cases h : 200 < s.size
  · rw [if_pos h, if_pos (by omega)]
  · rw [if_neg h, if_neg (by omega)]

theorem meant_number (s : ByteArray) (w : World) : Calls Tryd.prog 17 #[.string s, .int .i64 200, .func (.func 18) #[] #[]] w fun e w' => MeantEnds w (numR s) e w' := by
  by_cases h : 200 < s.size
  · have := meant_long s 200 18 (numberP s) w (by omega)
    rw [numR_eq] at this
    exact this
  · have := meant_any s 200 18 (numberP s) w fits_number (fun W _ => number_any s (by omega) W)
    rw [numR_eq] at this
    exact this

theorem num_any (s : ByteArray) (w : World) : Calls Tryd.prog 7 #[.string s] w fun e w' => MeantEnds w (numR s) e w' := by
  have H := Lib.hid (meant_number s w)
  generalize numR s = r at *
  go_enter Tryd.func7, Tryd.ntmps7
  go_wp2_with fail
  refine H.out.mono ?_
  rintro e w1 ⟨rfl, hb⟩
  have HB := Lib.hid hb
  clear hb
  go_wp2
  go_ret2
  exact ⟨rfl, HB.out⟩

/-- Are all signs from p on figures? -/
def plainF (s : ByteArray) : Nat → Nat → Bool
  | 0, _ => true
  | k + 1, p => if p < s.size then (if sig s p < 48 ∨ 57 < sig s p then false else plainF s k (p + wid s p)) else true
/-- Is it a number that is written plainly? -/
def plainB (s : ByteArray) : Bool := if s.size = 0 ∨ 200 < s.size ∨ (bt s 0 = 48 ∧ s.size ≠ 1) then false else plainF s s.size 0

theorem list_one (s : ByteArray) (h : bt s 0 = 48) (h0 : 0 < s.size) : (s.toList == [48]) = decide (s.size = 1) := by
  have hl : s.toList.length = s.size := by rw [ByteArray.toList_eq]; rfl
  by_cases h1 : s.size = 1
  · rw [decide_eq_true h1, beq_iff_eq]
    rw [h1] at hl
    obtain ⟨x, hx⟩ := List.length_eq_one_iff.1 hl
    have e := bt_list s 0 h0
    rw [show s.data.toList = s.toList by rw [ByteArray.toList_eq], hx, h] at e
    rw [hx]
    simpa using e
  · rw [decide_eq_false h1]
    cases e : (s.toList == [48])
    · rfl
    · have := beq_iff_eq.1 e
      rw [this] at hl
      exact absurd hl.symm h1

set_option maxHeartbeats 1000000 in
set_option maxRecDepth 100000 in
theorem plain_any (s : ByteArray) (w : World) : Calls Tryd.prog 9 #[.string s] w fun e w' => e = .returned (.bool (plainB s)) ∧ Below w.heap.size w w' := by
  have hel := empty_list s
  by_cases h0 : s.size = 0
  · have hp : plainB s = false := by unfold plainB; rw [if_pos (.inl h0)]
    rw [hp]
    rw [decide_eq_true h0] at hel
    go_enter Tryd.func9, Tryd.ntmps9
    go_wp2
    go_ret
    exact ⟨rfl, Below.refl _ w⟩
  rw [decide_eq_false h0] at hel
  have hs0 : 0 < s.size := by omega
  by_cases h2 : 200 < s.size
  · have hp : plainB s = false := by unfold plainB; rw [if_pos (.inr (.inl h2))]
    rw [hp]
    have g : decide ((200 : Int) < s.size) = true := decide_eq_true (by omega)
    go_enter Tryd.func9, Tryd.ntmps9
    go_wp2
    go_ret
    exact ⟨rfl, Below.refl _ w⟩
  have g : decide ((200 : Int) < s.size) = false := decide_eq_false (by omega)
  have eb := bt_eq s 0 hs0
  have hgo : plainB s = plainF s s.size 0 → (bt s 0 ≠ 48 ∨ s.size = 1) → True := fun _ _ => trivial
  clear hgo
  by_cases h48 : bt s 0 = 48 ∧ s.size ≠ 1
  · have hp : plainB s = false := by unfold plainB; rw [if_pos (.inr (.inr h48))]
    rw [hp]
    have h1 := list_one s h48.1 hs0
    rw [decide_eq_false h48.2] at h1
    rw [eb] at h48
    have q := h48.1
    clear h48 eb
    go_enter Tryd.func9, Tryd.ntmps9
    go_wp2
    go_ret
    exact ⟨rfl, Below.refl _ w⟩
  have hp : plainB s = plainF s s.size 0 := by unfold plainB; rw [if_neg (by omega)]
  rw [hp]
  generalize hres : plainF s s.size 0 = res
  have HRES := Lib.hid hres
  have hcase : ((((s[0].toNat : Nat) : Int) == 48) = true ∧ (s.toList == [48]) = true) ∨ (((s[0].toNat : Nat) : Int) == 48) = false := by
    by_cases hb : bt s 0 = 48
    · refine .inl ⟨by rw [← eb, hb]; rfl, ?_⟩
      rw [list_one s hb hs0, decide_eq_true (by omega)]
    · exact .inr (beq_eq_false_iff_ne.2 (by rw [← eb]; omega))
  clear hp hres eb h48
  rcases hcase with ⟨q1, q2⟩ | q1
  all_goals
    go_enter Tryd.func9, Tryd.ntmps9
    go_wp2
    go_loopw [4] (fun _ wr => ∃ p k : Nat, wr = w.iter s p ∧ p ≤ s.size ∧ s.size ≤ p + k ∧ Hid (plainF s k p = res)) (fun _ wr => s.size - wr.iterPos w.heap.size)
    case atStart => exact ⟨0, s.size, rfl, Nat.zero_le _, by omega, HRES⟩
    case round =>
      obtain ⟨p, k, rfl, hp, hk, HR⟩ := hrel
      by_cases hlt : p < s.size
      · have hnx : ∀ ty, (Instr.next (.pointer (some ⟨w.heap.size, 0, none⟩)) true ty).run Tryd.prog (w.iter s p) = _ := fun ty => run_next_any w s p ty hlt
        have hw := wid_pos s p
        have hwl := wid_le s p hlt
        obtain ⟨k, rfl⟩ : ∃ g, k = g + 1 := ⟨k - 1, by omega⟩
        have HR2 : Hid ((if sig s p < 48 ∨ 57 < sig s p then false else plainF s k (p + wid s p)) = res) := by
          show _ = _
          have e := HR.out
          rw [plainF, if_pos hlt] at e
          exact e
        have hqs : (Utf8.decode s p).1 = sig s p := rfl
        have hqw : (Utf8.decode s p).2 = wid s p := rfl
        rw [hqs, hqw] at hnx
        clear hqs hqw HR
        generalize sig s p = c at *
        generalize wid s p = wd at *
        by_cases hc : c < 48 ∨ 57 < c
        · have HE : Hid (false = res) := by show _ = _; rw [← HR2.out, if_pos hc]
          clear HR2
          have hcase : decide ((c : Int) < 48) = true ∨ (decide ((c : Int) < 48) = false ∧ decide ((57 : Int) < c) = true) := by
            by_cases h1 : c < 48
            · exact .inl (decide_eq_true (by omega))
            · exact .inr ⟨decide_eq_false (by omega), decide_eq_true (by omega)⟩
          rcases hcase with d1 | ⟨d1, d2⟩
          all_goals
            go_wp2
            go_ret
            rw [← HE.out]
            exact ⟨rfl, (Below.refl _ w).alloc (Nat.le_refl _) _⟩
        · have HE : Hid (plainF s k (p + wd) = res) := by show _ = _; rw [← HR2.out, if_neg hc]
          have d1 : decide ((c : Int) < 48) = false := decide_eq_false (by omega)
          have d2 : decide ((57 : Int) < c) = false := decide_eq_false (by omega)
          clear HR2
          go_wp2
          go_roundw
          case rel => exact ⟨p + wd, k, rfl, hwl, by omega, HE.out⟩
          case measure => simp; omega
      · have hnx : ∀ ty, (Instr.next (.pointer (some ⟨w.heap.size, 0, none⟩)) true ty).run Tryd.prog (w.iter s p) = _ := fun ty => run_next_end w s p ty hlt
        have HE : Hid (true = res) := by
          show _ = _
          rw [← HR.out]
          cases k with
          | zero => rfl
          | succ k => rw [plainF, if_neg hlt]
        go_wp2
        go_ret
        rw [← HE.out]
        exact ⟨rfl, (Below.refl _ w).alloc (Nat.le_refl _) _⟩
end Go.Proofs.YtijinpnbhnfiiaaDoor
