/- package lit: what is plain; package big: what is wide. -/
import Derived.Test.YtpdkebljacmgfaaDoorBig11
import Derived.Sort.Walk0
namespace Go.Proofs.YtpdkebljacmgfaaDoor
open Go.RowKit
set_option linter.unusedVariables false

theorem empty_list (s : ByteArray) : (s.toList == []) = decide (s.size = 0) := by
  have : s.toList.length = s.size := by rw [ByteArray.toList_eq]; rfl
  cases e : s.toList with
  | nil => rw [e] at this; rw [decide_eq_true (show s.size = 0 by simpa using this.symm)]; rfl
  | cons x l => rw [e] at this; rw [decide_eq_false (by simp at this; omega)]; rfl

/-- Are all signs from p on figures? -/
def plainF (s : ByteArray) : Nat → Nat → Bool
  | 0, _ => true
  | k + 1, p => if p < s.size then (if sig s p < 48 ∨ 57 < sig s p then false else plainF s k (p + wid s p)) else true
/-- Is it a number that is written plainly? -/
def plainB (s : ByteArray) : Bool := if s.size = 0 ∨ 200 < s.size ∨ (bt s 0 = 48 ∧ s.size ≠ 1) then false else plainF s s.size 0

theorem list_one (s : ByteArray) (h : bt s 0 = 48) (h0 : 0 < s.size) : (s.toList == [48]) = decide (s.size = 1) := by
  have hl : s.toList.length = s.size := by rw [ByteArray.toList_eq]; rfl
  by_cases h1 : s.size = 1
  · rw [decide_eq_true h1, beq_iff_eq]
    rw [h1] at hl
    obtain ⟨x, hx⟩ := List.length_eq_one_iff.1 hl
    have e := bt_list s 0 h0
    rw [show s.data.toList = s.toList by rw [ByteArray.toList_eq], hx, h] at e
    rw [hx]
    simpa using e
  · rw [decide_eq_false h1]
    cases e : (s.toList == [48])
    · rfl
    · have := beq_iff_eq.1 e
      rw [this] at hl
      exact absurd hl.symm h1

set_option maxHeartbeats 1000000 in
set_option maxRecDepth 100000 in
theorem plain_any (s : ByteArray) (w : World) : Calls Tryd.prog 62 #[.string s] w fun e w' => e = .returned (.bool (plainB s)) ∧ Below w.heap.size w w' := by
  have hel := empty_list s
  by_cases h0 : s.size = 0
  · have hp : plainB s = false := by unfold plainB; rw [if_pos (.inl h0)]
    rw [hp]
    rw [decide_eq_true h0] at hel
    go_enter Tryd.func62, Tryd.ntmps62
    go_wp2
    go_ret
    exact ⟨rfl, Below.refl _ w⟩
  rw [decide_eq_false h0] at hel
  have hs0 : 0 < s.size := by omega
  by_cases h2 : 200 < s.size
  · have hp : plainB s = false := by unfold plainB; rw [if_pos (.inr (.inl h2))]
    rw [hp]
    have g : decide ((200 : Int) < s.size) = true := decide_eq_true (by omega)
    go_enter Tryd.func62, Tryd.ntmps62
    go_wp2
    go_ret
    exact ⟨rfl, Below.refl _ w⟩
  have g : decide ((200 : Int) < s.size) = false := decide_eq_false (by omega)
  have eb := bt_eq s 0 hs0
  have hgo : plainB s = plainF s s.size 0 → (bt s 0 ≠ 48 ∨ s.size = 1) → True := fun _ _ => trivial
  clear hgo
  by_cases h48 : bt s 0 = 48 ∧ s.size ≠ 1
  · have hp : plainB s = false := by unfold plainB; rw [if_pos (.inr (.inr h48))]
    rw [hp]
    have h1 := list_one s h48.1 hs0
    rw [decide_eq_false h48.2] at h1
    rw [eb] at h48
    have q := h48.1
    clear h48 eb
    go_enter Tryd.func62, Tryd.ntmps62
    go_wp2
    go_ret
    exact ⟨rfl, Below.refl _ w⟩
  have hp : plainB s = plainF s s.size 0 := by unfold plainB; rw [if_neg (by omega)]
  rw [hp]
  generalize hres : plainF s s.size 0 = res
  have HRES := Lib.hid hres
  have hcase : ((((s[0].toNat : Nat) : Int) == 48) = true ∧ (s.toList == [48]) = true) ∨ (((s[0].toNat : Nat) : Int) == 48) = false := by
    by_cases hb : bt s 0 = 48
    · refine .inl ⟨by rw [← eb, hb]; rfl, ?_⟩
      rw [list_one s hb hs0, decide_eq_true (by omega)]
    · exact .inr (beq_eq_false_iff_ne.2 (by rw [← eb]; omega))
  clear hp hres eb h48
  rcases hcase with ⟨q1, q2⟩ | q1
  all_goals
    go_enter Tryd.func62, Tryd.ntmps62
    go_wp2
    go_loopw [4] (fun _ wr => ∃ p k : Nat, wr = w.iter s p ∧ p ≤ s.size ∧ s.size ≤ p + k ∧ Hid (plainF s k p = res)) (fun _ wr => s.size - wr.iterPos w.heap.size)
    case atStart => exact ⟨0, s.size, rfl, Nat.zero_le _, by omega, HRES⟩
    case round =>
      obtain ⟨p, k, rfl, hp, hk, HR⟩ := hrel
      by_cases hlt : p < s.size
      · have hnx : ∀ ty, (Instr.next (.pointer (some ⟨w.heap.size, 0, none⟩)) true ty).run Tryd.prog (w.iter s p) = _ := fun ty => run_next_any w s p ty hlt
        have hw := wid_pos s p
        have hwl := wid_le s p hlt
        obtain ⟨k, rfl⟩ : ∃ g, k = g + 1 := ⟨k - 1, by omega⟩
        have HR2 : Hid ((if sig s p < 48 ∨ 57 < sig s p then false else plainF s k (p + wid s p)) = res) := by
          show _ = _
          have e := HR.out
          rw [plainF, if_pos hlt] at e
          exact e
        have hqs : (Utf8.decode s p).1 = sig s p := rfl
        have hqw : (Utf8.decode s p).2 = wid s p := rfl
        rw [hqs, hqw] at hnx
        clear hqs hqw HR
        generalize sig s p = c at *
        generalize wid s p = wd at *
        by_cases hc : c < 48 ∨ 57 < c
        · have HE : Hid (false = res) := by show _ = _; rw [← HR2.out, if_pos hc]
          clear HR2
          have hcase : decide ((c : Int) < 48) = true ∨ (decide ((c : Int) < 48) = false ∧ decide ((57 : Int) < c) = true) := by
            by_cases h1 : c < 48
            · exact .inl (decide_eq_true (by omega))
            · exact .inr ⟨decide_eq_false (by omega), decide_eq_true (by omega)⟩
          rcases hcase with d1 | ⟨d1, d2⟩
          all_goals
            go_wp2
            go_ret
            rw [← HE.out]
            exact ⟨rfl, (Below.refl _ w).alloc (Nat.le_refl _) _⟩
        · have HE : Hid (plainF s k (p + wd) = res) := by show _ = _; rw [← HR2.out, if_neg hc]
          have d1 : decide ((c : Int) < 48) = false := decide_eq_false (by omega)
          have d2 : decide ((57 : Int) < c) = false := decide_eq_false (by omega)
          clear HR2
          go_wp2
          go_roundw
          case rel => exact ⟨p + wd, k, rfl, hwl, by omega, HE.out⟩
          case measure => simp; omega
      · have hnx : ∀ ty, (Instr.next (.pointer (some ⟨w.heap.size, 0, none⟩)) true ty).run Tryd.prog (w.iter s p) = _ := fun ty => run_next_end w s p ty hlt
        have HE : Hid (true = res) := by
          show _ = _
          rw [← HR.out]
          cases k with
          | zero => rfl
          | succ k => rw [plainF, if_neg hlt]
        go_wp2
        go_ret
        rw [← HE.out]
        exact ⟨rfl, (Below.refl _ w).alloc (Nat.le_refl _) _⟩

theorem plainF_all (s : ByteArray) : ∀ k p, s.size ≤ p + k → plainF s k p = (s.data.toList.drop p).all figB
  | 0, p, h => by
    rw [plainF, List.drop_of_length_le (by simp; omega)]
    rfl
  | k + 1, p, h => by
    rw [plainF]
    by_cases hp : p < s.size
    · have hd : s.data.toList.drop p = UInt8.ofNat (bt s p) :: s.data.toList.drop (p + 1) := by
        have hb := bt_list s p hp
        rw [List.drop_eq_getElem_cons (by simpa using hp)]
        rw [List.getElem?_eq_getElem (by simpa using hp)] at hb
        rw [Option.some.inj hb]
      have hlt := bt_lt s p
      have hn : (UInt8.ofNat (bt s p)).toNat = bt s p := by simp; omega
      rw [if_pos hp, hd, List.all_cons]
      unfold figB
      rw [hn]
      rcases sign_kind s p with ⟨e1, e2, e3⟩ | ⟨e1, e2, e3⟩
      · rw [e1, e2, plainF_all s k (p + 1) (by omega)]
        by_cases hc : bt s p < 48 ∨ 57 < bt s p
        · rw [if_pos hc, decide_eq_false (by omega), Bool.false_and]
        · rw [if_neg hc, decide_eq_true (by omega), Bool.true_and]
          rfl
      · rw [if_pos (by omega), decide_eq_false (by omega), Bool.false_and]
    · rw [if_neg hp, List.drop_of_length_le (by simp; omega)]
      rfl
theorem plain_row (s : ByteArray) : plainB s = (decide (s.size ≤ 200) && plainL s.data.toList) := by
  unfold plainB plainL
  have hlen : s.data.toList.length = s.size := by simp
  by_cases h0 : s.size = 0
  · rw [if_pos (.inl h0)]
    have : s.data.toList = [] := List.eq_nil_of_length_eq_zero (by omega)
    rw [this]
    simp
  by_cases h2 : 200 < s.size
  · rw [if_pos (.inr (.inl h2)), decide_eq_false (by omega), Bool.false_and]
  rw [decide_eq_true (by omega), Bool.true_and]
  have hb := bt_list s 0 (by omega)
  have hlt := bt_lt s 0
  have hF := plainF_all s s.size 0 (by omega)
  rw [List.drop_zero] at hF
  cases hl : s.data.toList with
  | nil => rw [hl] at hlen; simp at hlen; omega
  | cons c l =>
    rw [hl] at hb hlen hF
    have hc : c = UInt8.ofNat (bt s 0) := by simpa using hb
    have hc48 : c = 48 ↔ bt s 0 = 48 := by
      rw [hc]
      constructor
      · intro h; have := congrArg UInt8.toNat h; simp at this; omega
      · intro h; rw [h]; rfl
    by_cases h48 : bt s 0 = 48 ∧ s.size ≠ 1
    · rw [if_pos (.inr (.inr h48))]
      have h1 : c = 48 := hc48.2 h48.1
      subst h1
      have hl0 : l ≠ [] := fun e => by subst e; simp at hlen; omega
      cases l with
      | nil => exact absurd rfl hl0
      | cons x l => simp
    · rw [if_neg (by omega), hF]
      by_cases h1 : c = 48
      · have h3 : s.size = 1 := by
          rcases Decidable.em (s.size = 1) with h | h
          · exact h
          · exact absurd ⟨hc48.1 h1, h⟩ h48
        have : l = [] := List.eq_nil_of_length_eq_zero (by simp at hlen; omega)
        subst this h1
        simp
      · simp [h1]

/-! ### wide -/
theorem less_wide (f : ByteArray) (n : Nat) (h : ¬ f.data.toList < Lib.decDigits limN ↔ limN ≤ n) (L : List UInt8) (h1 : plainL L = true) (h2 : numL L = limN) : (!Op.bytesLess f.toList L) = decide (limN ≤ n) := by
  have e := dec_num L h1
  rw [h2] at e
  rw [← e, Proofs.bytesLess_eq, Lib.toList_data, Bool.eq_iff_iff, decide_eq_true_eq, ← h]
  simp
set_option maxRecDepth 100000 in
theorem wide_any (f : ByteArray) (n : Nat) (hf : f.data.toList = Lib.decDigits n) (w : World) :
    Calls Tryd.prog 46 #[.string f] w fun e w' => e = .returned (.bool (decide (limN ≤ n))) ∧ w = w' := by
  have hfs : f.size = Lib.nDigits n := by
    have := congrArg List.length hf
    rw [Lib.decDigits_length] at this
    simpa using this
  have hw := wide_iff n
  rw [← hfs, ← hf] at hw
  by_cases h : f.size = 155
  · rw [if_neg (by simpa using h)] at hw
    have g1 : (((f.size : Nat) : Int) != 155) = false := by rw [h]; rfl
    have HW := Lib.hid hw
    clear hw hf hfs h
    go_enter Tryd.func46, Tryd.ntmps46
    go_wp2
    go_ret
    exact ⟨congrArg (fun b => Ending.returned (Value.bool b)) (less_wide f n HW.out _ (by decide +kernel) (by decide +kernel)), rfl⟩
  · rw [if_pos h] at hw
    have g1 : (((f.size : Nat) : Int) != 155) = true := by simp; omega
    have g2 : decide ((155 : Int) < ((f.size : Nat) : Int)) = decide (limN ≤ n) := by
      rw [Bool.eq_iff_iff, decide_eq_true_eq, decide_eq_true_eq, ← hw]
      omega
    have HW := Lib.hid g2
    clear hw hf hfs h g2
    go_enter Tryd.func46, Tryd.ntmps46
    go_wp2
    go_ret
    exact ⟨congrArg (fun b => Ending.returned (Value.bool b)) HW.out, rfl⟩
end Go.Proofs.YtpdkebljacmgfaaDoor
