/- The document's scanner: note, quoted, ends, sign. -/
import Derived.Test.YthpengbglbgidaaDoorTok17
import Derived.Test.YthpengbglbgidaaDoorTok31
namespace Go.Proofs.YthpengbglbgidaaDoor
open Go.RowKit Go.Joins
set_option linter.unusedVariables false

/-- The bytes are there. -/
theorem Text.bytes {w : World} {a : Option Addr} {s : ByteArray} (h : Text w a s) (h0 : 0 < s.size) : ∃ b o, a = some ⟨b, o, none⟩ ∧ b < w.heap.size ∧ ∀ k, k < s.size → w.cell? ⟨b, o + k, none⟩ = some (.int .u8 (bt s k)) := by
  rcases h with h | ⟨b, o, rfl, hlt, h⟩
  · omega
  · exact ⟨b, o, rfl, hlt, fun k hk => Text.byte h k hk⟩

theorem eqT (n : Nat) (c : Int) (h : (n : Int) = c) : ((n : Int) == c) = true ∧ ((n : Int) != c) = false := by rw [h]; simp
theorem eqF (n : Nat) (c : Int) (h : ¬ (n : Int) = c) : ((n : Int) == c) = false ∧ ((n : Int) != c) = true := by simp [h]

set_option maxHeartbeats 1000000 in
theorem refNote_any (s : ByteArray) (a : Option Addr) (cap p : Nat) (w : World) (hs : s.size ≤ 65536) (hp : p < s.size) (ht : Text w a s) :
    Calls Tryd.prog 13 #[.slice a s.size cap, .int .i64 p] w fun e w' => e = .returned (.int .i64 (noteI s p)) ∧ w = w' := by
  obtain ⟨b, o, rfl, hlt, hc⟩ := ht.bytes (by omega)
  have HC := Lib.hid hc
  have HN : Hid (noteI s p = if s.size < p + 2 ∨ bt s p ≠ 47 then 0 else if bt s (p + 1) = 47 then (runB s noEnd s.size p : Int) else if bt s (p + 1) ≠ 42 then 0 else closeI s s.size (p + 4)) := rfl
  clear hc ht
  have c0 := HC.out p hp
  have l0 := bt_lt s p
  by_cases h2 : p + 2 ≤ s.size
  case neg =>
    have HE : Hid (noteI s p = 0) := by show _ = _; rw [HN.out, if_pos (.inl (by omega))]
    go_enter Tryd.func13, Tryd.ntmps13
    go_wp2
    go_ret
    rw [HE.out]
    exact ⟨rfl, rfl⟩
  have c1 := HC.out (p + 1) (by omega)
  have l1 := bt_lt s (p + 1)
  by_cases h47 : bt s p = 47
  case neg =>
    obtain ⟨g1, g2⟩ := eqF (bt s p) 47 (by omega)
    have HE : Hid (noteI s p = 0) := by show _ = _; rw [HN.out, if_pos (.inr h47)]
    go_enter Tryd.func13, Tryd.ntmps13
    go_wp2
    go_ret
    rw [HE.out]
    exact ⟨rfl, rfl⟩
  obtain ⟨g1, g2⟩ := eqT (bt s p) 47 (by omega)
  have H47 := Lib.hid h47
  clear h47
  by_cases q47 : bt s (p + 1) = 47
  · obtain ⟨e1, e2⟩ := eqT (bt s (p + 1)) 47 (by omega)
    have HE : Hid (noteI s p = (runB s noEnd s.size p : Int)) := by show _ = _; rw [HN.out, if_neg (by have := H47.out; omega), if_pos q47]
    clear q47
    go_enter Tryd.func13, Tryd.ntmps13
    go_wp2
    go_loop [5] (fun v => ∃ k f : Nat, v = .int .i64 k ∧ p ≤ k ∧ k ≤ s.size ∧ s.size ≤ k + f ∧ Hid (runB s noEnd f k = runB s noEnd s.size p)) (fun v => s.size - (intOf v).toNat)
    case atStart => exact ⟨p, s.size, rfl, Nat.le_refl _, by omega, by omega, rfl⟩
    case round =>
      obtain ⟨k, f, rfl, hpk, hk, hf, HR⟩ := hrel
      by_cases hlt2 : k < s.size
      · have ck := HC.out k hlt2
        have gk : decide (k < s.size) = true := decide_eq_true hlt2
        have lk := bt_lt s k
        by_cases q10 : bt s k = 10
        · obtain ⟨i1, i2⟩ := eqT (bt s k) 10 (by omega)
          have HX : Hid (runB s noEnd s.size p = k) := by show _ = _; rw [← HR.out]; exact runB_stop _ _ _ _ (.inr (by rw [q10]; rfl))
          clear q10
          go_wp2
          go_ret
          rw [HE.out, HX.out]
          exact ⟨rfl, rfl⟩
        · obtain ⟨i1, i2⟩ := eqF (bt s k) 10 (by omega)
          have HX : Hid (runB s noEnd s.size (k + 1) = runB s noEnd s.size p) := by show _ = _; rw [← HR.out]; exact (runB_step s noEnd f s.size k hlt2 (by unfold noEnd; rw [i1]; rfl) hf (by omega)).symm
          clear q10
          go_wp2
          go_round
          case rel => exact ⟨k + 1, s.size, by go_num, by omega, hlt2, by omega, HX.out⟩
          case measure => simp [intOf]; omega
      · have gk : decide (k < s.size) = false := decide_eq_false hlt2
        have HX : Hid (runB s noEnd s.size p = k) := by show _ = _; rw [← HR.out]; exact runB_stop _ _ _ _ (.inl (by omega))
        go_wp2
        go_ret
        rw [HE.out, HX.out]
        exact ⟨rfl, rfl⟩
  obtain ⟨e1, e2⟩ := eqF (bt s (p + 1)) 47 (by omega)
  by_cases q42 : bt s (p + 1) = 42
  case neg =>
    obtain ⟨u1, u2⟩ := eqF (bt s (p + 1)) 42 (by omega)
    have HE : Hid (noteI s p = 0) := by show _ = _; rw [HN.out, if_neg (by have := H47.out; omega), if_neg q47, if_pos q42]
    clear q47 q42
    go_enter Tryd.func13, Tryd.ntmps13
    go_wp2
    go_ret
    rw [HE.out]
    exact ⟨rfl, rfl⟩
  obtain ⟨u1, u2⟩ := eqT (bt s (p + 1)) 42 (by omega)
  have HE : Hid (noteI s p = closeI s s.size (p + 4)) := by show _ = _; rw [HN.out, if_neg (by have := H47.out; omega), if_neg q47, if_neg (fun h => h q42)]
  clear q47 q42
  go_enter Tryd.func13, Tryd.ntmps13
  go_wp2
  go_loop [6] (fun v => ∃ k f : Nat, v = .int .i64 ((k : Int) + 2) ∧ p + 2 ≤ k ∧ k ≤ s.size ∧ s.size < k + 2 + f ∧ Hid (closeI s f (k + 2) = closeI s s.size (p + 4))) (fun v => s.size + 1 - (intOf v).toNat)
  case atStart => exact ⟨p + 2, s.size, by go_num, Nat.le_refl _, by omega, by omega, rfl⟩
  case round =>
    obtain ⟨k, f, rfl, hpk, hk, hf, HR⟩ := hrel
    by_cases hlt2 : k + 2 ≤ s.size
    · have ck := HC.out k (by omega)
      have ck1 := HC.out (k + 1) (by omega)
      have lk := bt_lt s k
      have lk1 := bt_lt s (k + 1)
      obtain ⟨f, rfl⟩ : ∃ f', f = f' + 1 := ⟨f - 1, by omega⟩
      have HR2 : Hid ((if bt s k = 42 ∧ bt s (k + 1) = 47 then (((k + 2 : Nat)) : Int) else closeI s f (k + 2 + 1)) = closeI s s.size (p + 4)) := by
        show _ = _
        have e := HR.out
        rw [closeI, if_pos hlt2] at e
        exact e
      clear HR
      have s1 : (k : Int) + 2 - 2 = k := by omega
      have s2 : (k : Int) + 2 - 1 = ((k + 1 : Nat) : Int) := by omega
      by_cases v1 : bt s k = 42
      · obtain ⟨i1, i2⟩ := eqT (bt s k) 42 (by omega)
        by_cases v2 : bt s (k + 1) = 47
        · obtain ⟨i3, i4⟩ := eqT (bt s (k + 1)) 47 (by omega)
          have HX : Hid (closeI s s.size (p + 4) = ((k + 2 : Nat) : Int)) := by show _ = _; rw [← HR2.out, if_pos ⟨v1, v2⟩]
          clear v1 v2
          go_wp2
          go_ret
          rw [HE.out, HX.out]
          exact ⟨rfl, rfl⟩
        · obtain ⟨i3, i4⟩ := eqF (bt s (k + 1)) 47 (by omega)
          have HX : Hid (closeI s f (k + 1 + 2) = closeI s s.size (p + 4)) := by show _ = _; rw [← HR2.out, if_neg (by omega)]
          clear v1 v2
          go_wp2
          go_round
          case rel => exact ⟨k + 1, f, by go_num, by omega, by omega, by omega, HX.out⟩
          case measure => simp [intOf]; omega
      · obtain ⟨i1, i2⟩ := eqF (bt s k) 42 (by omega)
        have HX : Hid (closeI s f (k + 1 + 2) = closeI s s.size (p + 4)) := by show _ = _; rw [← HR2.out, if_neg (by omega)]
        clear v1
        go_wp2
        go_round
        case rel => exact ⟨k + 1, f, by go_num, by omega, by omega, by omega, HX.out⟩
        case measure => simp [intOf]; omega
    · have HX : Hid (closeI s s.size (p + 4) = -1) := by
        show _ = _
        rw [← HR.out]
        cases f with
        | zero => rfl
        | succ f => rw [closeI, if_neg hlt2]
      go_wp2
      go_ret
      rw [HE.out, HX.out]
      exact ⟨rfl, rfl⟩
end Go.Proofs.YthpengbglbgidaaDoor
