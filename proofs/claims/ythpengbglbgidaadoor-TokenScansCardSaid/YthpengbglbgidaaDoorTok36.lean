/- The document's scanner: quoted, ends. -/
import Derived.Test.YthpengbglbgidaaDoorTok35
import Derived.BigQuiet
import Derived.Deep.QuietTactic
namespace Go.Proofs.YthpengbglbgidaaDoor
open Go.RowKit Go.Joins
set_option linter.unusedVariables false

theorem eqN (a b : Nat) (h : a = b) : ((a : Int) == (b : Int)) = true ∧ ((a : Int) != (b : Int)) = false := by rw [h]; simp
theorem neN (a b : Nat) (h : a ≠ b) : ((a : Int) == (b : Int)) = false ∧ ((a : Int) != (b : Int)) = true := by
  have : ¬ (a : Int) = (b : Int) := by omega
  simp [this]

/-- The bytes stand in w. -/
def Cells (w : World) (b o : Nat) (s : ByteArray) : Prop := b < w.heap.size ∧ ∀ k, k < s.size → w.cell? ⟨b, o + k, none⟩ = some (.int .u8 (bt s k))
theorem Cells.below {w W : World} {b o : Nat} {s : ByteArray} (h : Cells w b o s) (hb : Below w.heap.size w W) : Cells W b o s :=
  ⟨Nat.lt_of_lt_of_le h.1 hb.size, fun k hk => (hb.cell (p := ⟨b, o + k, none⟩) h.1).trans (h.2 k hk)⟩
theorem below_nq (w : World) (n : Nat) : Below w.heap.size w (w.drewN n) := ⟨rfl, rfl, rfl, Nat.le_refl _, fun _ _ => rfl⟩

set_option maxHeartbeats 2000000 in
theorem refQuoted_any (s : ByteArray) (a : Option Addr) (cap p : Nat) (w : World) (hs : s.size ≤ 65536) (hp : p < s.size) (ht : Text w a s) :
    Calls Tryd.prog 17 #[.slice a s.size cap, .int .i64 p] w fun e w' => e = .returned (.int .i64 (quoteI s (bt s p) s.size (p + 1))) ∧ Below w.heap.size w w' := by
  obtain ⟨b, o, rfl, hlt, hc⟩ := ht.bytes (by omega)
  have HC : Hid (Cells w b o s) := ⟨hlt, hc⟩
  clear hc ht
  have l0 := bt_lt s p
  go_enter Tryd.func17, Tryd.ntmps17
  go_wp2
  go_loopw [5] (fun v wr => ∃ k f : Nat, v = .int .i64 k ∧ p < k ∧ k ≤ s.size + 1 ∧ s.size < k + f ∧ Hid (quoteI s (bt s p) f k = quoteI s (bt s p) s.size (p + 1)) ∧ Hid (Below w.heap.size w wr)) (fun v _ => s.size + 1 - (intOf v).toNat)
  case atStart => exact ⟨p + 1, s.size, by go_num, by omega, by omega, by omega, rfl, Below.refl _ _⟩
  case round =>
    obtain ⟨k, f, rfl, hpk, hk, hf, HR, HB⟩ := hrel
    by_cases hlt2 : k < s.size
    · have hcr := HC.out.below HB.out
      have c0 := hcr.2 p hp
      have ck := hcr.2 k hlt2
      have HCR := Lib.hid hcr
      clear hcr
      have lk := bt_lt s k
      have gk : decide (k < s.size) = true := decide_eq_true hlt2
      obtain ⟨f, rfl⟩ : ∃ f', f = f' + 1 := ⟨f - 1, by omega⟩
      have HR2 : Hid ((if bt s p = 34 ∧ bt s k = 10 then -1 else if bt s k = bt s p then ((k + 1 : Nat) : Int) else if bt s p = 34 ∧ bt s k = 92 then (if k + 1 < s.size ∧ bt s (k + 1) = 10 then -1 else quoteI s (bt s p) f (k + 2)) else quoteI s (bt s p) f (k + 1)) = quoteI s (bt s p) s.size (p + 1)) := by
        show _ = _
        have e := HR.out
        rw [quoteI, if_pos hlt2] at e
        exact e
      clear HR
      have HBn : Hid (∀ n, Below w.heap.size w (wr.drewN n)) := fun n => HB.out.trans ((below_nq wr n).mono HB.out.size)
      by_cases q34 : bt s p = 34
      · obtain ⟨i1, i2⟩ := eqT (bt s p) 34 (by omega)
        have Q34 := Lib.hid q34
        by_cases v10 : bt s k = 10
        · obtain ⟨i3, i4⟩ := eqT (bt s k) 10 (by omega)
          have HX : Hid (quoteI s (bt s p) s.size (p + 1) = -1) := by show _ = _; rw [← HR2.out, if_pos ⟨q34, v10⟩]
          clear v10 q34
          go_wp2
          go_ret
          exact ⟨by rw [HX.out]; rfl, HB.out⟩
        obtain ⟨i3, i4⟩ := eqF (bt s k) 10 (by omega)
        by_cases vq : bt s k = bt s p
        · obtain ⟨i5, i6⟩ := eqN (bt s k) (bt s p) vq
          have HX : Hid (quoteI s (bt s p) s.size (p + 1) = ((k + 1 : Nat) : Int)) := by show _ = _; rw [← HR2.out, if_neg (by omega), if_pos vq]
          clear v10 vq q34
          go_wp2_with fail
          go_quiet (fail)
          go_wp2
          go_ret
          exact ⟨by rw [HX.out]; rfl, (HBn.out _)⟩
        obtain ⟨i5, i6⟩ := neN (bt s k) (bt s p) vq
        by_cases v92 : bt s k = 92
        · obtain ⟨i7, i8⟩ := eqT (bt s k) 92 (by omega)
          have HR3 : Hid ((if k + 1 < s.size ∧ bt s (k + 1) = 10 then -1 else quoteI s (bt s p) f (k + 2)) = quoteI s (bt s p) s.size (p + 1)) := by
            show _ = _
            rw [← HR2.out, if_neg (show ¬ (bt s p = 34 ∧ bt s k = 10) by omega), if_neg vq, if_pos (show bt s p = 34 ∧ bt s k = 92 from ⟨q34, v92⟩)]
          clear HR2
          by_cases hk1 : k + 1 < s.size
          · have ck1 := HCR.out.2 (k + 1) hk1
            have lk1 := bt_lt s (k + 1)
            have gk1 : decide (k + 1 < s.size) = true := decide_eq_true hk1
            by_cases v10b : bt s (k + 1) = 10
            · obtain ⟨i9, i10⟩ := eqT (bt s (k + 1)) 10 (by omega)
              have HX : Hid (quoteI s (bt s p) s.size (p + 1) = -1) := by show _ = _; rw [← HR3.out, if_pos ⟨hk1, v10b⟩]
              clear v10 vq q34 v92 v10b
              go_wp2_with fail
              go_quiet (fail)
              go_wp2
              go_ret
              exact ⟨by rw [HX.out]; rfl, (HBn.out _)⟩
            · obtain ⟨i9, i10⟩ := eqF (bt s (k + 1)) 10 (by omega)
              have HX : Hid (quoteI s (bt s p) f (k + 2) = quoteI s (bt s p) s.size (p + 1)) := by show _ = _; rw [← HR3.out, if_neg (by omega)]
              clear v10 vq q34 v92 v10b
              go_wp2_with fail
              go_quiet (fail)
              go_wp2
              go_roundw
              case rel => exact ⟨k + 2, f, by go_num, by omega, by omega, by omega, HX.out, HBn.out _⟩
              case measure => simp [intOf]; omega
          · have gk1 : decide (k + 1 < s.size) = false := decide_eq_false hk1
            have HX : Hid (quoteI s (bt s p) f (k + 2) = quoteI s (bt s p) s.size (p + 1)) := by show _ = _; rw [← HR3.out, if_neg (by omega)]
            clear v10 vq q34 v92
            go_wp2_with fail
            go_quiet (fail)
            go_wp2
            go_roundw
            case rel => exact ⟨k + 2, f, by go_num, by omega, by omega, by omega, HX.out, HBn.out _⟩
            case measure => simp [intOf]; omega
        · obtain ⟨i7, i8⟩ := eqF (bt s k) 92 (by omega)
          have HX : Hid (quoteI s (bt s p) f (k + 1) = quoteI s (bt s p) s.size (p + 1)) := by show _ = _; rw [← HR2.out, if_neg (by omega), if_neg vq, if_neg (by omega)]
          clear v10 vq q34 v92
          go_wp2_with fail
          go_quiet (fail)
          go_wp2
          go_roundw
          case rel => exact ⟨k + 1, f, by go_num, by omega, by omega, by omega, HX.out, HBn.out _⟩
          case measure => simp [intOf]; omega
      · obtain ⟨i1, i2⟩ := eqF (bt s p) 34 (by omega)
        by_cases vq : bt s k = bt s p
        · obtain ⟨i5, i6⟩ := eqN (bt s k) (bt s p) vq
          have HX : Hid (quoteI s (bt s p) s.size (p + 1) = ((k + 1 : Nat) : Int)) := by show _ = _; rw [← HR2.out, if_neg (by omega), if_pos vq]
          clear vq q34
          go_wp2_with fail
          go_quiet (fail)
          go_wp2
          go_ret
          exact ⟨by rw [HX.out]; rfl, (HBn.out _)⟩
        obtain ⟨i5, i6⟩ := neN (bt s k) (bt s p) vq
        have HX : Hid (quoteI s (bt s p) f (k + 1) = quoteI s (bt s p) s.size (p + 1)) := by show _ = _; rw [← HR2.out, if_neg (by omega), if_neg vq, if_neg (by omega)]
        clear vq q34
        go_wp2_with fail
        go_quiet (fail)
        go_wp2
        go_roundw
        case rel => exact ⟨k + 1, f, by go_num, by omega, by omega, by omega, HX.out, HBn.out _⟩
        case measure => simp [intOf]; omega
    · have gk : decide (k < s.size) = false := decide_eq_false hlt2
      have HX : Hid (quoteI s (bt s p) s.size (p + 1) = -1) := by show _ = _; rw [← HR.out]; exact quoteI_past _ _ _ _ (by omega)
      go_wp2
      go_ret
      exact ⟨by rw [HX.out]; rfl, HB.out⟩
end Go.Proofs.YthpengbglbgidaaDoor
