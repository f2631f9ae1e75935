/- demoticref03.Plain; demoticref09: below, signed, limit. -/
import Derived.Test.YtpdkebljacmgfaaDoorRef9c
namespace Go.Proofs.YtpdkebljacmgfaaDoor
open Go.RowKit
set_option linter.unusedVariables false

/-! ### Plain -/
/-- From k on: figures. -/
def figI (s : ByteArray) : Nat → Nat → Bool
  | 0, _ => true
  | f + 1, k => if k < s.size then (if bt s k < 48 ∨ 57 < bt s k then false else figI s f (k + 1)) else true
theorem plain_figI (s : ByteArray) : ∀ f p, s.size ≤ p + f → plainF s f p = figI s f p
  | 0, p, h => rfl
  | f + 1, p, h => by
    rw [plainF, figI]
    by_cases hp : p < s.size
    · rw [if_pos hp, if_pos hp]
      rcases sign_kind s p with ⟨e1, e2, e3⟩ | ⟨e1, e2, e3⟩
      · rw [e1, e2, plain_figI s f (p + 1) (by omega)]
      · rw [if_pos (by omega), if_pos (by omega)]
    · rw [if_neg hp, if_neg hp]

set_option maxHeartbeats 2000000 in
set_option maxRecDepth 100000 in
theorem ref3Plain_any (s : ByteArray) (hs : s.size ≤ 5000) (w : World) : Calls Tryd.prog 59 #[.string s] w fun e w' => e = .returned (.bool (plainB s)) ∧ w = w' := by
  have HP : Hid (plainB s = if s.size = 0 ∨ 200 < s.size ∨ (bt s 0 = 48 ∧ s.size ≠ 1) then false else figI s s.size 0) := by
    show _ = _
    unfold plainB
    rw [plain_figI s s.size 0 (by omega)]
  by_cases h0 : s.size = 0
  · have HE : Hid (plainB s = false) := by show _ = _; rw [HP.out, if_pos (.inl h0)]
    have g0 : ((s.size : Int) == 0) = true := by rw [h0]; rfl
    clear h0
    go_enter Tryd.func59, Tryd.ntmps59
    go_wp2
    go_ret
    rw [HE.out]
    exact ⟨rfl, rfl⟩
  have g0 : ((s.size : Int) == 0) = false := beq_eq_false_iff_ne.2 (by omega)
  by_cases h2 : 200 < s.size
  · have HE : Hid (plainB s = false) := by show _ = _; rw [HP.out, if_pos (.inr (.inl h2))]
    have g1 : decide ((200 : Int) < (s.size : Int)) = true := decide_eq_true (by omega)
    clear h0 h2
    go_enter Tryd.func59, Tryd.ntmps59
    go_wp2
    go_ret
    rw [HE.out]
    exact ⟨rfl, rfl⟩
  have g1 : decide ((200 : Int) < (s.size : Int)) = false := decide_eq_false (by omega)
  have hp : 0 < s.size := by omega
  have eb := bt_eq s 0 hp
  by_cases h48 : bt s 0 = 48 ∧ s.size ≠ 1
  · have HE : Hid (plainB s = false) := by show _ = _; rw [HP.out, if_pos (.inr (.inr h48))]
    have g2 : decide ((1 : Int) < (s.size : Int)) = true := decide_eq_true (by omega)
    have g3 : (((s[0].toNat : Nat) : Int) == 48) = true := by rw [← eb, h48.1]; rfl
    clear h0 h2 h48 eb
    go_enter Tryd.func59, Tryd.ntmps59
    go_wp2
    go_ret
    rw [HE.out]
    exact ⟨rfl, rfl⟩
  have HE : Hid (plainB s = figI s s.size 0) := by show _ = _; rw [HP.out, if_neg (by omega)]
  have hcase : decide ((1 : Int) < (s.size : Int)) = false ∨ (decide ((1 : Int) < (s.size : Int)) = true ∧ (((s[0].toNat : Nat) : Int) == 48) = false) := by
    by_cases h1 : s.size = 1
    · exact .inl (decide_eq_false (by omega))
    · exact .inr ⟨decide_eq_true (by omega), beq_eq_false_iff_ne.2 (by rw [← eb]; omega)⟩
  clear h0 h2 h48 eb
  rcases hcase with g2 | ⟨g2, g3⟩
  all_goals
    go_enter Tryd.func59, Tryd.ntmps59
    go_wp2
    go_loop [3] (fun v => ∃ k f : Nat, v = .int .i64 k ∧ k ≤ s.size ∧ s.size ≤ k + f ∧ Hid (figI s f k = figI s s.size 0)) (fun v => s.size - (intOf v).toNat)
    case atStart => exact ⟨0, s.size, rfl, Nat.zero_le _, by omega, rfl⟩
    case round =>
      obtain ⟨k, f, rfl, hk, hf, HR⟩ := hrel
      by_cases hlt : k < s.size
      · have gk : decide (k < s.size) = true := decide_eq_true hlt
        have ek := bt_eq s k hlt
        have lk := bt_lt s k
        obtain ⟨f, rfl⟩ : ∃ f', f = f' + 1 := ⟨f - 1, by omega⟩
        have HR2 : Hid ((if bt s k < 48 ∨ 57 < bt s k then false else figI s f (k + 1)) = figI s s.size 0) := by
          show _ = _
          have e := HR.out
          rw [figI, if_pos hlt] at e
          exact e
        clear HR
        by_cases hc : bt s k < 48 ∨ 57 < bt s k
        · have HX : Hid (figI s s.size 0 = false) := by show _ = _; rw [← HR2.out, if_pos hc]
          have hcc : decide (((s[k].toNat : Nat) : Int) < 48) = true ∨ (decide (((s[k].toNat : Nat) : Int) < 48) = false ∧ decide ((57 : Int) < ((s[k].toNat : Nat) : Int)) = true) := by
            rw [← ek]
            by_cases h : bt s k < 48
            · exact .inl (decide_eq_true (by omega))
            · exact .inr ⟨decide_eq_false (by omega), decide_eq_true (by omega)⟩
          clear hc ek lk
          rcases hcc with q1 | ⟨q1, q2⟩
          all_goals
            go_wp2
            go_ret
            rw [HE.out, HX.out]
            exact ⟨rfl, rfl⟩
        · have HX : Hid (figI s f (k + 1) = figI s s.size 0) := by show _ = _; rw [← HR2.out, if_neg hc]
          have q1 : decide (((s[k].toNat : Nat) : Int) < 48) = false := by rw [← ek]; exact decide_eq_false (by omega)
          have q2 : decide ((57 : Int) < ((s[k].toNat : Nat) : Int)) = false := by rw [← ek]; exact decide_eq_false (by omega)
          clear hc ek lk
          go_wp2
          go_round
          case rel => exact ⟨k + 1, f, by go_num, hlt, by omega, HX.out⟩
          case measure => simp [intOf]; omega
      · have gk : decide (k < s.size) = false := decide_eq_false hlt
        have HX : Hid (figI s s.size 0 = true) := by
          show _ = _
          rw [← HR.out]
          cases f with
          | zero => rfl
          | succ f => rw [figI, if_neg hlt]
        go_wp2
        go_ret
        rw [HE.out, HX.out]
        exact ⟨rfl, rfl⟩

/-! ### below -/
theorem lex_dec (s t : ByteArray) (n m : Nat) (hs : s.data.toList = Lib.decDigits n) (ht : t.data.toList = Lib.decDigits m) (h : s.size = t.size) : Op.bytesLess s.toList t.toList = decide (n < m) := by
  rw [Proofs.bytesLess_eq, Lib.toList_data, Lib.toList_data, Bool.eq_iff_iff, decide_eq_true_eq, decide_eq_true_eq, hs, ht,
    lex_num _ _ (by rw [Lib.decDigits_length, Lib.decDigits_length, ← text_size hs, ← text_size ht, h]) (dec_all _) (dec_all _), numL_dec, numL_dec]
theorem nd_mono {n m : Nat} (h : Lib.nDigits n < Lib.nDigits m) : n < m := by
  have h1 := Lib.lt_pow_nDigits n
  have h0 := Lib.nDigits_pos n
  rcases Nat.lt_or_ge n m with h2 | h2
  · exact h2
  · obtain ⟨k, hk⟩ : ∃ k, Lib.nDigits n = k + 1 := ⟨Lib.nDigits n - 1, by omega⟩
    rw [hk] at h1
    have := nd_le (Nat.lt_of_le_of_lt h2 h1)
    omega
set_option maxRecDepth 100000 in
theorem refBelow_any (s t : ByteArray) (n m : Nat) (hs : s.data.toList = Lib.decDigits n) (ht : t.data.toList = Lib.decDigits m) (w : World) :
    Calls Tryd.prog 40 #[.string s, .string t] w fun e w' => e = .returned (.bool (decide (n < m))) ∧ w = w' := by
  have e1 := text_size hs
  have e2 := text_size ht
  by_cases h : s.size = t.size
  · have HW := Lib.hid (lex_dec s t n m hs ht h)
    have g1 : ((s.size : Int) != (t.size : Int)) = false := by rw [h]; simp
    have g2 : (s.size != t.size) = false := by rw [h]; simp
    clear hs ht h e1 e2
    go_enter Tryd.func40, Tryd.ntmps40
    go_wp2
    go_ret
    exact ⟨congrArg (fun b => Ending.returned (Value.bool b)) HW.out, rfl⟩
  · have g1 : ((s.size : Int) != (t.size : Int)) = true := by simp; omega
    have g2 : (s.size != t.size) = true := by simp; omega
    have HW : Hid (decide (s.size < t.size) = decide (n < m)) := Lib.hid (by
      rw [Bool.eq_iff_iff, decide_eq_true_eq, decide_eq_true_eq]
      constructor
      · intro h2; exact nd_mono (by omega)
      · intro h2
        rcases Nat.lt_or_ge s.size t.size with h3 | h3
        · exact h3
        · have := nd_mono (n := m) (m := n) (by omega); omega)
    clear hs ht h e1 e2
    go_enter Tryd.func40, Tryd.ntmps40
    go_wp2
    go_ret
    exact ⟨congrArg (fun b => Ending.returned (Value.bool b)) HW.out, rfl⟩

/-! ### signed -/
theorem nought_list (s : ByteArray) (n : Nat) (hs : s.data.toList = Lib.decDigits n) : (s.toList == [48]) = decide (n = 0) := one_nought s n hs
theorem itoa_neg {n : Nat} (h : n ≠ 0) : Lib.itoa (-(n : Int)) = 45 :: Lib.decDigits n := by
  unfold Lib.itoa
  rw [if_pos (by omega), show (-(n : Int)).natAbs = n by omega]
theorem itoa_nat (n : Nat) : Lib.itoa (n : Int) = Lib.decDigits n := by
  unfold Lib.itoa
  rw [if_neg (by omega), Int.toNat_natCast]
set_option maxRecDepth 100000 in
theorem refSigned_any (s : ByteArray) (n : Nat) (hs : s.data.toList = Lib.decDigits n) (b : Bool) (h1 : s.size ≤ 5000) (w : World) :
    Calls Tryd.prog 52 #[.string s, .bool b] w fun e w' => e = .returned (.string ⟨(Lib.itoa (if b then -(n : Int) else n)).toArray⟩) ∧ w = w' := by
  have h0 := nought_list s n hs
  have HS := Lib.hid hs
  clear hs
  cases b with
  | false =>
    have HR : Hid (s = ⟨(Lib.itoa (n : Int)).toArray⟩) := Lib.hid (by rw [itoa_nat]; exact bytes_of HS.out)
    go_enter Tryd.func52, Tryd.ntmps52
    go_wp2
    go_ret
    exact ⟨congrArg (fun b => Ending.returned (Value.string b)) HR.out, rfl⟩
  | true =>
    by_cases hn : n = 0
    · have HR : Hid (s = ⟨(Lib.itoa (-(n : Int))).toArray⟩) := Lib.hid (by subst hn; exact bytes_of (HS.out.trans (itoa_nat 0).symm))
      rw [decide_eq_true hn] at h0
      clear hn
      go_enter Tryd.func52, Tryd.ntmps52
      go_wp2
      go_ret
      exact ⟨congrArg (fun b => Ending.returned (Value.string b)) HR.out, rfl⟩
    · have HR : Hid ((⟨#[45]⟩ : ByteArray) ++ s = ⟨(Lib.itoa (-(n : Int))).toArray⟩) := Lib.hid (by rw [sign_cat, itoa_neg hn, HS.out])
      rw [decide_eq_false hn] at h0
      clear hn
      go_enter Tryd.func52, Tryd.ntmps52
      go_wp2
      go_ret
      exact ⟨congrArg (fun b => Ending.returned (Value.string b)) HR.out, rfl⟩

/-! ### limit -/
def dbN : Nat → Nat
  | 0 => 1
  | k + 1 => dbN k + dbN k
theorem dbN_mono : ∀ (k d : Nat), dbN k ≤ dbN (k + d)
  | k, 0 => Nat.le_refl _
  | k, d + 1 => by
    have := dbN_mono k d
    show _ ≤ dbN (k + d) + dbN (k + d)
    omega
theorem dbN_512 : dbN 512 = limN := by decide +kernel
theorem dbN_nd {k : Nat} (h : k ≤ 512) : Lib.nDigits (dbN k) ≤ 160 := nd_le (k := 159) (by
  have := dbN_mono k (512 - k)
  rw [show k + (512 - k) = 512 by omega, dbN_512] at this
  exact Nat.lt_of_le_of_lt this (by decide +kernel))
set_option maxRecDepth 100000 in
theorem refLimit_any (w : World) : Calls Tryd.prog 43 #[] w fun e w' => e = .returned (.string ⟨(Lib.decDigits limN).toArray⟩) ∧ Below w.heap.size w w' := by
  have H0 : Hid ((⟨#[49]⟩ : ByteArray).data.toList = Lib.decDigits (dbN 0)) := Lib.hid (by
    show ([49] : List UInt8) = _
    rw [show dbN 0 = 1 from rfl]
    exact (Lib.decDigits_one (show (1 : Nat) < 10 by omega)).symm)
  go_enter Tryd.func43, Tryd.ntmps43
  go_wp2
  go_loopw [1, 2] (fun sv kv wr => ∃ (k : Nat) (u : ByteArray), sv = .string u ∧ kv = .int .i64 k ∧ k ≤ 512 ∧ Hid (u.data.toList = Lib.decDigits (dbN k)) ∧ Hid (Below w.heap.size w wr)) (fun _ kv _ => 512 - (intOf kv).toNat)
  case atStart => exact ⟨0, _, rfl, rfl, by omega, H0, Lib.hid (Below.refl _ _)⟩
  case round =>
    clear H0
    obtain ⟨k, u, rfl, rfl, hk, HU, HB⟩ := hrel
    by_cases hlt : k < 512
    · have CS := Lib.hid (refAdd_any u u (dbN k) (dbN k) HU.out HU.out (by rw [text_size HU.out]; have := dbN_nd hk; omega) (by rw [text_size HU.out]; have := dbN_nd hk; omega) wr)
      go_wp2_with fail
      refine CS.out.mono ?_
      rintro e w2 ⟨rfl, hb⟩
      have HB2 := Lib.hid (HB.out.trans (hb.mono HB.out.size))
      clear hb CS
      go_wp2
      go_roundw
      case rel => exact ⟨k + 1, _, rfl, by go_num, by omega, Lib.hid rfl, HB2⟩
      case measure => simp [intOf]; omega
    · obtain rfl : k = 512 := by omega
      have HR : Hid (u = ⟨(Lib.decDigits limN).toArray⟩) := Lib.hid (by rw [← dbN_512]; exact bytes_of HU.out)
      go_wp2
      go_ret
      exact ⟨congrArg (fun b => Ending.returned (Value.string b)) HR.out, HB.out⟩
end Go.Proofs.YtpdkebljacmgfaaDoor
