/- The document's answer: whether a text is a path, sign by sign. -/
import Derived.Test.YtnghlhkgeahfmaaDoorVer19
namespace Go.Proofs.YtnghlhkgeahfmaaDoor
open Go.RowKit
set_option linter.unusedVariables false

theorem goP_cons (b : Bool) (s : ByteArray) (i : Nat) (h : i < s.size) : goP b ((ls s).drop i) = if bt s i = 47 then b && goP false ((ls s).drop (i + 1)) else pathN (bt s i) && goP true ((ls s).drop (i + 1)) := by
  obtain ⟨c, e1, e2⟩ := ls_drop s i h
  rw [e1, goP, ← e2]
  by_cases hc : c = 47
  · rw [if_pos hc, if_pos (by rw [hc]; rfl)]
  · rw [if_neg hc, if_neg (show ¬ c.toNat = 47 from fun e => hc (UInt8.toNat_inj.1 e))]
/-- What stands just ahead is no stroke. -/
def okB (s : ByteArray) (i : Nat) : Bool := decide (0 < i ∧ bt s (i - 1) ≠ 47)

theorem goP_last (s : ByteArray) (hz : 0 < s.size) (h : goP false (ls s) = true) : bt s (s.size - 1) ≠ 47 := by
  have key : ∀ (l : List UInt8) (b : Bool), l ≠ [] → goP b l = true → l[l.length - 1]? ≠ some 47 := by
    intro l
    induction l with
    | nil => intro b h; exact absurd rfl h
    | cons c t ih =>
      intro b _ hg
      rw [goP] at hg
      cases t with
      | nil =>
        split at hg
        · simp [goP] at hg
        · rename_i hc; simpa using hc
      | cons d r =>
        have : (c :: d :: r)[(c :: d :: r).length - 1]? = (d :: r)[(d :: r).length - 1]? := by simp
        rw [this]
        split at hg
        · rw [Bool.and_eq_true] at hg; exact ih _ (by simp) hg.2
        · rw [Bool.and_eq_true] at hg; exact ih _ (by simp) hg.2
  intro e
  have hl := ls_len s
  have hne : ls s ≠ [] := fun h0 => by rw [h0] at hl; simp at hl; omega
  obtain ⟨c, g1, g2⟩ := ls_at s (s.size - 1) (by omega)
  have := key (ls s) false hne h
  rw [hl, g1] at this
  exact this (by congr 1; apply UInt8.toNat_inj.1; rw [g2, e]; rfl)

set_option maxHeartbeats 1000000 in
set_option maxRecDepth 100000 in
theorem refPath_any (s : ByteArray) (hs : s.size ≤ 1000000) (w : World) : Calls Tryd.prog 13 #[.string s] w fun e w' => e = .returned (.bool (pathL (ls s))) ∧ w = w' := by
  by_cases h0 : s.size = 0
  · have HE : Hid (pathL (ls s) = false) := by
      have hl : ls s = [] := List.eq_nil_of_length_eq_zero (by rw [ls_len]; exact h0)
      show _ = _
      rw [hl]; rfl
    have g0 : ((s.size : Int) == 0) = true := by rw [h0]; rfl
    clear h0
    go_enter Tryd.func13, Tryd.ntmps13
    go_wp2
    go_ret
    rw [HE.out]
    exact ⟨rfl, rfl⟩
  have g0 : ((s.size : Int) == 0) = false := by rw [beq_eq_false_iff_ne]; omega
  by_cases h2 : 200 < s.size
  · have HE : Hid (pathL (ls s) = false) := by show _ = _; unfold pathL; rw [ls_len, decide_eq_false (by omega)]; rfl
    have g1 : decide ((200 : Int) < (s.size : Int)) = true := by simp; omega
    clear h2 h0
    go_enter Tryd.func13, Tryd.ntmps13
    go_wp2
    go_ret
    rw [HE.out]
    exact ⟨rfl, rfl⟩
  have g1 : decide ((200 : Int) < (s.size : Int)) = false := by simp; omega
  have HE : Hid (pathL (ls s) = goP false (ls s)) := by show _ = _; rw [pathL_go, ls_len, decide_eq_true (by omega)]; rfl
  have hz : 0 < s.size := by omega
  have hbz := bt_eq s 0 hz
  have hz256 : s[0].toNat < 256 := s[0].toNat_lt
  by_cases h3 : bt s 0 = 47
  · have HF : Hid (goP false (ls s) = false) := by
      show _ = _
      have := goP_cons false s 0 hz
      rw [List.drop_zero, if_pos h3, Bool.false_and] at this
      exact this
    have k0 : (((s[0].toNat : Nat) : Int) == 47) = true := by simp; omega
    clear h2 h0 h3 hbz
    go_enter Tryd.func13, Tryd.ntmps13
    go_wp2
    go_ret
    rw [HE.out, HF.out]
    exact ⟨rfl, rfl⟩
  have k0 : (((s[0].toNat : Nat) : Int) == 47) = false := by simp; omega
  have hlz : s.size - 1 < s.size := by omega
  have hbl := bt_eq s (s.size - 1) hlz
  have hl256 : s[s.size - 1].toNat < 256 := s[s.size - 1].toNat_lt
  have fl0 : (0 : Int) ≤ (s.size : Int) - 1 := by omega
  have fl1 : (s.size : Int) - 1 < (s.size : Int) := by omega
  have fl2 : ((s.size : Int) - 1).toNat = s.size - 1 := by omega
  have f0 : (s.size : Int) ≤ 1000000 := by omega
  have HZ := Lib.hid hz
  have H3 := Lib.hid h3
  by_cases h4 : bt s (s.size - 1) = 47
  · have k1 : (((s[s.size - 1].toNat : Nat) : Int) == 47) = true := by simp; omega
    have HF : Hid (goP false (ls s) = false) := by
      show _ = _
      cases hg : goP false (ls s) with
      | false => rfl
      | true => exact absurd h4 (goP_last s hz hg)
    clear h2 h0 h3 hbz h4 hbl
    go_enter Tryd.func13, Tryd.ntmps13
    go_wp2
    go_ret
    rw [HE.out, HF.out]
    exact ⟨rfl, rfl⟩
  have k1 : (((s[s.size - 1].toNat : Nat) : Int) == 47) = false := by simp; omega
  have H4 := Lib.hid h4
  clear h2 h0 h3 hbz h4 hbl
  go_enter Tryd.func13, Tryd.ntmps13
  go_wp2
  clear k0 k1 hz256 hl256 g0 g1
  go_loopw [3, 4] (fun v3 _ wr => wr = w ∧ ∃ i : Nat, v3 = .int .i64 i ∧ i ≤ s.size ∧ Hid (goP false (ls s) = goP (okB s i) ((ls s).drop i))) (fun v3 _ _ => s.size - (match v3 with | .int _ i => i.toNat | _ => 0))
  case atStart => exact ⟨rfl, 0, rfl, Nat.zero_le _, rfl⟩
  case round =>
    obtain ⟨rfl, i, rfl, hi, HJ⟩ := hrel
    by_cases hlt : i < s.size
    · have f1 : (i : Int) < (s.size : Int) := by omega
      have f2 : (0 : Int) ≤ (i : Int) := by omega
      have hb := bt_eq s i hlt
      have HB := Lib.hid hb
      have hb256 : s[i].toNat < 256 := s[i].toNat_lt
      by_cases h47 : bt s i = 47
      · have H47 := Lib.hid h47
        have k0 : (((s[i].toNat : Nat) : Int) == 47) = true := by simp; omega
        have k2 : (((s[i].toNat : Nat) : Int) != 47) = false := by simp; omega
        obtain ⟨q, rfl⟩ : ∃ q, i = q + 1 := ⟨i - 1, by
          rcases Nat.eq_zero_or_pos i with h | h
          · subst h; exact absurd h47 H3.out
          · omega⟩
        have hq : q < s.size := by omega
        have fq1 : (q : Int) < (s.size : Int) := by omega
        have fq2 : (0 : Int) ≤ (q : Int) := by omega
        have hbq := bt_eq s q hq
        have HBQ := Lib.hid hbq
        have hq256 : s[q].toNat < 256 := s[q].toNat_lt
        by_cases hq47 : s[q].toNat = 47
        · have k1 : (((s[q].toNat : Nat) : Int) == 47) = true := by simp; omega
          have HQ := Lib.hid hq47
          clear hi hb h47 hbq hq47
          go_wp2_with fail
          refine bodyPost_ret (results_tmp rfl _ _ _) rfl ?_
          rw [HE.out, HJ.out, goP_cons _ s (q + 1) hlt, if_pos H47.out, show okB s (q + 1) = false by unfold okB; rw [Nat.add_sub_cancel, HBQ.out, HQ.out]; simp, Bool.false_and]
          exact ⟨rfl, rfl⟩
        · have k1 : (((s[q].toNat : Nat) : Int) == 47) = false := by simp; omega
          have HQ := Lib.hid hq47
          clear hi hb h47 hbq hq47
          go_wp2_with fail
          go_roundw
          case rel =>
            refine ⟨by first | exact rfl | trivial, q + 1 + 1, by first | rfl | (congr 1), by omega, ?_⟩
            show _ = _
            rw [HJ.out, goP_cons _ s (q + 1) hlt, if_pos H47.out, show okB s (q + 1) = true by unfold okB; rw [Nat.add_sub_cancel, HBQ.out]; simp [HQ.out], Bool.true_and, show okB s (q + 1 + 1) = false by unfold okB; rw [Nat.add_sub_cancel]; simp [H47.out]]
          case measure => simp; omega
      have H47 := Lib.hid h47
      have h47' : s[i].toNat ≠ 47 := by rw [← hb]; exact h47
      have hcls : (s[i].toNat = 95) ∨ (s[i].toNat = 45) ∨ (s[i].toNat = 46) ∨ (48 ≤ s[i].toNat ∧ s[i].toNat ≤ 57) ∨ (97 ≤ s[i].toNat ∧ s[i].toNat ≤ 122) ∨ (65 ≤ s[i].toNat ∧ s[i].toNat ≤ 90) ∨ (s[i].toNat < 48 ∧ s[i].toNat ≠ 45 ∧ s[i].toNat ≠ 46 ∧ s[i].toNat ≠ 47) ∨ (57 < s[i].toNat ∧ s[i].toNat < 65) ∨ (90 < s[i].toNat ∧ s[i].toNat < 97 ∧ s[i].toNat ≠ 95) ∨ (122 < s[i].toNat) := by omega
      clear h47'
      rcases hcls with hcl | hcl | hcl | hcl | hcl | hcl | hcl | hcl | hcl | hcl
      · have k0 : ((((s[i].toNat : Nat) : Int)) != 47) = true := by simp; omega
        have k1 : ((((s[i].toNat : Nat) : Int)) == 47) = false := by simp; omega
        have k2 : ((((s[i].toNat : Nat) : Int)) != 95) = false := by simp; omega
        have k3 : ((((s[i].toNat : Nat) : Int)) == 95) = true := by simp; omega
        have hpn : pathN s[i].toNat = true := by simp [pathN, figN]; omega
        have HPN := Lib.hid hpn
        clear hi hb hcl h47 hpn
        go_wp2_with fail
        go_roundw
        case rel =>
          refine ⟨by first | exact rfl | trivial, i + 1, rfl, by omega, ?_⟩
          show _ = _
          rw [HJ.out, goP_cons _ s i hlt, if_neg H47.out, HB.out, HPN.out, Bool.true_and, show okB s (i + 1) = true by unfold okB; rw [Nat.add_sub_cancel]; simp [H47.out]]
        case measure => simp; omega
      · have k0 : ((((s[i].toNat : Nat) : Int)) != 47) = true := by simp; omega
        have k1 : ((((s[i].toNat : Nat) : Int)) == 47) = false := by simp; omega
        have k2 : ((((s[i].toNat : Nat) : Int)) != 95) = true := by simp; omega
        have k3 : ((((s[i].toNat : Nat) : Int)) == 95) = false := by simp; omega
        have k4 : ((((s[i].toNat : Nat) : Int)) != 45) = false := by simp; omega
        have k5 : ((((s[i].toNat : Nat) : Int)) == 45) = true := by simp; omega
        have hpn : pathN s[i].toNat = true := by simp [pathN, figN]; omega
        have HPN := Lib.hid hpn
        clear hi hb hcl h47 hpn
        go_wp2_with fail
        go_roundw
        case rel =>
          refine ⟨by first | exact rfl | trivial, i + 1, rfl, by omega, ?_⟩
          show _ = _
          rw [HJ.out, goP_cons _ s i hlt, if_neg H47.out, HB.out, HPN.out, Bool.true_and, show okB s (i + 1) = true by unfold okB; rw [Nat.add_sub_cancel]; simp [H47.out]]
        case measure => simp; omega
      · have k0 : ((((s[i].toNat : Nat) : Int)) != 47) = true := by simp; omega
        have k1 : ((((s[i].toNat : Nat) : Int)) == 47) = false := by simp; omega
        have k2 : ((((s[i].toNat : Nat) : Int)) != 95) = true := by simp; omega
        have k3 : ((((s[i].toNat : Nat) : Int)) == 95) = false := by simp; omega
        have k4 : ((((s[i].toNat : Nat) : Int)) != 45) = true := by simp; omega
        have k5 : ((((s[i].toNat : Nat) : Int)) == 45) = false := by simp; omega
        have k6 : ((((s[i].toNat : Nat) : Int)) != 46) = false := by simp; omega
        have k7 : ((((s[i].toNat : Nat) : Int)) == 46) = true := by simp; omega
        have hpn : pathN s[i].toNat = true := by simp [pathN, figN]; omega
        have HPN := Lib.hid hpn
        clear hi hb hcl h47 hpn
        go_wp2_with fail
        go_roundw
        case rel =>
          refine ⟨by first | exact rfl | trivial, i + 1, rfl, by omega, ?_⟩
          show _ = _
          rw [HJ.out, goP_cons _ s i hlt, if_neg H47.out, HB.out, HPN.out, Bool.true_and, show okB s (i + 1) = true by unfold okB; rw [Nat.add_sub_cancel]; simp [H47.out]]
        case measure => simp; omega
      · have k0 : ((((s[i].toNat : Nat) : Int)) != 47) = true := by simp; omega
        have k1 : ((((s[i].toNat : Nat) : Int)) == 47) = false := by simp; omega
        have k2 : ((((s[i].toNat : Nat) : Int)) != 95) = true := by simp; omega
        have k3 : ((((s[i].toNat : Nat) : Int)) == 95) = false := by simp; omega
        have k4 : ((((s[i].toNat : Nat) : Int)) != 45) = true := by simp; omega
        have k5 : ((((s[i].toNat : Nat) : Int)) == 45) = false := by simp; omega
        have k6 : ((((s[i].toNat : Nat) : Int)) != 46) = true := by simp; omega
        have k7 : ((((s[i].toNat : Nat) : Int)) == 46) = false := by simp; omega
        have k8 : decide (((s[i].toNat : Nat) : Int) < 48) = false := by simp; omega
        have k9 : decide ((57 : Int) < ((s[i].toNat : Nat) : Int)) = false := by simp; omega
        have hpn : pathN s[i].toNat = true := by simp [pathN, figN]; omega
        have HPN := Lib.hid hpn
        clear hi hb hcl h47 hpn
        go_wp2_with fail
        go_roundw
        case rel =>
          refine ⟨by first | exact rfl | trivial, i + 1, rfl, by omega, ?_⟩
          show _ = _
          rw [HJ.out, goP_cons _ s i hlt, if_neg H47.out, HB.out, HPN.out, Bool.true_and, show okB s (i + 1) = true by unfold okB; rw [Nat.add_sub_cancel]; simp [H47.out]]
        case measure => simp; omega
      · have k0 : ((((s[i].toNat : Nat) : Int)) != 47) = true := by simp; omega
        have k1 : ((((s[i].toNat : Nat) : Int)) == 47) = false := by simp; omega
        have k2 : ((((s[i].toNat : Nat) : Int)) != 95) = true := by simp; omega
        have k3 : ((((s[i].toNat : Nat) : Int)) == 95) = false := by simp; omega
        have k4 : ((((s[i].toNat : Nat) : Int)) != 45) = true := by simp; omega
        have k5 : ((((s[i].toNat : Nat) : Int)) == 45) = false := by simp; omega
        have k6 : ((((s[i].toNat : Nat) : Int)) != 46) = true := by simp; omega
        have k7 : ((((s[i].toNat : Nat) : Int)) == 46) = false := by simp; omega
        have k8 : decide (((s[i].toNat : Nat) : Int) < 48) = false := by simp; omega
        have k9 : decide ((57 : Int) < ((s[i].toNat : Nat) : Int)) = true := by simp; omega
        have k10 : decide (((s[i].toNat : Nat) : Int) < 97) = false := by simp; omega
        have k11 : decide ((122 : Int) < ((s[i].toNat : Nat) : Int)) = false := by simp; omega
        have hpn : pathN s[i].toNat = true := by simp [pathN, figN]; omega
        have HPN := Lib.hid hpn
        clear hi hb hcl h47 hpn
        go_wp2_with fail
        go_roundw
        case rel =>
          refine ⟨by first | exact rfl | trivial, i + 1, rfl, by omega, ?_⟩
          show _ = _
          rw [HJ.out, goP_cons _ s i hlt, if_neg H47.out, HB.out, HPN.out, Bool.true_and, show okB s (i + 1) = true by unfold okB; rw [Nat.add_sub_cancel]; simp [H47.out]]
        case measure => simp; omega
      · have k0 : ((((s[i].toNat : Nat) : Int)) != 47) = true := by simp; omega
        have k1 : ((((s[i].toNat : Nat) : Int)) == 47) = false := by simp; omega
        have k2 : ((((s[i].toNat : Nat) : Int)) != 95) = true := by simp; omega
        have k3 : ((((s[i].toNat : Nat) : Int)) == 95) = false := by simp; omega
        have k4 : ((((s[i].toNat : Nat) : Int)) != 45) = true := by simp; omega
        have k5 : ((((s[i].toNat : Nat) : Int)) == 45) = false := by simp; omega
        have k6 : ((((s[i].toNat : Nat) : Int)) != 46) = true := by simp; omega
        have k7 : ((((s[i].toNat : Nat) : Int)) == 46) = false := by simp; omega
        have k8 : decide (((s[i].toNat : Nat) : Int) < 48) = false := by simp; omega
        have k9 : decide ((57 : Int) < ((s[i].toNat : Nat) : Int)) = true := by simp; omega
        have k10 : decide (((s[i].toNat : Nat) : Int) < 97) = true := by simp; omega
        have k11 : decide (((s[i].toNat : Nat) : Int) < 65) = false := by simp; omega
        have k12 : decide ((90 : Int) < ((s[i].toNat : Nat) : Int)) = false := by simp; omega
        have hpn : pathN s[i].toNat = true := by simp [pathN, figN]; omega
        have HPN := Lib.hid hpn
        clear hi hb hcl h47 hpn
        go_wp2_with fail
        go_roundw
        case rel =>
          refine ⟨by first | exact rfl | trivial, i + 1, rfl, by omega, ?_⟩
          show _ = _
          rw [HJ.out, goP_cons _ s i hlt, if_neg H47.out, HB.out, HPN.out, Bool.true_and, show okB s (i + 1) = true by unfold okB; rw [Nat.add_sub_cancel]; simp [H47.out]]
        case measure => simp; omega
      · have k0 : ((((s[i].toNat : Nat) : Int)) != 47) = true := by simp; omega
        have k1 : ((((s[i].toNat : Nat) : Int)) == 47) = false := by simp; omega
        have k2 : ((((s[i].toNat : Nat) : Int)) != 95) = true := by simp; omega
        have k3 : ((((s[i].toNat : Nat) : Int)) == 95) = false := by simp; omega
        have k4 : ((((s[i].toNat : Nat) : Int)) != 45) = true := by simp; omega
        have k5 : ((((s[i].toNat : Nat) : Int)) == 45) = false := by simp; omega
        have k6 : ((((s[i].toNat : Nat) : Int)) != 46) = true := by simp; omega
        have k7 : ((((s[i].toNat : Nat) : Int)) == 46) = false := by simp; omega
        have k8 : decide (((s[i].toNat : Nat) : Int) < 48) = true := by simp; omega
        have k9 : decide (((s[i].toNat : Nat) : Int) < 97) = true := by simp; omega
        have k10 : decide (((s[i].toNat : Nat) : Int) < 65) = true := by simp; omega
        have hpn : pathN s[i].toNat = false := by simp [pathN, figN]; omega
        have HPN := Lib.hid hpn
        clear hi hb hcl h47 hpn
        go_wp2_with fail
        refine bodyPost_ret (results_tmp rfl _ _ _) rfl ?_
        rw [HE.out, HJ.out, goP_cons _ s i hlt, if_neg H47.out, HB.out, HPN.out, Bool.false_and]
        exact ⟨rfl, rfl⟩
      · have k0 : ((((s[i].toNat : Nat) : Int)) != 47) = true := by simp; omega
        have k1 : ((((s[i].toNat : Nat) : Int)) == 47) = false := by simp; omega
        have k2 : ((((s[i].toNat : Nat) : Int)) != 95) = true := by simp; omega
        have k3 : ((((s[i].toNat : Nat) : Int)) == 95) = false := by simp; omega
        have k4 : ((((s[i].toNat : Nat) : Int)) != 45) = true := by simp; omega
        have k5 : ((((s[i].toNat : Nat) : Int)) == 45) = false := by simp; omega
        have k6 : ((((s[i].toNat : Nat) : Int)) != 46) = true := by simp; omega
        have k7 : ((((s[i].toNat : Nat) : Int)) == 46) = false := by simp; omega
        have k8 : decide (((s[i].toNat : Nat) : Int) < 48) = false := by simp; omega
        have k9 : decide ((57 : Int) < ((s[i].toNat : Nat) : Int)) = true := by simp; omega
        have k10 : decide (((s[i].toNat : Nat) : Int) < 97) = true := by simp; omega
        have k11 : decide (((s[i].toNat : Nat) : Int) < 65) = true := by simp; omega
        have hpn : pathN s[i].toNat = false := by simp [pathN, figN]; omega
        have HPN := Lib.hid hpn
        clear hi hb hcl h47 hpn
        go_wp2_with fail
        refine bodyPost_ret (results_tmp rfl _ _ _) rfl ?_
        rw [HE.out, HJ.out, goP_cons _ s i hlt, if_neg H47.out, HB.out, HPN.out, Bool.false_and]
        exact ⟨rfl, rfl⟩
      · have k0 : ((((s[i].toNat : Nat) : Int)) != 47) = true := by simp; omega
        have k1 : ((((s[i].toNat : Nat) : Int)) == 47) = false := by simp; omega
        have k2 : ((((s[i].toNat : Nat) : Int)) != 95) = true := by simp; omega
        have k3 : ((((s[i].toNat : Nat) : Int)) == 95) = false := by simp; omega
        have k4 : ((((s[i].toNat : Nat) : Int)) != 45) = true := by simp; omega
        have k5 : ((((s[i].toNat : Nat) : Int)) == 45) = false := by simp; omega
        have k6 : ((((s[i].toNat : Nat) : Int)) != 46) = true := by simp; omega
        have k7 : ((((s[i].toNat : Nat) : Int)) == 46) = false := by simp; omega
        have k8 : decide (((s[i].toNat : Nat) : Int) < 48) = false := by simp; omega
        have k9 : decide ((57 : Int) < ((s[i].toNat : Nat) : Int)) = true := by simp; omega
        have k10 : decide (((s[i].toNat : Nat) : Int) < 97) = true := by simp; omega
        have k11 : decide (((s[i].toNat : Nat) : Int) < 65) = false := by simp; omega
        have k12 : decide ((90 : Int) < ((s[i].toNat : Nat) : Int)) = true := by simp; omega
        have hpn : pathN s[i].toNat = false := by simp [pathN, figN]; omega
        have HPN := Lib.hid hpn
        clear hi hb hcl h47 hpn
        go_wp2_with fail
        refine bodyPost_ret (results_tmp rfl _ _ _) rfl ?_
        rw [HE.out, HJ.out, goP_cons _ s i hlt, if_neg H47.out, HB.out, HPN.out, Bool.false_and]
        exact ⟨rfl, rfl⟩
      · have k0 : ((((s[i].toNat : Nat) : Int)) != 47) = true := by simp; omega
        have k1 : ((((s[i].toNat : Nat) : Int)) == 47) = false := by simp; omega
        have k2 : ((((s[i].toNat : Nat) : Int)) != 95) = true := by simp; omega
        have k3 : ((((s[i].toNat : Nat) : Int)) == 95) = false := by simp; omega
        have k4 : ((((s[i].toNat : Nat) : Int)) != 45) = true := by simp; omega
        have k5 : ((((s[i].toNat : Nat) : Int)) == 45) = false := by simp; omega
        have k6 : ((((s[i].toNat : Nat) : Int)) != 46) = true := by simp; omega
        have k7 : ((((s[i].toNat : Nat) : Int)) == 46) = false := by simp; omega
        have k8 : decide (((s[i].toNat : Nat) : Int) < 48) = false := by simp; omega
        have k9 : decide ((57 : Int) < ((s[i].toNat : Nat) : Int)) = true := by simp; omega
        have k10 : decide (((s[i].toNat : Nat) : Int) < 97) = false := by simp; omega
        have k11 : decide ((122 : Int) < ((s[i].toNat : Nat) : Int)) = true := by simp; omega
        have k12 : decide (((s[i].toNat : Nat) : Int) < 65) = false := by simp; omega
        have k13 : decide ((90 : Int) < ((s[i].toNat : Nat) : Int)) = true := by simp; omega
        have hpn : pathN s[i].toNat = false := by simp [pathN, figN]; omega
        have HPN := Lib.hid hpn
        clear hi hb hcl h47 hpn
        go_wp2_with fail
        refine bodyPost_ret (results_tmp rfl _ _ _) rfl ?_
        rw [HE.out, HJ.out, goP_cons _ s i hlt, if_neg H47.out, HB.out, HPN.out, Bool.false_and]
        exact ⟨rfl, rfl⟩
    · have f1 : ¬ ((i : Int) < (s.size : Int)) := by omega
      have hie : i = s.size := by omega
      have HR : Hid (goP false (ls s) = true) := by
        show _ = _
        rw [HJ.out, hie, List.drop_eq_nil_of_le (by rw [ls_len]; exact Nat.le_refl _)]
        unfold okB goP
        simp [HZ.out, H4.out]
      clear hi hlt hie
      go_wp2_with fail
      go_ret
      rw [HE.out, HR.out]
      exact ⟨rfl, rfl⟩
end Go.Proofs.YtnghlhkgeahfmaaDoor
