/- The document's answer: a version's minor. -/
import Derived.Test.YtnghlhkgeahfmaaDoorVer20
import Derived.Deep.CutBlock
import Derived.Deep.DeepCutAuto
namespace Go.Proofs.YtnghlhkgeahfmaaDoor
open Go.RowKit
set_option linter.unusedVariables false

/-- The number of the first j figures behind 1. -/
def valM (s : ByteArray) : Nat → Nat
  | 0 => 0
  | j + 1 => 10 * valM s j + (bt s (2 + j) - 48)
theorem figN_iff (n : Nat) : figN n = true ↔ 48 ≤ n ∧ n ≤ 57 := by simp [figN]
/-- Where the figures behind 1. end: at most three are taken. -/
structure FigEnd (s : ByteArray) (k : Nat) : Prop where
  lo : 2 ≤ k
  hi : k ≤ 5
  le : k ≤ s.size
  all : ∀ i, 2 ≤ i → i < k → figN (bt s i) = true
  stop : k = 5 ∨ k = s.size ∨ figN (bt s k) = false
theorem figB_drop (s : ByteArray) (i : Nat) (h : i < s.size) : ∃ c, (ls s).drop i = c :: (ls s).drop (i + 1) ∧ c.toNat = bt s i ∧ figB c = figN (bt s i) := by
  obtain ⟨c, e1, e2⟩ := ls_drop s i h
  exact ⟨c, e1, e2, by show figN c.toNat = _; rw [e2]⟩
theorem take_stop (s : ByteArray) (k : Nat) (hk : k ≤ s.size) (h : k = s.size ∨ figN (bt s k) = false) : ((ls s).drop k).takeWhile figB = [] := by
  by_cases hs : k = s.size
  · rw [hs, List.drop_eq_nil_of_le (by rw [ls_len]; exact Nat.le_refl _)]; rfl
  · obtain ⟨c, e1, e2, e3⟩ := figB_drop s k (by omega)
    rw [e1, List.takeWhile_cons, e3]
    rcases h with h | h
    · exact absurd h hs
    · rw [h]; rfl
theorem take_fig (s : ByteArray) (i : Nat) (h : i < s.size) (hf : figN (bt s i) = true) : ∃ c, c.toNat = bt s i ∧ ((ls s).drop i).takeWhile figB = c :: ((ls s).drop (i + 1)).takeWhile figB := by
  obtain ⟨c, e1, e2, e3⟩ := figB_drop s i h
  refine ⟨c, e2, ?_⟩
  rw [e1, List.takeWhile_cons, e3, hf]; rfl

theorem minor_k2 (s : ByteArray) (h : FigEnd s 2) : minorL (ls s) = none := by
  apply minorL_worth
  rw [take_stop s 2 h.le (by rcases h.stop with h | h | h; · omega
                             · exact .inl h
                             · exact .inr h)]
  rfl
theorem minor_k5 (s : ByteArray) (h : FigEnd s 5) : minorL (ls s) = none := by
  apply minorL_worth
  obtain ⟨c, _, e1⟩ := take_fig s 2 (by have := h.le; omega) (h.all 2 (by omega) (by omega))
  obtain ⟨d, _, e2⟩ := take_fig s 3 (by have := h.le; omega) (h.all 3 (by omega) (by omega))
  obtain ⟨e, _, e3⟩ := take_fig s 4 (by have := h.le; omega) (h.all 4 (by omega) (by omega))
  rw [e1, e2, e3]
  rfl
theorem minor_k3 (s : ByteArray) (h : FigEnd s 3) (hp : ([49, 46] : List UInt8).isPrefixOf (ls s) = true) : minorL (ls s) = if relL (ls (s.extract 3 s.size)) then some (valM s 1) else none := by
  obtain ⟨c, ec, e1⟩ := take_fig s 2 (by have := h.le; omega) (h.all 2 (by omega) (by omega))
  have e2 := take_stop s 3 h.le (by rcases h.stop with h | h | h; · omega
                                    · exact .inl h
                                    · exact .inr h)
  rw [e2] at e1
  have hv : valM s 1 = c.toNat - 48 := by show 10 * 0 + (bt s 2 - 48) = _; rw [ec]; omega
  rw [minorL_rel (ls s) (valM s 1) hp (by rw [e1, hv]; rfl), e1, List.drop_drop, ls_from]
  rfl
theorem minor_k4 (s : ByteArray) (h : FigEnd s 4) (hp : ([49, 46] : List UInt8).isPrefixOf (ls s) = true) : (bt s 2 = 48 → minorL (ls s) = none) ∧ (bt s 2 ≠ 48 → minorL (ls s) = if relL (ls (s.extract 4 s.size)) then some (valM s 2) else none) := by
  obtain ⟨c, ec, e1⟩ := take_fig s 2 (by have := h.le; omega) (h.all 2 (by omega) (by omega))
  obtain ⟨d, ed, e2⟩ := take_fig s 3 (by have := h.le; omega) (h.all 3 (by omega) (by omega))
  have e3 := take_stop s 4 h.le (by rcases h.stop with h | h | h; · omega
                                    · exact .inl h
                                    · exact .inr h)
  rw [e3] at e2
  rw [e2] at e1
  constructor
  · intro h48
    apply minorL_worth
    rw [e1]
    have : c = 48 := by apply UInt8.toNat_inj.1; rw [ec, h48]; rfl
    rw [this]; rfl
  · intro h48
    have hc : c ≠ 48 := fun e => h48 (by rw [← ec, e]; rfl)
    have hv : valM s 2 = (c.toNat - 48) * 10 + (d.toNat - 48) := by show 10 * (10 * 0 + (bt s 2 - 48)) + (bt s 3 - 48) = _; rw [ec, ed]; omega
    rw [minorL_rel (ls s) (valM s 2) hp (by rw [e1, hv]; show (if c = 48 then none else _) = _; rw [if_neg hc]), e1, List.drop_drop, ls_from]
    rfl

theorem pre_take (p l : List UInt8) : (l.take p.length == p) = p.isPrefixOf l := by
  rw [Bool.eq_iff_iff, beq_iff_eq, List.isPrefixOf_iff_prefix, List.prefix_iff_eq_take]
  exact ⟨fun h => h.symm, fun h => h.symm⟩
theorem ext_pre (r : ByteArray) (p : List UInt8) : ((r.extract 0 p.length).toList == p) = p.isPrefixOf (ls r) := by
  rw [Lib.toList_data]
  show (ls (r.extract 0 p.length) == p) = _
  rw [ls_to, pre_take]

theorem rel_ref (r : ByteArray) (h : 0 < r.size) : relL (ls r) = (((((r[0].toNat : Nat) : Int) == 46) && figs (ls (r.extract 1 r.size))) || ((decide ((2 : Int) < (r.size : Int)) && ((r.extract 0 2).toList == [114, 99])) && figs (ls (r.extract 2 r.size))) || ((decide ((4 : Int) < (r.size : Int)) && ((r.extract 0 4).toList == [98, 101, 116, 97])) && figs (ls (r.extract 4 r.size)))) := by
  have hp2 := ext_pre r [114, 99]
  have hp4 := ext_pre r [98, 101, 116, 97]
  simp only [List.length_cons, List.length_nil, Nat.reduceAdd] at hp2 hp4
  rw [hp2, hp4, ls_from, ls_from, ls_from]
  obtain ⟨c, e1, e2⟩ := ls_drop r 0 h
  rw [List.drop_zero] at e1
  have hx : ((((r[0].toNat : Nat) : Int) == 46) = ([46] : List UInt8).isPrefixOf (ls r)) := by
    rw [Bool.eq_iff_iff, beq_iff_eq, List.isPrefixOf_iff_prefix, e1, List.cons_prefix_iff, ← bt_eq r 0 h, ← e2]
    constructor
    · intro hc
      exact ⟨_, by rw [show c = 46 from UInt8.toNat_inj.1 (by show c.toNat = 46; omega)], List.nil_prefix⟩
    · rintro ⟨t, ht, _⟩
      injection ht with hc _
      rw [hc]; rfl
  rw [hx]
  have hlen := ls_len r
  have head : ∀ (x : UInt8) (p : List UInt8), (x :: p).isPrefixOf (ls r) = true → c = x := fun x p hp => by
    rw [List.isPrefixOf_iff_prefix, e1, List.cons_prefix_iff] at hp
    obtain ⟨t, ht, _⟩ := hp
    injection ht
  have d2 : ¬ (2 < r.size) → figs ((ls r).drop 2) = false := fun hn => by rw [List.drop_eq_nil_of_le (by rw [hlen]; omega)]; rfl
  have d4 : ¬ (4 < r.size) → figs ((ls r).drop 4) = false := fun hn => by rw [List.drop_eq_nil_of_le (by rw [hlen]; omega)]; rfl
  have g2 : decide ((2 : Int) < (r.size : Int)) = decide (2 < r.size) := by rw [decide_eq_decide]; omega
  have g4 : decide ((4 : Int) < (r.size : Int)) = decide (4 < r.size) := by rw [decide_eq_decide]; omega
  rw [g2, g4]
  cases q0 : ([46] : List UInt8).isPrefixOf (ls r)
  · cases q2 : ([114, 99] : List UInt8).isPrefixOf (ls r)
    · cases q4 : ([98, 101, 116, 97] : List UInt8).isPrefixOf (ls r)
      · rw [relL_no _ q0 q2 q4, e1]; simp
      · rw [relL_beta _ q0 q2 q4]
        by_cases hn : 4 < r.size
        · simp [hn]
        · rw [d4 hn]; simp
    · have hc := head _ _ q2
      have q4 : ([98, 101, 116, 97] : List UInt8).isPrefixOf (ls r) = false := by
        cases q4 : ([98, 101, 116, 97] : List UInt8).isPrefixOf (ls r) with
        | false => rfl
        | true => have := head _ _ q4; rw [hc] at this; exact absurd this (by decide)
      rw [relL_rc _ q0 q2, q4]
      by_cases hn : 2 < r.size
      · simp [hn]
      · rw [d2 hn]; simp
  · have hc := head _ _ q0
    have q2 : ([114, 99] : List UInt8).isPrefixOf (ls r) = false := by
      cases q2 : ([114, 99] : List UInt8).isPrefixOf (ls r) with
      | false => rfl
      | true => have := head _ _ q2; rw [hc] at this; exact absurd this (by decide)
    have q4 : ([98, 101, 116, 97] : List UInt8).isPrefixOf (ls r) = false := by
      cases q4 : ([98, 101, 116, 97] : List UInt8).isPrefixOf (ls r) with
      | false => rfl
      | true => have := head _ _ q4; rw [hc] at this; exact absurd this (by decide)
    rw [relL_dot _ q0, q2, q4]
    simp

theorem valM_lt (s : ByteArray) (k : Nat) (h : ∀ i, 2 ≤ i → i < k → figN (bt s i) = true) : ∀ j, 2 + j ≤ k → j ≤ 3 → valM s j ≤ 999 ∧ (j ≤ 2 → valM s j ≤ 99) ∧ (j ≤ 1 → valM s j ≤ 9) := by
  have f := fun i h1 h2 => (figN_iff _).1 (h i h1 h2)
  intro j hj h3
  match j with
  | 0 => exact ⟨by show 0 ≤ 999; omega, fun _ => by show 0 ≤ 99; omega, fun _ => by show 0 ≤ 9; omega⟩
  | 1 =>
    have := f 2 (by omega) (by omega)
    exact ⟨by show 10 * 0 + (bt s 2 - 48) ≤ 999; omega, fun _ => by show 10 * 0 + (bt s 2 - 48) ≤ 99; omega, fun _ => by show 10 * 0 + (bt s 2 - 48) ≤ 9; omega⟩
  | 2 =>
    have := f 2 (by omega) (by omega)
    have := f 3 (by omega) (by omega)
    exact ⟨by show 10 * (10 * 0 + (bt s 2 - 48)) + (bt s 3 - 48) ≤ 999; omega, fun _ => by show 10 * (10 * 0 + (bt s 2 - 48)) + (bt s 3 - 48) ≤ 99; omega, fun h => by omega⟩
  | 3 =>
    have := f 2 (by omega) (by omega)
    have := f 3 (by omega) (by omega)
    have := f 4 (by omega) (by omega)
    exact ⟨by show 10 * (10 * (10 * 0 + (bt s 2 - 48)) + (bt s 3 - 48)) + (bt s 4 - 48) ≤ 999; omega, fun h => by omega, fun h => by omega⟩

set_option maxHeartbeats 4000000 in
set_option maxRecDepth 1000000 in
theorem refMinor_any (s : ByteArray) (hs : s.size ≤ 1000000) (w : World) : Calls Tryd.prog 11 #[.string s] w fun e w' => e = .returned (toldM (minorL (ls s))) ∧ w = w' := by
  have hpl := ext_pre s [49, 46]
  simp only [List.length_cons, List.length_nil, Nat.reduceAdd] at hpl
  by_cases h3 : s.size < 3
  · have HM : Hid (minorL (ls s) = none) := by
      apply minorL_worth
      rw [List.drop_eq_nil_of_le (by rw [ls_len]; omega)]; rfl
    have g0 : decide ((s.size : Int) < 3) = true := by simp; omega
    clear h3 hs hpl
    go_enter Tryd.func11, Tryd.ntmps11
    go_wp2
    go_ret2
    rw [HM.out]
    exact ⟨rfl, rfl⟩
  have g0 : decide ((s.size : Int) < 3) = false := by simp; omega
  have fs2 : (2 : Int) ≤ (s.size : Int) := by omega
  cases hp : ((s.extract 0 2).toList == [49, 46])
  · have HM : Hid (minorL (ls s) = none) := minorL_no _ (hpl.symm.trans hp)
    clear h3 hs hpl
    go_enter Tryd.func11, Tryd.ntmps11
    go_wp2
    go_ret2
    rw [HM.out]
    exact ⟨rfl, rfl⟩
  have f0 : (s.size : Int) ≤ 1000000 := by omega
  have H3 := Lib.hid h3
  have HP := Lib.hid (hpl.symm.trans hp)
  clear h3 hs hpl
  go_enter Tryd.func11, Tryd.ntmps11
  go_upto_block 0 with fail
  go_cut [4, 5] (fun s4 s5 wx => w = wx ∧ ∃ k : Nat, s5 = .int .i64 k ∧ s4 = .int .i64 (valM s (k - 2) : Nat) ∧ FigEnd s k)
  case first =>
    go_wp2_with fail
    go_loopw [4, 5] (fun s4 s5 wr => w = wr ∧ ∃ j : Nat, s5 = .int .i64 (2 + (j : Int)) ∧ s4 = .int .i64 (valM s j : Nat) ∧ j ≤ 3 ∧ 2 + j ≤ s.size ∧ Hid (∀ i, 2 ≤ i → i < 2 + j → figN (bt s i) = true)) (fun s4 s5 _ => 5 - (match s5 with | .int _ i => i.toNat | _ => 0))
    case atStart => exact ⟨rfl, 0, rfl, rfl, by omega, by have := H3.out; omega, fun i h1 h2 => by omega⟩
    case round =>
      obtain ⟨rfl, j, rfl, rfl, hj3, hjs, HF⟩ := hrel
      have hv := (valM_lt s (2 + j) HF.out j (by omega) hj3).1
      have HV := Lib.hid hv
      have HJ3 := Lib.hid hj3
      have HJS := Lib.hid hjs
      have kk : ∀ x, (2 : Int) + (x : Nat) = ((2 + x : Nat) : Int) := fun x => by omega
      by_cases hlt : 2 + j < s.size
      · have f1 : (2 : Int) + (j : Int) < (s.size : Int) := by omega
        by_cases hj : j = 3
        · subst hj
          clear hlt hj3 hjs hv kk
          go_wp2_with fail
          go_meet
          exact ⟨rfl, 5, rfl, rfl, by omega, by omega, by have := HJS.out; omega, fun i h1 h2 => HF.out i h1 (by omega), .inl rfl⟩
        · have f2 : (2 : Int) + (j : Int) < 5 := by omega
          have f3 : (0 : Int) ≤ (2 : Int) + (j : Int) := by omega
          have f4 : ((2 : Int) + (j : Int)).toNat = 2 + j := by omega
          have hb := bt_eq s (2 + j) hlt
          have HB := Lib.hid hb
          have h256 : s[2 + j].toNat < 256 := s[2 + j].toNat_lt
          have HJ := Lib.hid hj
          by_cases a1 : s[2 + j].toNat < 48
          · have k1 : decide ((48 : Int) ≤ ((s[2 + j].toNat : Nat) : Int)) = false := by simp; omega
            have A1 := Lib.hid a1
            clear hj3 hjs hv kk hb hj a1
            go_wp2_with fail
            go_meet
            exact ⟨rfl, 2 + j, by rw [Int.natCast_add]; rfl, by rw [Nat.add_sub_cancel_left], by omega, by have := HJ3.out; omega, by have := HJS.out; omega, HF.out, .inr (.inr (by rw [HB.out]; have := A1.out; simp [figN]; omega))⟩
          · have k1 : decide ((48 : Int) ≤ ((s[2 + j].toNat : Nat) : Int)) = true := by simp; omega
            by_cases a2 : 57 < s[2 + j].toNat
            · have k2 : decide (((s[2 + j].toNat : Nat) : Int) ≤ 57) = false := by simp; omega
              have A2 := Lib.hid a2
              clear hj3 hjs hv kk hb hj a1 a2
              go_wp2_with fail
              go_meet
              exact ⟨rfl, 2 + j, by rw [Int.natCast_add]; rfl, by rw [Nat.add_sub_cancel_left], by omega, by have := HJ3.out; omega, by have := HJS.out; omega, HF.out, .inr (.inr (by rw [HB.out]; have := A2.out; simp [figN]; omega))⟩
            · have k2 : decide (((s[2 + j].toNat : Nat) : Int) ≤ 57) = true := by simp; omega
              have hv2 : valM s (j + 1) = 10 * valM s j + (s[2 + j].toNat - 48) := by show 10 * valM s j + (bt s (2 + j) - 48) = _; rw [hb]
              have HV2 := Lib.hid hv2
              have d1 : (48 : Int) ≤ ((s[2 + j].toNat : Nat) : Int) := by omega
              have d2 : ((s[2 + j].toNat : Nat) : Int) ≤ 57 := by omega
              have d3 : ((valM s j : Nat) : Int) ≤ 999 := by omega
              have D1 := Lib.hid d1
              have HFG : Hid (figN (bt s (2 + j)) = true) := by show _ = _; rw [hb]; simp [figN]; omega
              clear hj3 hjs hv kk hb hj a1 a2 hv2
              go_wp2_with fail
              go_roundw
              case rel =>
                refine ⟨by first | exact rfl | trivial, j + 1, by congr 1 <;> omega, ?_, by have := HJ3.out; have := HJ.out; omega, by omega, ?_⟩
                · rw [HV2.out]; congr 1; have := D1.out; omega
                · intro i h1 h2
                  rcases Nat.lt_or_ge i (2 + j) with h | h
                  · exact HF.out i h1 h
                  · obtain rfl : i = 2 + j := by omega
                    exact HFG.out
              case measure => have := HJ.out; have := HJ3.out; simp; omega
      · have f1 : ¬ ((2 : Int) + (j : Int) < (s.size : Int)) := by omega
        have HE : Hid (2 + j = s.size) := by show _ = _; omega
        clear hlt hj3 hjs hv kk
        go_wp2_with fail
        go_meet
        exact ⟨rfl, 2 + j, by rw [Int.natCast_add]; rfl, by rw [Nat.add_sub_cancel_left], by omega, by have := HJ3.out; omega, by have := HJS.out; omega, HF.out, .inr (.inl HE.out)⟩
  case rest =>
    obtain ⟨rfl, k, rfl, rfl, hfe⟩ := hcut
    have hk : k = 2 ∨ k = 5 ∨ k = 4 ∨ k = 3 := by have := hfe.lo; have := hfe.hi; omega
    have h2 : 2 < s.size := by have := H3.out; omega
    have hb2 := bt_eq s 2 h2
    have h256 : s[2].toNat < 256 := s[2].toNat_lt
    have fi : (2 : Int) < (s.size : Int) := by omega
    rcases hk with rfl | rfl | rfl | rfl
    · have HM := Lib.hid (minor_k2 s hfe)
      clear hfe hb2
      go_wp2_with fail
      go_ret2
      rw [HM.out]
      exact ⟨rfl, rfl⟩
    · have HM := Lib.hid (minor_k5 s hfe)
      have f2 := (figN_iff _).1 (hfe.all 2 (by omega) (by omega))
      have f3 := (figN_iff _).1 (hfe.all 3 (by omega) (by omega))
      have f4 := (figN_iff _).1 (hfe.all 4 (by omega) (by omega))
      have hve : valM s (5 - 2) = 10 * (10 * (10 * 0 + (bt s 2 - 48)) + (bt s 3 - 48)) + (bt s 4 - 48) := rfl
      by_cases hd : bt s 2 = 48
      · have k1 : (((s[2].toNat : Nat) : Int) == 48) = true := by rw [beq_iff_eq]; omega
        have k2 : decide ((99 : Int) < ((valM s (5 - 2) : Nat) : Int)) = false := by rw [decide_eq_false_iff_not]; omega
        clear hfe hb2 f2 f3 f4 hve hd
        generalize valM s (5 - 2) = v at *
        go_wp2_with fail
        go_ret2
        rw [HM.out]
        exact ⟨rfl, rfl⟩
      · have k2 : decide ((99 : Int) < ((valM s (5 - 2) : Nat) : Int)) = true := by rw [decide_eq_true_eq]; omega
        clear hfe hb2 f2 f3 f4 hve hd
        generalize valM s (5 - 2) = v at *
        go_wp2_with fail
        go_ret2
        rw [HM.out]
        exact ⟨rfl, rfl⟩
    · have hv := (valM_lt s 4 hfe.all 2 (by omega) (by omega)).2.1 (by omega)
      by_cases hd : bt s 2 = 48
      · have HM := Lib.hid ((minor_k4 s hfe HP.out).1 hd)
        have k1 : (((s[2].toNat : Nat) : Int) == 48) = true := by rw [beq_iff_eq]; omega
        have k2 : decide ((99 : Int) < ((valM s (4 - 2) : Nat) : Int)) = false := by rw [decide_eq_false_iff_not]; have := hv; show ¬ (99 : Int) < ((valM s 2 : Nat) : Int); omega
        clear hfe hb2 hd hv
        generalize valM s (4 - 2) = v at *
        go_wp2_with fail
        go_ret2
        rw [HM.out]
        exact ⟨rfl, rfl⟩
      · have k1 : (((s[2].toNat : Nat) : Int) == 48) = false := by rw [beq_eq_false_iff_ne]; omega
        have HM : Hid (minorL (ls s) = if relL (ls (s.extract 4 s.size)) then some (valM s 2) else none) := (minor_k4 s hfe HP.out).2 hd
        have hrs : (s.extract 4 s.size).size ≤ 1000000 := by rw [ByteArray.size_extract]; have := hfe.le; omega
        have fk : (4 : Int) ≤ (s.size : Int) := by have := hfe.le; omega
        have hvs : ((valM s (4 - 2) : Nat) : Int) ≤ 99 := by have := hv; show ((valM s 2 : Nat) : Int) ≤ 99; omega
        have k2 : decide ((99 : Int) < ((valM s (4 - 2) : Nat) : Int)) = false := by rw [decide_eq_false_iff_not]; omega
        clear hfe hv hb2
        go_upto_region 10 with fail
        rw [show valM s 2 = valM s (4 - 2) from rfl] at HM
        generalize valM s (4 - 2) = v at *
        generalize s.extract 4 s.size = r at *
        clear k1 k2 hvs
        have c1 := fun w => refFigures_any (r.extract 1 r.size) (by rw [ByteArray.size_extract]; omega) w
        have c2 := fun w => refFigures_any (r.extract 2 r.size) (by rw [ByteArray.size_extract]; omega) w
        have c4 := fun w => refFigures_any (r.extract 4 r.size) (by rw [ByteArray.size_extract]; omega) w
        by_cases hr0 : r.size = 0
        · have hl : ls r = [] := List.eq_nil_of_length_eq_zero (by rw [ls_len]; exact hr0)
          have e0 : r.toList.isEmpty = true := by rw [empty_ls, hl]; rfl
          rw [hl] at HM
          clear hl hr0 c1 c2 c4
          go_wp2_with fail
          go_ret2
          rw [HM.out]
          exact ⟨rfl, rfl⟩
        · have hr1 : 0 < r.size := by omega
          have e0 : r.toList.isEmpty = false := by
            rw [empty_ls]
            cases hl : ls r with
            | nil => have := ls_len r; rw [hl] at this; simp at this; omega
            | cons c t => rfl
          have HREL := Lib.hid (rel_ref r hr1)
          have fr1 : (1 : Int) ≤ (r.size : Int) := by omega
          have fr0 : (0 : Int) < (r.size : Int) := by omega
          have r256 : r[0].toNat < 256 := r[0].toNat_lt
          have f1M : (r.size : Int) ≤ 1000000 := by omega
          clear hr0 hrs
          cases x46 : (((r[0].toNat : Nat) : Int) == 46)
          · skip
            cases l2 : decide ((2 : Int) < (r.size : Int))
            · have l4 : decide ((4 : Int) < (r.size : Int)) = false := by simp at l2 ⊢; omega
              go_wp2_with (first | ((with_reducible refine (c1 _).mono ?_); rintro e w1 ⟨rfl, rfl⟩) | ((with_reducible refine (c2 _).mono ?_); rintro e w1 ⟨rfl, rfl⟩) | ((with_reducible refine (c4 _).mono ?_); rintro e w1 ⟨rfl, rfl⟩))
              go_ret2
              rw [HM.out, HREL.out, x46, l2, l4]
              exact ⟨rfl, rfl⟩
            · have fr2 : (2 : Int) ≤ (r.size : Int) := by simp at l2; omega
              cases p2 : ((r.extract 0 2).toList == [114, 99])
              · skip
                cases l4 : decide ((4 : Int) < (r.size : Int))
                · skip
                  go_wp2_with (first | ((with_reducible refine (c1 _).mono ?_); rintro e w1 ⟨rfl, rfl⟩) | ((with_reducible refine (c2 _).mono ?_); rintro e w1 ⟨rfl, rfl⟩) | ((with_reducible refine (c4 _).mono ?_); rintro e w1 ⟨rfl, rfl⟩))
                  go_ret2
                  rw [HM.out, HREL.out, x46, l2, p2, l4]
                  exact ⟨rfl, rfl⟩
                · have fr4 : (4 : Int) ≤ (r.size : Int) := by simp at l4; omega
                  cases p4 : ((r.extract 0 4).toList == [98, 101, 116, 97])
                  · skip
                    go_wp2_with (first | ((with_reducible refine (c1 _).mono ?_); rintro e w1 ⟨rfl, rfl⟩) | ((with_reducible refine (c2 _).mono ?_); rintro e w1 ⟨rfl, rfl⟩) | ((with_reducible refine (c4 _).mono ?_); rintro e w1 ⟨rfl, rfl⟩))
                    go_ret2
                    rw [HM.out, HREL.out, x46, l2, p2, l4, p4]
                    exact ⟨rfl, rfl⟩
                  · cases f4 : figs (ls (r.extract 4 r.size))
                    · rw [f4] at c4
                      go_wp2_with (first | ((with_reducible refine (c1 _).mono ?_); rintro e w1 ⟨rfl, rfl⟩) | ((with_reducible refine (c2 _).mono ?_); rintro e w1 ⟨rfl, rfl⟩) | ((with_reducible refine (c4 _).mono ?_); rintro e w1 ⟨rfl, rfl⟩))
                      go_ret2
                      rw [HM.out, HREL.out, x46, l2, p2, l4, p4, f4]
                      exact ⟨rfl, rfl⟩
                    · rw [f4] at c4
                      go_wp2_with (first | ((with_reducible refine (c1 _).mono ?_); rintro e w1 ⟨rfl, rfl⟩) | ((with_reducible refine (c2 _).mono ?_); rintro e w1 ⟨rfl, rfl⟩) | ((with_reducible refine (c4 _).mono ?_); rintro e w1 ⟨rfl, rfl⟩))
                      go_ret2
                      rw [HM.out, HREL.out, x46, l2, p2, l4, p4, f4]
                      exact ⟨rfl, rfl⟩
              · cases f2 : figs (ls (r.extract 2 r.size))
                · rw [f2] at c2
                  cases l4 : decide ((4 : Int) < (r.size : Int))
                  · skip
                    go_wp2_with (first | ((with_reducible refine (c1 _).mono ?_); rintro e w1 ⟨rfl, rfl⟩) | ((with_reducible refine (c2 _).mono ?_); rintro e w1 ⟨rfl, rfl⟩) | ((with_reducible refine (c4 _).mono ?_); rintro e w1 ⟨rfl, rfl⟩))
                    go_ret2
                    rw [HM.out, HREL.out, x46, l2, p2, f2, l4]
                    exact ⟨rfl, rfl⟩
                  · have fr4 : (4 : Int) ≤ (r.size : Int) := by simp at l4; omega
                    cases p4 : ((r.extract 0 4).toList == [98, 101, 116, 97])
                    · skip
                      go_wp2_with (first | ((with_reducible refine (c1 _).mono ?_); rintro e w1 ⟨rfl, rfl⟩) | ((with_reducible refine (c2 _).mono ?_); rintro e w1 ⟨rfl, rfl⟩) | ((with_reducible refine (c4 _).mono ?_); rintro e w1 ⟨rfl, rfl⟩))
                      go_ret2
                      rw [HM.out, HREL.out, x46, l2, p2, f2, l4, p4]
                      exact ⟨rfl, rfl⟩
                    · cases f4 : figs (ls (r.extract 4 r.size))
                      · rw [f4] at c4
                        go_wp2_with (first | ((with_reducible refine (c1 _).mono ?_); rintro e w1 ⟨rfl, rfl⟩) | ((with_reducible refine (c2 _).mono ?_); rintro e w1 ⟨rfl, rfl⟩) | ((with_reducible refine (c4 _).mono ?_); rintro e w1 ⟨rfl, rfl⟩))
                        go_ret2
                        rw [HM.out, HREL.out, x46, l2, p2, f2, l4, p4, f4]
                        exact ⟨rfl, rfl⟩
                      · rw [f4] at c4
                        go_wp2_with (first | ((with_reducible refine (c1 _).mono ?_); rintro e w1 ⟨rfl, rfl⟩) | ((with_reducible refine (c2 _).mono ?_); rintro e w1 ⟨rfl, rfl⟩) | ((with_reducible refine (c4 _).mono ?_); rintro e w1 ⟨rfl, rfl⟩))
                        go_ret2
                        rw [HM.out, HREL.out, x46, l2, p2, f2, l4, p4, f4]
                        exact ⟨rfl, rfl⟩
                · rw [f2] at c2
                  go_wp2_with (first | ((with_reducible refine (c1 _).mono ?_); rintro e w1 ⟨rfl, rfl⟩) | ((with_reducible refine (c2 _).mono ?_); rintro e w1 ⟨rfl, rfl⟩) | ((with_reducible refine (c4 _).mono ?_); rintro e w1 ⟨rfl, rfl⟩))
                  go_ret2
                  rw [HM.out, HREL.out, x46, l2, p2, f2]
                  exact ⟨rfl, rfl⟩
          · cases f1 : figs (ls (r.extract 1 r.size))
            · rw [f1] at c1
              cases l2 : decide ((2 : Int) < (r.size : Int))
              · have l4 : decide ((4 : Int) < (r.size : Int)) = false := by simp at l2 ⊢; omega
                go_wp2_with (first | ((with_reducible refine (c1 _).mono ?_); rintro e w1 ⟨rfl, rfl⟩) | ((with_reducible refine (c2 _).mono ?_); rintro e w1 ⟨rfl, rfl⟩) | ((with_reducible refine (c4 _).mono ?_); rintro e w1 ⟨rfl, rfl⟩))
                go_ret2
                rw [HM.out, HREL.out, x46, f1, l2, l4]
                exact ⟨rfl, rfl⟩
              · have fr2 : (2 : Int) ≤ (r.size : Int) := by simp at l2; omega
                cases p2 : ((r.extract 0 2).toList == [114, 99])
                · skip
                  cases l4 : decide ((4 : Int) < (r.size : Int))
                  · skip
                    go_wp2_with (first | ((with_reducible refine (c1 _).mono ?_); rintro e w1 ⟨rfl, rfl⟩) | ((with_reducible refine (c2 _).mono ?_); rintro e w1 ⟨rfl, rfl⟩) | ((with_reducible refine (c4 _).mono ?_); rintro e w1 ⟨rfl, rfl⟩))
                    go_ret2
                    rw [HM.out, HREL.out, x46, f1, l2, p2, l4]
                    exact ⟨rfl, rfl⟩
                  · have fr4 : (4 : Int) ≤ (r.size : Int) := by simp at l4; omega
                    cases p4 : ((r.extract 0 4).toList == [98, 101, 116, 97])
                    · skip
                      go_wp2_with (first | ((with_reducible refine (c1 _).mono ?_); rintro e w1 ⟨rfl, rfl⟩) | ((with_reducible refine (c2 _).mono ?_); rintro e w1 ⟨rfl, rfl⟩) | ((with_reducible refine (c4 _).mono ?_); rintro e w1 ⟨rfl, rfl⟩))
                      go_ret2
                      rw [HM.out, HREL.out, x46, f1, l2, p2, l4, p4]
                      exact ⟨rfl, rfl⟩
                    · cases f4 : figs (ls (r.extract 4 r.size))
                      · rw [f4] at c4
                        go_wp2_with (first | ((with_reducible refine (c1 _).mono ?_); rintro e w1 ⟨rfl, rfl⟩) | ((with_reducible refine (c2 _).mono ?_); rintro e w1 ⟨rfl, rfl⟩) | ((with_reducible refine (c4 _).mono ?_); rintro e w1 ⟨rfl, rfl⟩))
                        go_ret2
                        rw [HM.out, HREL.out, x46, f1, l2, p2, l4, p4, f4]
                        exact ⟨rfl, rfl⟩
                      · rw [f4] at c4
                        go_wp2_with (first | ((with_reducible refine (c1 _).mono ?_); rintro e w1 ⟨rfl, rfl⟩) | ((with_reducible refine (c2 _).mono ?_); rintro e w1 ⟨rfl, rfl⟩) | ((with_reducible refine (c4 _).mono ?_); rintro e w1 ⟨rfl, rfl⟩))
                        go_ret2
                        rw [HM.out, HREL.out, x46, f1, l2, p2, l4, p4, f4]
                        exact ⟨rfl, rfl⟩
                · cases f2 : figs (ls (r.extract 2 r.size))
                  · rw [f2] at c2
                    cases l4 : decide ((4 : Int) < (r.size : Int))
                    · skip
                      go_wp2_with (first | ((with_reducible refine (c1 _).mono ?_); rintro e w1 ⟨rfl, rfl⟩) | ((with_reducible refine (c2 _).mono ?_); rintro e w1 ⟨rfl, rfl⟩) | ((with_reducible refine (c4 _).mono ?_); rintro e w1 ⟨rfl, rfl⟩))
                      go_ret2
                      rw [HM.out, HREL.out, x46, f1, l2, p2, f2, l4]
                      exact ⟨rfl, rfl⟩
                    · have fr4 : (4 : Int) ≤ (r.size : Int) := by simp at l4; omega
                      cases p4 : ((r.extract 0 4).toList == [98, 101, 116, 97])
                      · skip
                        go_wp2_with (first | ((with_reducible refine (c1 _).mono ?_); rintro e w1 ⟨rfl, rfl⟩) | ((with_reducible refine (c2 _).mono ?_); rintro e w1 ⟨rfl, rfl⟩) | ((with_reducible refine (c4 _).mono ?_); rintro e w1 ⟨rfl, rfl⟩))
                        go_ret2
                        rw [HM.out, HREL.out, x46, f1, l2, p2, f2, l4, p4]
                        exact ⟨rfl, rfl⟩
                      · cases f4 : figs (ls (r.extract 4 r.size))
                        · rw [f4] at c4
                          go_wp2_with (first | ((with_reducible refine (c1 _).mono ?_); rintro e w1 ⟨rfl, rfl⟩) | ((with_reducible refine (c2 _).mono ?_); rintro e w1 ⟨rfl, rfl⟩) | ((with_reducible refine (c4 _).mono ?_); rintro e w1 ⟨rfl, rfl⟩))
                          go_ret2
                          rw [HM.out, HREL.out, x46, f1, l2, p2, f2, l4, p4, f4]
                          exact ⟨rfl, rfl⟩
                        · rw [f4] at c4
                          go_wp2_with (first | ((with_reducible refine (c1 _).mono ?_); rintro e w1 ⟨rfl, rfl⟩) | ((with_reducible refine (c2 _).mono ?_); rintro e w1 ⟨rfl, rfl⟩) | ((with_reducible refine (c4 _).mono ?_); rintro e w1 ⟨rfl, rfl⟩))
                          go_ret2
                          rw [HM.out, HREL.out, x46, f1, l2, p2, f2, l4, p4, f4]
                          exact ⟨rfl, rfl⟩
                  · rw [f2] at c2
                    go_wp2_with (first | ((with_reducible refine (c1 _).mono ?_); rintro e w1 ⟨rfl, rfl⟩) | ((with_reducible refine (c2 _).mono ?_); rintro e w1 ⟨rfl, rfl⟩) | ((with_reducible refine (c4 _).mono ?_); rintro e w1 ⟨rfl, rfl⟩))
                    go_ret2
                    rw [HM.out, HREL.out, x46, f1, l2, p2, f2]
                    exact ⟨rfl, rfl⟩
            · rw [f1] at c1
              go_wp2_with (first | ((with_reducible refine (c1 _).mono ?_); rintro e w1 ⟨rfl, rfl⟩) | ((with_reducible refine (c2 _).mono ?_); rintro e w1 ⟨rfl, rfl⟩) | ((with_reducible refine (c4 _).mono ?_); rintro e w1 ⟨rfl, rfl⟩))
              go_ret2
              rw [HM.out, HREL.out, x46, f1]
              exact ⟨rfl, rfl⟩
    · have hv : valM s 1 ≤ 99 := by have := (valM_lt s 3 hfe.all 1 (by omega) (by omega)).2.2 (by omega); omega
      cases k1 : (((s[2].toNat : Nat) : Int) == 48)
      · skip
        have HM : Hid (minorL (ls s) = if relL (ls (s.extract 3 s.size)) then some (valM s 1) else none) := minor_k3 s hfe HP.out
        have hrs : (s.extract 3 s.size).size ≤ 1000000 := by rw [ByteArray.size_extract]; have := hfe.le; omega
        have fk : (3 : Int) ≤ (s.size : Int) := by have := hfe.le; omega
        have hvs : ((valM s (3 - 2) : Nat) : Int) ≤ 99 := by have := hv; show ((valM s 1 : Nat) : Int) ≤ 99; omega
        have k2 : decide ((99 : Int) < ((valM s (3 - 2) : Nat) : Int)) = false := by rw [decide_eq_false_iff_not]; omega
        clear hfe hv hb2
        go_upto_region 10 with fail
        rw [show valM s 1 = valM s (3 - 2) from rfl] at HM
        generalize valM s (3 - 2) = v at *
        generalize s.extract 3 s.size = r at *
        clear k1 k2 hvs
        have c1 := fun w => refFigures_any (r.extract 1 r.size) (by rw [ByteArray.size_extract]; omega) w
        have c2 := fun w => refFigures_any (r.extract 2 r.size) (by rw [ByteArray.size_extract]; omega) w
        have c4 := fun w => refFigures_any (r.extract 4 r.size) (by rw [ByteArray.size_extract]; omega) w
        by_cases hr0 : r.size = 0
        · have hl : ls r = [] := List.eq_nil_of_length_eq_zero (by rw [ls_len]; exact hr0)
          have e0 : r.toList.isEmpty = true := by rw [empty_ls, hl]; rfl
          rw [hl] at HM
          clear hl hr0 c1 c2 c4
          go_wp2_with fail
          go_ret2
          rw [HM.out]
          exact ⟨rfl, rfl⟩
        · have hr1 : 0 < r.size := by omega
          have e0 : r.toList.isEmpty = false := by
            rw [empty_ls]
            cases hl : ls r with
            | nil => have := ls_len r; rw [hl] at this; simp at this; omega
            | cons c t => rfl
          have HREL := Lib.hid (rel_ref r hr1)
          have fr1 : (1 : Int) ≤ (r.size : Int) := by omega
          have fr0 : (0 : Int) < (r.size : Int) := by omega
          have r256 : r[0].toNat < 256 := r[0].toNat_lt
          have f1M : (r.size : Int) ≤ 1000000 := by omega
          clear hr0 hrs
          cases x46 : (((r[0].toNat : Nat) : Int) == 46)
          · skip
            cases l2 : decide ((2 : Int) < (r.size : Int))
            · have l4 : decide ((4 : Int) < (r.size : Int)) = false := by simp at l2 ⊢; omega
              go_wp2_with (first | ((with_reducible refine (c1 _).mono ?_); rintro e w1 ⟨rfl, rfl⟩) | ((with_reducible refine (c2 _).mono ?_); rintro e w1 ⟨rfl, rfl⟩) | ((with_reducible refine (c4 _).mono ?_); rintro e w1 ⟨rfl, rfl⟩))
              go_ret2
              rw [HM.out, HREL.out, x46, l2, l4]
              exact ⟨rfl, rfl⟩
            · have fr2 : (2 : Int) ≤ (r.size : Int) := by simp at l2; omega
              cases p2 : ((r.extract 0 2).toList == [114, 99])
              · skip
                cases l4 : decide ((4 : Int) < (r.size : Int))
                · skip
                  go_wp2_with (first | ((with_reducible refine (c1 _).mono ?_); rintro e w1 ⟨rfl, rfl⟩) | ((with_reducible refine (c2 _).mono ?_); rintro e w1 ⟨rfl, rfl⟩) | ((with_reducible refine (c4 _).mono ?_); rintro e w1 ⟨rfl, rfl⟩))
                  go_ret2
                  rw [HM.out, HREL.out, x46, l2, p2, l4]
                  exact ⟨rfl, rfl⟩
                · have fr4 : (4 : Int) ≤ (r.size : Int) := by simp at l4; omega
                  cases p4 : ((r.extract 0 4).toList == [98, 101, 116, 97])
                  · skip
                    go_wp2_with (first | ((with_reducible refine (c1 _).mono ?_); rintro e w1 ⟨rfl, rfl⟩) | ((with_reducible refine (c2 _).mono ?_); rintro e w1 ⟨rfl, rfl⟩) | ((with_reducible refine (c4 _).mono ?_); rintro e w1 ⟨rfl, rfl⟩))
                    go_ret2
                    rw [HM.out, HREL.out, x46, l2, p2, l4, p4]
                    exact ⟨rfl, rfl⟩
                  · cases f4 : figs (ls (r.extract 4 r.size))
                    · rw [f4] at c4
                      go_wp2_with (first | ((with_reducible refine (c1 _).mono ?_); rintro e w1 ⟨rfl, rfl⟩) | ((with_reducible refine (c2 _).mono ?_); rintro e w1 ⟨rfl, rfl⟩) | ((with_reducible refine (c4 _).mono ?_); rintro e w1 ⟨rfl, rfl⟩))
                      go_ret2
                      rw [HM.out, HREL.out, x46, l2, p2, l4, p4, f4]
                      exact ⟨rfl, rfl⟩
                    · rw [f4] at c4
                      go_wp2_with (first | ((with_reducible refine (c1 _).mono ?_); rintro e w1 ⟨rfl, rfl⟩) | ((with_reducible refine (c2 _).mono ?_); rintro e w1 ⟨rfl, rfl⟩) | ((with_reducible refine (c4 _).mono ?_); rintro e w1 ⟨rfl, rfl⟩))
                      go_ret2
                      rw [HM.out, HREL.out, x46, l2, p2, l4, p4, f4]
                      exact ⟨rfl, rfl⟩
              · cases f2 : figs (ls (r.extract 2 r.size))
                · rw [f2] at c2
                  cases l4 : decide ((4 : Int) < (r.size : Int))
                  · skip
                    go_wp2_with (first | ((with_reducible refine (c1 _).mono ?_); rintro e w1 ⟨rfl, rfl⟩) | ((with_reducible refine (c2 _).mono ?_); rintro e w1 ⟨rfl, rfl⟩) | ((with_reducible refine (c4 _).mono ?_); rintro e w1 ⟨rfl, rfl⟩))
                    go_ret2
                    rw [HM.out, HREL.out, x46, l2, p2, f2, l4]
                    exact ⟨rfl, rfl⟩
                  · have fr4 : (4 : Int) ≤ (r.size : Int) := by simp at l4; omega
                    cases p4 : ((r.extract 0 4).toList == [98, 101, 116, 97])
                    · skip
                      go_wp2_with (first | ((with_reducible refine (c1 _).mono ?_); rintro e w1 ⟨rfl, rfl⟩) | ((with_reducible refine (c2 _).mono ?_); rintro e w1 ⟨rfl, rfl⟩) | ((with_reducible refine (c4 _).mono ?_); rintro e w1 ⟨rfl, rfl⟩))
                      go_ret2
                      rw [HM.out, HREL.out, x46, l2, p2, f2, l4, p4]
                      exact ⟨rfl, rfl⟩
                    · cases f4 : figs (ls (r.extract 4 r.size))
                      · rw [f4] at c4
                        go_wp2_with (first | ((with_reducible refine (c1 _).mono ?_); rintro e w1 ⟨rfl, rfl⟩) | ((with_reducible refine (c2 _).mono ?_); rintro e w1 ⟨rfl, rfl⟩) | ((with_reducible refine (c4 _).mono ?_); rintro e w1 ⟨rfl, rfl⟩))
                        go_ret2
                        rw [HM.out, HREL.out, x46, l2, p2, f2, l4, p4, f4]
                        exact ⟨rfl, rfl⟩
                      · rw [f4] at c4
                        go_wp2_with (first | ((with_reducible refine (c1 _).mono ?_); rintro e w1 ⟨rfl, rfl⟩) | ((with_reducible refine (c2 _).mono ?_); rintro e w1 ⟨rfl, rfl⟩) | ((with_reducible refine (c4 _).mono ?_); rintro e w1 ⟨rfl, rfl⟩))
                        go_ret2
                        rw [HM.out, HREL.out, x46, l2, p2, f2, l4, p4, f4]
                        exact ⟨rfl, rfl⟩
                · rw [f2] at c2
                  go_wp2_with (first | ((with_reducible refine (c1 _).mono ?_); rintro e w1 ⟨rfl, rfl⟩) | ((with_reducible refine (c2 _).mono ?_); rintro e w1 ⟨rfl, rfl⟩) | ((with_reducible refine (c4 _).mono ?_); rintro e w1 ⟨rfl, rfl⟩))
                  go_ret2
                  rw [HM.out, HREL.out, x46, l2, p2, f2]
                  exact ⟨rfl, rfl⟩
          · cases f1 : figs (ls (r.extract 1 r.size))
            · rw [f1] at c1
              cases l2 : decide ((2 : Int) < (r.size : Int))
              · have l4 : decide ((4 : Int) < (r.size : Int)) = false := by simp at l2 ⊢; omega
                go_wp2_with (first | ((with_reducible refine (c1 _).mono ?_); rintro e w1 ⟨rfl, rfl⟩) | ((with_reducible refine (c2 _).mono ?_); rintro e w1 ⟨rfl, rfl⟩) | ((with_reducible refine (c4 _).mono ?_); rintro e w1 ⟨rfl, rfl⟩))
                go_ret2
                rw [HM.out, HREL.out, x46, f1, l2, l4]
                exact ⟨rfl, rfl⟩
              · have fr2 : (2 : Int) ≤ (r.size : Int) := by simp at l2; omega
                cases p2 : ((r.extract 0 2).toList == [114, 99])
                · skip
                  cases l4 : decide ((4 : Int) < (r.size : Int))
                  · skip
                    go_wp2_with (first | ((with_reducible refine (c1 _).mono ?_); rintro e w1 ⟨rfl, rfl⟩) | ((with_reducible refine (c2 _).mono ?_); rintro e w1 ⟨rfl, rfl⟩) | ((with_reducible refine (c4 _).mono ?_); rintro e w1 ⟨rfl, rfl⟩))
                    go_ret2
                    rw [HM.out, HREL.out, x46, f1, l2, p2, l4]
                    exact ⟨rfl, rfl⟩
                  · have fr4 : (4 : Int) ≤ (r.size : Int) := by simp at l4; omega
                    cases p4 : ((r.extract 0 4).toList == [98, 101, 116, 97])
                    · skip
                      go_wp2_with (first | ((with_reducible refine (c1 _).mono ?_); rintro e w1 ⟨rfl, rfl⟩) | ((with_reducible refine (c2 _).mono ?_); rintro e w1 ⟨rfl, rfl⟩) | ((with_reducible refine (c4 _).mono ?_); rintro e w1 ⟨rfl, rfl⟩))
                      go_ret2
                      rw [HM.out, HREL.out, x46, f1, l2, p2, l4, p4]
                      exact ⟨rfl, rfl⟩
                    · cases f4 : figs (ls (r.extract 4 r.size))
                      · rw [f4] at c4
                        go_wp2_with (first | ((with_reducible refine (c1 _).mono ?_); rintro e w1 ⟨rfl, rfl⟩) | ((with_reducible refine (c2 _).mono ?_); rintro e w1 ⟨rfl, rfl⟩) | ((with_reducible refine (c4 _).mono ?_); rintro e w1 ⟨rfl, rfl⟩))
                        go_ret2
                        rw [HM.out, HREL.out, x46, f1, l2, p2, l4, p4, f4]
                        exact ⟨rfl, rfl⟩
                      · rw [f4] at c4
                        go_wp2_with (first | ((with_reducible refine (c1 _).mono ?_); rintro e w1 ⟨rfl, rfl⟩) | ((with_reducible refine (c2 _).mono ?_); rintro e w1 ⟨rfl, rfl⟩) | ((with_reducible refine (c4 _).mono ?_); rintro e w1 ⟨rfl, rfl⟩))
                        go_ret2
                        rw [HM.out, HREL.out, x46, f1, l2, p2, l4, p4, f4]
                        exact ⟨rfl, rfl⟩
                · cases f2 : figs (ls (r.extract 2 r.size))
                  · rw [f2] at c2
                    cases l4 : decide ((4 : Int) < (r.size : Int))
                    · skip
                      go_wp2_with (first | ((with_reducible refine (c1 _).mono ?_); rintro e w1 ⟨rfl, rfl⟩) | ((with_reducible refine (c2 _).mono ?_); rintro e w1 ⟨rfl, rfl⟩) | ((with_reducible refine (c4 _).mono ?_); rintro e w1 ⟨rfl, rfl⟩))
                      go_ret2
                      rw [HM.out, HREL.out, x46, f1, l2, p2, f2, l4]
                      exact ⟨rfl, rfl⟩
                    · have fr4 : (4 : Int) ≤ (r.size : Int) := by simp at l4; omega
                      cases p4 : ((r.extract 0 4).toList == [98, 101, 116, 97])
                      · skip
                        go_wp2_with (first | ((with_reducible refine (c1 _).mono ?_); rintro e w1 ⟨rfl, rfl⟩) | ((with_reducible refine (c2 _).mono ?_); rintro e w1 ⟨rfl, rfl⟩) | ((with_reducible refine (c4 _).mono ?_); rintro e w1 ⟨rfl, rfl⟩))
                        go_ret2
                        rw [HM.out, HREL.out, x46, f1, l2, p2, f2, l4, p4]
                        exact ⟨rfl, rfl⟩
                      · cases f4 : figs (ls (r.extract 4 r.size))
                        · rw [f4] at c4
                          go_wp2_with (first | ((with_reducible refine (c1 _).mono ?_); rintro e w1 ⟨rfl, rfl⟩) | ((with_reducible refine (c2 _).mono ?_); rintro e w1 ⟨rfl, rfl⟩) | ((with_reducible refine (c4 _).mono ?_); rintro e w1 ⟨rfl, rfl⟩))
                          go_ret2
                          rw [HM.out, HREL.out, x46, f1, l2, p2, f2, l4, p4, f4]
                          exact ⟨rfl, rfl⟩
                        · rw [f4] at c4
                          go_wp2_with (first | ((with_reducible refine (c1 _).mono ?_); rintro e w1 ⟨rfl, rfl⟩) | ((with_reducible refine (c2 _).mono ?_); rintro e w1 ⟨rfl, rfl⟩) | ((with_reducible refine (c4 _).mono ?_); rintro e w1 ⟨rfl, rfl⟩))
                          go_ret2
                          rw [HM.out, HREL.out, x46, f1, l2, p2, f2, l4, p4, f4]
                          exact ⟨rfl, rfl⟩
                  · rw [f2] at c2
                    go_wp2_with (first | ((with_reducible refine (c1 _).mono ?_); rintro e w1 ⟨rfl, rfl⟩) | ((with_reducible refine (c2 _).mono ?_); rintro e w1 ⟨rfl, rfl⟩) | ((with_reducible refine (c4 _).mono ?_); rintro e w1 ⟨rfl, rfl⟩))
                    go_ret2
                    rw [HM.out, HREL.out, x46, f1, l2, p2, f2]
                    exact ⟨rfl, rfl⟩
            · rw [f1] at c1
              go_wp2_with (first | ((with_reducible refine (c1 _).mono ?_); rintro e w1 ⟨rfl, rfl⟩) | ((with_reducible refine (c2 _).mono ?_); rintro e w1 ⟨rfl, rfl⟩) | ((with_reducible refine (c4 _).mono ?_); rintro e w1 ⟨rfl, rfl⟩))
              go_ret2
              rw [HM.out, HREL.out, x46, f1]
              exact ⟨rfl, rfl⟩
      · skip
        have HM : Hid (minorL (ls s) = if relL (ls (s.extract 3 s.size)) then some (valM s 1) else none) := minor_k3 s hfe HP.out
        have hrs : (s.extract 3 s.size).size ≤ 1000000 := by rw [ByteArray.size_extract]; have := hfe.le; omega
        have fk : (3 : Int) ≤ (s.size : Int) := by have := hfe.le; omega
        have hvs : ((valM s (3 - 2) : Nat) : Int) ≤ 99 := by have := hv; show ((valM s 1 : Nat) : Int) ≤ 99; omega
        have k2 : decide ((99 : Int) < ((valM s (3 - 2) : Nat) : Int)) = false := by rw [decide_eq_false_iff_not]; omega
        clear hfe hv hb2
        go_upto_region 10 with fail
        rw [show valM s 1 = valM s (3 - 2) from rfl] at HM
        generalize valM s (3 - 2) = v at *
        generalize s.extract 3 s.size = r at *
        clear k1 k2 hvs
        have c1 := fun w => refFigures_any (r.extract 1 r.size) (by rw [ByteArray.size_extract]; omega) w
        have c2 := fun w => refFigures_any (r.extract 2 r.size) (by rw [ByteArray.size_extract]; omega) w
        have c4 := fun w => refFigures_any (r.extract 4 r.size) (by rw [ByteArray.size_extract]; omega) w
        by_cases hr0 : r.size = 0
        · have hl : ls r = [] := List.eq_nil_of_length_eq_zero (by rw [ls_len]; exact hr0)
          have e0 : r.toList.isEmpty = true := by rw [empty_ls, hl]; rfl
          rw [hl] at HM
          clear hl hr0 c1 c2 c4
          go_wp2_with fail
          go_ret2
          rw [HM.out]
          exact ⟨rfl, rfl⟩
        · have hr1 : 0 < r.size := by omega
          have e0 : r.toList.isEmpty = false := by
            rw [empty_ls]
            cases hl : ls r with
            | nil => have := ls_len r; rw [hl] at this; simp at this; omega
            | cons c t => rfl
          have HREL := Lib.hid (rel_ref r hr1)
          have fr1 : (1 : Int) ≤ (r.size : Int) := by omega
          have fr0 : (0 : Int) < (r.size : Int) := by omega
          have r256 : r[0].toNat < 256 := r[0].toNat_lt
          have f1M : (r.size : Int) ≤ 1000000 := by omega
          clear hr0 hrs
          cases x46 : (((r[0].toNat : Nat) : Int) == 46)
          · skip
            cases l2 : decide ((2 : Int) < (r.size : Int))
            · have l4 : decide ((4 : Int) < (r.size : Int)) = false := by simp at l2 ⊢; omega
              go_wp2_with (first | ((with_reducible refine (c1 _).mono ?_); rintro e w1 ⟨rfl, rfl⟩) | ((with_reducible refine (c2 _).mono ?_); rintro e w1 ⟨rfl, rfl⟩) | ((with_reducible refine (c4 _).mono ?_); rintro e w1 ⟨rfl, rfl⟩))
              go_ret2
              rw [HM.out, HREL.out, x46, l2, l4]
              exact ⟨rfl, rfl⟩
            · have fr2 : (2 : Int) ≤ (r.size : Int) := by simp at l2; omega
              cases p2 : ((r.extract 0 2).toList == [114, 99])
              · skip
                cases l4 : decide ((4 : Int) < (r.size : Int))
                · skip
                  go_wp2_with (first | ((with_reducible refine (c1 _).mono ?_); rintro e w1 ⟨rfl, rfl⟩) | ((with_reducible refine (c2 _).mono ?_); rintro e w1 ⟨rfl, rfl⟩) | ((with_reducible refine (c4 _).mono ?_); rintro e w1 ⟨rfl, rfl⟩))
                  go_ret2
                  rw [HM.out, HREL.out, x46, l2, p2, l4]
                  exact ⟨rfl, rfl⟩
                · have fr4 : (4 : Int) ≤ (r.size : Int) := by simp at l4; omega
                  cases p4 : ((r.extract 0 4).toList == [98, 101, 116, 97])
                  · skip
                    go_wp2_with (first | ((with_reducible refine (c1 _).mono ?_); rintro e w1 ⟨rfl, rfl⟩) | ((with_reducible refine (c2 _).mono ?_); rintro e w1 ⟨rfl, rfl⟩) | ((with_reducible refine (c4 _).mono ?_); rintro e w1 ⟨rfl, rfl⟩))
                    go_ret2
                    rw [HM.out, HREL.out, x46, l2, p2, l4, p4]
                    exact ⟨rfl, rfl⟩
                  · cases f4 : figs (ls (r.extract 4 r.size))
                    · rw [f4] at c4
                      go_wp2_with (first | ((with_reducible refine (c1 _).mono ?_); rintro e w1 ⟨rfl, rfl⟩) | ((with_reducible refine (c2 _).mono ?_); rintro e w1 ⟨rfl, rfl⟩) | ((with_reducible refine (c4 _).mono ?_); rintro e w1 ⟨rfl, rfl⟩))
                      go_ret2
                      rw [HM.out, HREL.out, x46, l2, p2, l4, p4, f4]
                      exact ⟨rfl, rfl⟩
                    · rw [f4] at c4
                      go_wp2_with (first | ((with_reducible refine (c1 _).mono ?_); rintro e w1 ⟨rfl, rfl⟩) | ((with_reducible refine (c2 _).mono ?_); rintro e w1 ⟨rfl, rfl⟩) | ((with_reducible refine (c4 _).mono ?_); rintro e w1 ⟨rfl, rfl⟩))
                      go_ret2
                      rw [HM.out, HREL.out, x46, l2, p2, l4, p4, f4]
                      exact ⟨rfl, rfl⟩
              · cases f2 : figs (ls (r.extract 2 r.size))
                · rw [f2] at c2
                  cases l4 : decide ((4 : Int) < (r.size : Int))
                  · skip
                    go_wp2_with (first | ((with_reducible refine (c1 _).mono ?_); rintro e w1 ⟨rfl, rfl⟩) | ((with_reducible refine (c2 _).mono ?_); rintro e w1 ⟨rfl, rfl⟩) | ((with_reducible refine (c4 _).mono ?_); rintro e w1 ⟨rfl, rfl⟩))
                    go_ret2
                    rw [HM.out, HREL.out, x46, l2, p2, f2, l4]
                    exact ⟨rfl, rfl⟩
                  · have fr4 : (4 : Int) ≤ (r.size : Int) := by simp at l4; omega
                    cases p4 : ((r.extract 0 4).toList == [98, 101, 116, 97])
                    · skip
                      go_wp2_with (first | ((with_reducible refine (c1 _).mono ?_); rintro e w1 ⟨rfl, rfl⟩) | ((with_reducible refine (c2 _).mono ?_); rintro e w1 ⟨rfl, rfl⟩) | ((with_reducible refine (c4 _).mono ?_); rintro e w1 ⟨rfl, rfl⟩))
                      go_ret2
                      rw [HM.out, HREL.out, x46, l2, p2, f2, l4, p4]
                      exact ⟨rfl, rfl⟩
                    · cases f4 : figs (ls (r.extract 4 r.size))
                      · rw [f4] at c4
                        go_wp2_with (first | ((with_reducible refine (c1 _).mono ?_); rintro e w1 ⟨rfl, rfl⟩) | ((with_reducible refine (c2 _).mono ?_); rintro e w1 ⟨rfl, rfl⟩) | ((with_reducible refine (c4 _).mono ?_); rintro e w1 ⟨rfl, rfl⟩))
                        go_ret2
                        rw [HM.out, HREL.out, x46, l2, p2, f2, l4, p4, f4]
                        exact ⟨rfl, rfl⟩
                      · rw [f4] at c4
                        go_wp2_with (first | ((with_reducible refine (c1 _).mono ?_); rintro e w1 ⟨rfl, rfl⟩) | ((with_reducible refine (c2 _).mono ?_); rintro e w1 ⟨rfl, rfl⟩) | ((with_reducible refine (c4 _).mono ?_); rintro e w1 ⟨rfl, rfl⟩))
                        go_ret2
                        rw [HM.out, HREL.out, x46, l2, p2, f2, l4, p4, f4]
                        exact ⟨rfl, rfl⟩
                · rw [f2] at c2
                  go_wp2_with (first | ((with_reducible refine (c1 _).mono ?_); rintro e w1 ⟨rfl, rfl⟩) | ((with_reducible refine (c2 _).mono ?_); rintro e w1 ⟨rfl, rfl⟩) | ((with_reducible refine (c4 _).mono ?_); rintro e w1 ⟨rfl, rfl⟩))
                  go_ret2
                  rw [HM.out, HREL.out, x46, l2, p2, f2]
                  exact ⟨rfl, rfl⟩
          · cases f1 : figs (ls (r.extract 1 r.size))
            · rw [f1] at c1
              cases l2 : decide ((2 : Int) < (r.size : Int))
              · have l4 : decide ((4 : Int) < (r.size : Int)) = false := by simp at l2 ⊢; omega
                go_wp2_with (first | ((with_reducible refine (c1 _).mono ?_); rintro e w1 ⟨rfl, rfl⟩) | ((with_reducible refine (c2 _).mono ?_); rintro e w1 ⟨rfl, rfl⟩) | ((with_reducible refine (c4 _).mono ?_); rintro e w1 ⟨rfl, rfl⟩))
                go_ret2
                rw [HM.out, HREL.out, x46, f1, l2, l4]
                exact ⟨rfl, rfl⟩
              · have fr2 : (2 : Int) ≤ (r.size : Int) := by simp at l2; omega
                cases p2 : ((r.extract 0 2).toList == [114, 99])
                · skip
                  cases l4 : decide ((4 : Int) < (r.size : Int))
                  · skip
                    go_wp2_with (first | ((with_reducible refine (c1 _).mono ?_); rintro e w1 ⟨rfl, rfl⟩) | ((with_reducible refine (c2 _).mono ?_); rintro e w1 ⟨rfl, rfl⟩) | ((with_reducible refine (c4 _).mono ?_); rintro e w1 ⟨rfl, rfl⟩))
                    go_ret2
                    rw [HM.out, HREL.out, x46, f1, l2, p2, l4]
                    exact ⟨rfl, rfl⟩
                  · have fr4 : (4 : Int) ≤ (r.size : Int) := by simp at l4; omega
                    cases p4 : ((r.extract 0 4).toList == [98, 101, 116, 97])
                    · skip
                      go_wp2_with (first | ((with_reducible refine (c1 _).mono ?_); rintro e w1 ⟨rfl, rfl⟩) | ((with_reducible refine (c2 _).mono ?_); rintro e w1 ⟨rfl, rfl⟩) | ((with_reducible refine (c4 _).mono ?_); rintro e w1 ⟨rfl, rfl⟩))
                      go_ret2
                      rw [HM.out, HREL.out, x46, f1, l2, p2, l4, p4]
                      exact ⟨rfl, rfl⟩
                    · cases f4 : figs (ls (r.extract 4 r.size))
                      · rw [f4] at c4
                        go_wp2_with (first | ((with_reducible refine (c1 _).mono ?_); rintro e w1 ⟨rfl, rfl⟩) | ((with_reducible refine (c2 _).mono ?_); rintro e w1 ⟨rfl, rfl⟩) | ((with_reducible refine (c4 _).mono ?_); rintro e w1 ⟨rfl, rfl⟩))
                        go_ret2
                        rw [HM.out, HREL.out, x46, f1, l2, p2, l4, p4, f4]
                        exact ⟨rfl, rfl⟩
                      · rw [f4] at c4
                        go_wp2_with (first | ((with_reducible refine (c1 _).mono ?_); rintro e w1 ⟨rfl, rfl⟩) | ((with_reducible refine (c2 _).mono ?_); rintro e w1 ⟨rfl, rfl⟩) | ((with_reducible refine (c4 _).mono ?_); rintro e w1 ⟨rfl, rfl⟩))
                        go_ret2
                        rw [HM.out, HREL.out, x46, f1, l2, p2, l4, p4, f4]
                        exact ⟨rfl, rfl⟩
                · cases f2 : figs (ls (r.extract 2 r.size))
                  · rw [f2] at c2
                    cases l4 : decide ((4 : Int) < (r.size : Int))
                    · skip
                      go_wp2_with (first | ((with_reducible refine (c1 _).mono ?_); rintro e w1 ⟨rfl, rfl⟩) | ((with_reducible refine (c2 _).mono ?_); rintro e w1 ⟨rfl, rfl⟩) | ((with_reducible refine (c4 _).mono ?_); rintro e w1 ⟨rfl, rfl⟩))
                      go_ret2
                      rw [HM.out, HREL.out, x46, f1, l2, p2, f2, l4]
                      exact ⟨rfl, rfl⟩
                    · have fr4 : (4 : Int) ≤ (r.size : Int) := by simp at l4; omega
                      cases p4 : ((r.extract 0 4).toList == [98, 101, 116, 97])
                      · skip
                        go_wp2_with (first | ((with_reducible refine (c1 _).mono ?_); rintro e w1 ⟨rfl, rfl⟩) | ((with_reducible refine (c2 _).mono ?_); rintro e w1 ⟨rfl, rfl⟩) | ((with_reducible refine (c4 _).mono ?_); rintro e w1 ⟨rfl, rfl⟩))
                        go_ret2
                        rw [HM.out, HREL.out, x46, f1, l2, p2, f2, l4, p4]
                        exact ⟨rfl, rfl⟩
                      · cases f4 : figs (ls (r.extract 4 r.size))
                        · rw [f4] at c4
                          go_wp2_with (first | ((with_reducible refine (c1 _).mono ?_); rintro e w1 ⟨rfl, rfl⟩) | ((with_reducible refine (c2 _).mono ?_); rintro e w1 ⟨rfl, rfl⟩) | ((with_reducible refine (c4 _).mono ?_); rintro e w1 ⟨rfl, rfl⟩))
                          go_ret2
                          rw [HM.out, HREL.out, x46, f1, l2, p2, f2, l4, p4, f4]
                          exact ⟨rfl, rfl⟩
                        · rw [f4] at c4
                          go_wp2_with (first | ((with_reducible refine (c1 _).mono ?_); rintro e w1 ⟨rfl, rfl⟩) | ((with_reducible refine (c2 _).mono ?_); rintro e w1 ⟨rfl, rfl⟩) | ((with_reducible refine (c4 _).mono ?_); rintro e w1 ⟨rfl, rfl⟩))
                          go_ret2
                          rw [HM.out, HREL.out, x46, f1, l2, p2, f2, l4, p4, f4]
                          exact ⟨rfl, rfl⟩
                  · rw [f2] at c2
                    go_wp2_with (first | ((with_reducible refine (c1 _).mono ?_); rintro e w1 ⟨rfl, rfl⟩) | ((with_reducible refine (c2 _).mono ?_); rintro e w1 ⟨rfl, rfl⟩) | ((with_reducible refine (c4 _).mono ?_); rintro e w1 ⟨rfl, rfl⟩))
                    go_ret2
                    rw [HM.out, HREL.out, x46, f1, l2, p2, f2]
                    exact ⟨rfl, rfl⟩
            · rw [f1] at c1
              go_wp2_with (first | ((with_reducible refine (c1 _).mono ?_); rintro e w1 ⟨rfl, rfl⟩) | ((with_reducible refine (c2 _).mono ?_); rintro e w1 ⟨rfl, rfl⟩) | ((with_reducible refine (c4 _).mono ?_); rintro e w1 ⟨rfl, rfl⟩))
              go_ret2
              rw [HM.out, HREL.out, x46, f1]
              exact ⟨rfl, rfl⟩
end Go.Proofs.YtnghlhkgeahfmaaDoor
