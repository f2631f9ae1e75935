/- TokenLines: the walk. -/
import Derived.Test.YtjgiebdbeejdaaaDoorTok24
namespace Go.Proofs.YtjgiebdbeejdaaaDoor
open Go.RowKit Go.Joins
set_option linter.unusedVariables false

theorem scanR_good {s : ByteArray} (h : (scanR s).err = 0) : ∀ tk ∈ (scanR s).st.toks, GoodT tk := fun tk htk => allP_good (scanR_ok h).2.2.1 tk htk

/-- Behind what is put in: the token ahead of it is none of kind 6, or one of five. -/
theorem put_ahead {l : List Tk} (hk : ∀ tk ∈ l, GoodT tk) (hp : PutOk l) {i : Nat} {tk : Tk} (hi : l[i]? = some tk) (ht : tk.text.toList = [10]) :
    ∃ j u, i = j + 1 ∧ l[j]? = some u ∧ ((u.kind == 6) = false ∨ (u.kind = 6 ∧ (u.text.toList = [41] ∨ u.text.toList = [93] ∨ u.text.toList = [125] ∨ u.text.toList = [43, 43] ∨ u.text.toList = [45, 45]))) := by
  have hx : tk.text = nlT := by
    apply ByteArray.ext
    apply Array.ext'
    rw [ByteArray.toList_eq] at ht
    exact ht
  obtain ⟨j, u, h1, h2, h3⟩ := hp i tk hi hx
  have hm : u ∈ l := List.mem_of_getElem? h2
  refine ⟨j, u, h1, h2, ?_⟩
  by_cases h6 : u.kind = 6
  · exact .inr ⟨h6, six_ends (hk u hm).kindOk (hk u hm) h3 h6⟩
  · exact .inl (beq_eq_false_iff_ne.2 h6)

set_option maxHeartbeats 2000000 in
set_option maxRecDepth 100000 in
theorem lines_walk (a : Option Addr) (cap : Nat) (s : ByteArray) (w : World) (ht : Text w a s) (hcap : s.size ≤ cap) (hT : Tabs w) (hm : MaxLen w) :
    Calls Tryd.prog 8 #[.slice a s.size cap] w fun e w' => e = .returned (.bool true) ∧ Below w.heap.size w w' := by
  by_cases hl : 1000 < s.size
  · go_enter Tryd.func8, Tryd.ntmps8
    go_wp2
    go_ret
    exact ⟨rfl, Below.refl _ w⟩
  have h1 := toks_any s a cap w ht hT hm hcap
  unfold ToksEnds at h1
  have H1 := Lib.hid h1
  clear h1
  have HT := Lib.hid hT
  have HM := Lib.hid hm
  have HG : Hid ((scanR s).err = 0 → ∀ tk ∈ (scanR s).st.toks, GoodT tk) := fun h => scanR_good h
  have HP : Hid ((scanR s).err = 0 → PutOk (scanR s).st.toks) := fun h => scanR_put h
  have HL : Hid ((scanR s).err = 0 → ∀ tk, (scanR s).st.toks.getLast? = some tk → endsB tk = false) := fun h => scanR_last h
  clear ht hT hm hcap
  generalize scanR s = o at *
  obtain ⟨err, pos, at_, toks, notes⟩ := o
  go_enter Tryd.func8, Tryd.ntmps8
  go_wp2_with fail
  refine H1.out.mono ?_
  rintro e w1 ⟨hb, vt, rfl, hrow⟩
  obtain ⟨a1, c1, rfl, hc1, hm1, hta⟩ := tokAt_of_row hrow
  have HB := Lib.hid hb
  have HA := Lib.hid hta
  clear hb hrow hta H1
  dsimp only at *
  by_cases he : err = 0
  case neg =>
    have g1 : (err == 0) = false := beq_eq_false_iff_ne.2 he
    have g2 : (err != 0) = true := by rw [bne, g1]; rfl
    clear he
    go_wp2_with fail
    refine (awake_any w1 (HT.out.below HB.out) (HM.out.below HB.out)).mono ?_
    rintro e w2 ⟨rfl, hb2⟩
    have HB2 := Lib.hid (HB.out.trans (hb2.mono HB.out.size))
    clear hb2
    go_wp2
    go_ret
    exact ⟨rfl, HB2.out⟩
  subst he
  have HGS : Hid (∀ tk ∈ toks, GoodT tk) := HG.out rfl
  have HPS : Hid (PutOk toks) := HP.out rfl
  have HLS : Hid (∀ tk, toks.getLast? = some tk → endsB tk = false) := HL.out rfl
  clear HG HP HL
  generalize hn : toks.length = n at *
  have hmx : n ≤ 9223372036854775807 := by unfold maxLen at hm1; omega
  go_wp2
  go_loopw [6] (fun v wr => ∃ i : Nat, v = .int .i64 i ∧ i ≤ n ∧ Hid (Below w.heap.size w wr) ∧ Hid (TokAt wr a1 toks)) (fun v _ => n - (intOf v).toNat)
  case atStart => exact ⟨0, rfl, Nat.zero_le _, HB, HA⟩
  case round =>
    obtain ⟨i, rfl, hi, HBr, HAr⟩ := hrel
    by_cases hlt : i < n
    · have gi : decide (i < n) = true := decide_eq_true hlt
      have hmem : ∃ tk, toks[i]? = some tk := ⟨toks[i]'(by omega), by simp [hn, hlt]⟩
      obtain ⟨tk, htk⟩ := hmem
      obtain ⟨g, rfl, hg, d0, d1, d2⟩ := HAr.out.at htk
      cases hq : (tk.text.toList == [10])
      · have HQ := Lib.hid hq
        obtain ⟨kind, text, ta⟩ := tk
        dsimp only at *
        clear htk
        go_wp2
        go_roundw
        case rel => exact ⟨i + 1, by go_num, hlt, HBr.out, HAr.out⟩
        case measure => simp [intOf]; omega
      · have hq' : tk.text.toList = [10] := beq_iff_eq.1 hq
        obtain ⟨j, u, rfl, hj, hu⟩ := put_ahead HGS.out HPS.out htk hq'
        obtain ⟨g', he', hg', f0, f1, f2⟩ := HAr.out.at hj
        obtain rfl : g = g' := by injection he' with e; injection e
        obtain ⟨kind, text, ta⟩ := tk
        obtain ⟨uk, ut, ua⟩ := u
        dsimp only at *
        clear htk hj hq he' hg'
        have gj : decide (j < n) = true := decide_eq_true (by omega)
        have gj0 : ((j : Int) + 1 == 0) = false := beq_eq_false_iff_ne.2 (by omega)
        have gj1 : (((j + 1 : Nat) : Int) == 0) = false := beq_eq_false_iff_ne.2 (by omega)
        rcases hu with hu | ⟨rfl, hu | hu | hu | hu | hu⟩
        · have hu6 : (((uk : Nat) : Int) == 6) = false := beq_eq_false_iff_ne.2 (by have := beq_eq_false_iff_ne.1 hu; omega)
          clear hu
          go_wp2
          all_goals exact ⟨⟨j + 1 + 1, by go_num, by omega, HBr.out, HAr.out⟩, by simp [intOf]; omega⟩
        all_goals
          go_wp2
          all_goals exact ⟨⟨j + 1 + 1, by go_num, by omega, HBr.out, HAr.out⟩, by simp [intOf]; omega⟩
    · have gi : decide (i < n) = false := decide_eq_false hlt
      by_cases h0 : n = 0
      · have g0 : ((n : Int) == 0) = true := by rw [h0]; rfl
        go_wp2_with fail
        refine (awake_any wr (HT.out.below HBr.out) (HM.out.below HBr.out)).mono ?_
        rintro e w2 ⟨rfl, hb2⟩
        have HB2 := Lib.hid (HBr.out.trans (hb2.mono HBr.out.size))
        clear hb2
        go_wp2
        go_ret
        exact ⟨rfl, HB2.out⟩
      · have g0 : ((n : Int) == 0) = false := beq_eq_false_iff_ne.2 (by omega)
        obtain ⟨m, rfl⟩ : ∃ m, n = m + 1 := ⟨n - 1, by omega⟩
        have hmem : ∃ tk, toks[m]? = some tk := ⟨toks[m]'(by omega), by simp [hn]⟩
        obtain ⟨tk, htk⟩ := hmem
        have hle := HLS.out tk (by rw [List.getLast?_eq_getElem?, hn]; exact htk)
        obtain ⟨e1, e4, e5, er, ep⟩ := no_ends hle
        obtain ⟨g, rfl, hg, d0, d1, d2⟩ := HAr.out.at htk
        obtain ⟨kind, text, ta⟩ := tk
        dsimp only at *
        clear htk hle h0
        have i1 : ¬ ((kind : Nat) : Int) = 1 := by have := beq_eq_false_iff_ne.1 e1; omega
        have i4 : ¬ ((kind : Nat) : Int) = 4 := by have := beq_eq_false_iff_ne.1 e4; omega
        have i5 : ¬ ((kind : Nat) : Int) = 5 := by have := beq_eq_false_iff_ne.1 e5; omega
        clear e1 e4 e5
        have gm : decide (m < m + 1) = true := decide_eq_true (by omega)
        have HBa := Lib.hid ((Below.refl wr.heap.size wr).alloc (Nat.le_refl _) (.cells #[.int .i64 kind, .string text, .int .i64 ta] 38))
        have HBb := Lib.hid (HBr.out.trans (HBa.out.mono HBr.out.size))
        go_wp2_with fail
        all_goals first
          | (exfalso; omega)
          | skip
        all_goals
          refine (awake_any _ (HT.out.below HBb.out) (HM.out.below HBb.out)).mono ?_
          rintro e w2 ⟨rfl, hb2⟩
          have HB2 := Lib.hid (HBb.out.trans (hb2.mono HBb.out.size))
          clear hb2
          go_wp2
          all_goals
            go_ret
            exact ⟨by simp; omega, HB2.out⟩
end Go.Proofs.YtjgiebdbeejdaaaDoor
