/- LitTokens: the walk. -/
import Derived.Test.YtijinpnbhnfiiaaDoorLit24
import Derived.Test.YtijinpnbhnfiiaaDoorLit18
import Derived.Laws.Concat
namespace Go.Proofs.YtijinpnbhnfiiaaDoor
open Go.RowKit
set_option linter.unusedVariables false

theorem isEq (e : Int) (h : e = 0) : (e == 0) = true ∧ (e != 0) = false := by subst h; exact ⟨rfl, rfl⟩
theorem isNe (e : Int) (h : e ≠ 0) : (e == 0) = false ∧ (e != 0) = true := by
  have : (e == 0) = false := beq_eq_false_iff_ne.2 h
  exact ⟨this, by rw [bne, this]; rfl⟩

/-- The cells of the first token of a row. -/
theorem TokAt.head {w : World} {a : Option Addr} {t : Tk} {l : List Tk} (h : TokAt w a (t :: l)) : ∃ g, a = some ⟨g, 0, none⟩ ∧ g < w.heap.size ∧ w.cell? ⟨g, 0, none⟩ = some (.int .i64 t.kind) ∧ w.cell? ⟨g, 1, none⟩ = some (.string t.text) := by
  obtain ⟨g, e, hg, h0, h1, -⟩ := h.at (i := 0) rfl
  simp only [Nat.zero_mul, Nat.zero_add] at h0 h1
  exact ⟨g, e, hg, h0, h1⟩

set_option maxHeartbeats 4000000 in
set_option maxRecDepth 100000 in
theorem tokens_walk (s : ByteArray) (w : World) (hT : Tabs w) (hm : MaxLen w) :
    Calls Tryd.prog 6 #[.string s] w fun e w' => e = .returned (.bool true) ∧ Below w.heap.size w w' := by
  by_cases h1 : 300 < s.size
  · have g1 : decide ((300 : Int) < s.size) = true := decide_eq_true (by omega)
    go_enter Tryd.func6, Tryd.ntmps6
    go_wp2
    go_ret
    exact ⟨rfl, Below.refl _ w⟩
  have g1 : decide ((300 : Int) < s.size) = false := decide_eq_false (by omega)
  have HT := Lib.hid hT
  have HM := Lib.hid hm
  have HN := Lib.hid (num_any s w)
  have HX := Lib.hid (fun W (h : Tabs W) => txt_any s W h)
  have HS := Lib.hid (fun (a' : Option Addr) (c' : Nat) (W : World) (h1 : Text W a' s) (h2 : Tabs W) (h3 : MaxLen W) (h4 : s.size ≤ c') => toks_any s a' c' W h1 h2 h3 h4)
  unfold ToksEnds at HS
  have TN : Hid ((numR s).2 = 0 → (scanR s).err = 0 ∧ (scanR s).st.toks = [⟨4, s, 0⟩, ⟨6, nlT, s.size⟩]) := fun h => num_token s (numR s).1 (by rw [← h])
  have TX : Hid ((txtR s).2 = 0 → (scanR s).err = 0 ∧ (scanR s).st.toks = [⟨5, s, 0⟩, ⟨6, nlT, s.size⟩]) := fun h => txt_token s (txtR s).1 (by rw [← h])
  generalize scanR s = o at *
  generalize numR s = r1 at *
  generalize txtR s = r2 at *
  obtain ⟨n1, e1⟩ := r1
  obtain ⟨n2, e2⟩ := r2
  obtain ⟨err, pos, at_, toks, notes⟩ := o
  unfold MeantEnds at HN HX
  dsimp only at *
  clear hT hm h1
  go_enter Tryd.func6, Tryd.ntmps6
  go_wp2_with fail
  refine HN.out.mono ?_
  rintro e w1 ⟨rfl, hb1⟩
  have HB1 := Lib.hid hb1
  clear hb1 HN
  go_wp2_with fail
  refine (HX.out w1 (HT.out.below HB1.out)).mono ?_
  rintro e w2 ⟨rfl, hb2⟩
  have HB2 := Lib.hid (HB1.out.trans (hb2.mono HB1.out.size))
  clear hb2 HX HB1
  obtain ⟨w3, c3, hcv, hc3, ht3, hb3⟩ := conv_text w2 s
  have HB3 := Lib.hid (HB2.out.trans (hb3.mono HB2.out.size))
  have H3 := Lib.hid (HS.out _ c3 w3 ht3 (HT.out.below HB3.out) (HM.out.below HB3.out) hc3)
  clear hb3 ht3 HB2 HS hc3
  go_wp2_with fail
  refine H3.out.mono ?_
  rintro e w4 ⟨hb4, vt, rfl, hrow⟩
  obtain ⟨at1, ct1, rfl, hct1, hmt1, hta⟩ := tokAt_of_row hrow
  have HB4 := Lib.hid (HB3.out.trans (hb4.mono HB3.out.size))
  have HA := Lib.hid hta
  have HW := Lib.hid (awake_any w4 (HT.out.below HB4.out))
  clear hb4 hrow hta H3 HB3 hcv
  by_cases h1 : e1 = 0
  · obtain ⟨hs1, hs2⟩ := TN.out h1
    have h2 : e2 ≠ 0 := fun h2 => by
      have := (TX.out h2).2
      rw [hs2] at this
      injection this with h3
      injection h3 with h4
      exact absurd h4 (by decide)
    subst hs1 hs2
    obtain ⟨i1, i2⟩ := isEq e1 h1
    obtain ⟨i3, i4⟩ := isNe e2 h2
    obtain ⟨g, rfl, hg, d0, d1⟩ := HA.out.head
    clear h1 h2 TN TX HA
    dsimp only at d0 d1
    go_wp2_with fail
    refine HW.out.mono ?_
    rintro e w5 ⟨rfl, hb5⟩
    have HB5 := Lib.hid (HB4.out.trans (hb5.mono HB4.out.size))
    clear hb5
    go_wp2
    go_ret
    exact ⟨rfl, HB5.out⟩
  · obtain ⟨i1, i2⟩ := isNe e1 h1
    by_cases h2 : e2 = 0
    · obtain ⟨hs1, hs2⟩ := TX.out h2
      subst hs1 hs2
      obtain ⟨i3, i4⟩ := isEq e2 h2
      obtain ⟨g, rfl, hg, d0, d1⟩ := HA.out.head
      clear h1 h2 TN TX HA
      dsimp only at d0 d1
      go_wp2_with fail
      refine HW.out.mono ?_
      rintro e w5 ⟨rfl, hb5⟩
      have HB5 := Lib.hid (HB4.out.trans (hb5.mono HB4.out.size))
      clear hb5
      go_wp2
      go_ret
      exact ⟨rfl, HB5.out⟩
    · obtain ⟨i3, i4⟩ := isNe e2 h2
      clear h1 h2 TN TX HA
      go_wp2_with fail
      refine HW.out.mono ?_
      rintro e w5 ⟨rfl, hb5⟩
      have HB5 := Lib.hid (HB4.out.trans (hb5.mono HB4.out.size))
      clear hb5
      go_wp2
      go_ret
      exact ⟨rfl, HB5.out⟩
end Go.Proofs.YtijinpnbhnfiiaaDoor
