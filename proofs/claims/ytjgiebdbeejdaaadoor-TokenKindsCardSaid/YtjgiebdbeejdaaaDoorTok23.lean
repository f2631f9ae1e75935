/- TokenKinds: the walk. -/
import Derived.Test.YtjgiebdbeejdaaaDoorTok22
namespace Go.Proofs.YtjgiebdbeejdaaaDoor
open Go.RowKit Go.Joins
set_option linter.unusedVariables false

/-- What a token of each kind answers. -/
theorem kind_cases {tk : Tk} (h : KindOk tk) : (tk.kind = 1 ∧ nameB tk.text = true ∧ wordN tk.text = 0) ∨ (tk.kind = 2 ∧ nameB tk.text = false ∧ wordN tk.text = 1) ∨ (tk.kind = 3 ∧ nameB tk.text = false ∧ wordN tk.text = 2) ∨
    (tk.kind = 4 ∧ nameB tk.text = false ∧ wordN tk.text = 0) ∨ (tk.kind = 5 ∧ nameB tk.text = false ∧ wordN tk.text = 0) ∨ (tk.kind = 6 ∧ nameB tk.text = false ∧ wordN tk.text = 0) := by
  have h1 := h.lo
  have h2 := h.hi
  have hn := h.name
  have hw := h.word
  have ho := h.other
  have hle := wordN_le tk.text
  have hk : tk.kind = 1 ∨ tk.kind = 2 ∨ tk.kind = 3 ∨ tk.kind = 4 ∨ tk.kind = 5 ∨ tk.kind = 6 := by omega
  have hw' : wordN tk.text = 1 ↔ tk.kind = 2 := decide_eq_decide.1 hw
  have ho' : wordN tk.text = 2 ↔ tk.kind = 3 := decide_eq_decide.1 ho
  rcases hk with hk | hk | hk | hk | hk | hk
  · exact .inl ⟨hk, by rw [hn, hk]; rfl, by omega⟩
  · exact .inr (.inl ⟨hk, by rw [hn, hk]; rfl, by omega⟩)
  · exact .inr (.inr (.inl ⟨hk, by rw [hn, hk]; rfl, by omega⟩))
  · exact .inr (.inr (.inr (.inl ⟨hk, by rw [hn, hk]; rfl, by omega⟩)))
  · exact .inr (.inr (.inr (.inr (.inl ⟨hk, by rw [hn, hk]; rfl, by omega⟩))))
  · exact .inr (.inr (.inr (.inr (.inr ⟨hk, by rw [hn, hk]; rfl, by omega⟩))))

set_option maxHeartbeats 2000000 in
set_option maxRecDepth 100000 in
theorem kinds_walk (a : Option Addr) (cap : Nat) (s : ByteArray) (w : World) (ht : Text w a s) (hcap : s.size ≤ cap) (hT : Tabs w) (hm : MaxLen w) :
    Calls Tryd.prog 7 #[.slice a s.size cap] w fun e w' => e = .returned (.bool true) ∧ Below w.heap.size w w' := by
  by_cases hl : 1000 < s.size
  · go_enter Tryd.func7, Tryd.ntmps7
    go_wp2
    go_ret
    exact ⟨rfl, Below.refl _ w⟩
  have h1 := toks_any s a cap w ht hT hm hcap
  unfold ToksEnds at h1
  have H1 := Lib.hid h1
  clear h1
  have HT := Lib.hid hT
  have HM := Lib.hid hm
  have HK : Hid ((scanR s).err = 0 → ∀ tk ∈ (scanR s).st.toks, KindOk tk) := fun h => scanR_kinds h
  clear ht hT hm hcap
  generalize scanR s = o at *
  obtain ⟨err, pos, at_, toks, notes⟩ := o
  go_enter Tryd.func7, Tryd.ntmps7
  go_wp2_with fail
  refine H1.out.mono ?_
  rintro e w1 ⟨hb, vt, rfl, hrow⟩
  obtain ⟨a1, c1, rfl, hc1, hm1, hta⟩ := tokAt_of_row hrow
  have HB := Lib.hid hb
  have HA := Lib.hid hta
  clear hb hrow hta H1
  dsimp only at *
  by_cases he : err = 0
  case neg =>
    have g1 : (err == 0) = false := beq_eq_false_iff_ne.2 he
    have g2 : (err != 0) = true := by rw [bne, g1]; rfl
    clear he
    go_wp2_with fail
    refine (awake_any w1 (HT.out.below HB.out) (HM.out.below HB.out)).mono ?_
    rintro e w2 ⟨rfl, hb2⟩
    have HB2 := Lib.hid (HB.out.trans (hb2.mono HB.out.size))
    clear hb2
    go_wp2
    go_ret
    exact ⟨rfl, HB2.out⟩
  subst he
  have HKS : Hid (∀ tk ∈ toks, KindOk tk) := HK.out rfl
  clear HK
  generalize hn : toks.length = n at *
  have hmx : n ≤ 9223372036854775807 := by unfold maxLen at hm1; omega
  go_wp2
  go_loopw [6] (fun v wr => ∃ i : Nat, v = .int .i64 i ∧ i ≤ n ∧ Hid (Below w.heap.size w wr) ∧ Hid (TokAt wr a1 toks)) (fun v _ => n - (intOf v).toNat)
  case atStart => exact ⟨0, rfl, Nat.zero_le _, HB, HA⟩
  case round =>
    obtain ⟨i, rfl, hi, HBr, HAr⟩ := hrel
    by_cases hlt : i < n
    · have gi : decide (i < n) = true := decide_eq_true hlt
      have hmem : ∃ tk, toks[i]? = some tk ∧ tk ∈ toks := ⟨toks[i]'(by omega), by simp [hn, hlt], List.getElem_mem _⟩
      obtain ⟨tk, htk, hm0⟩ := hmem
      have hk := HKS.out tk hm0
      obtain ⟨g, rfl, hg, d0, d1, d2⟩ := HAr.out.at htk
      obtain ⟨kind, text, ta⟩ := tk
      have hp : 0 < text.size := hk.pos
      have q4 := hk.number
      have q5 := hk.text
      have hcs := kind_cases hk
      dsimp only at *
      clear hk hm0 htk
      have eb := bt_eq text 0 hp
      rw [eb] at q4 q5
      clear eb
      have HBr2 := HBr
      rcases hcs with ⟨rfl, hN, hW⟩ | ⟨rfl, hN, hW⟩ | ⟨rfl, hN, hW⟩ | ⟨rfl, hN, hW⟩ | ⟨rfl, hN, hW⟩ | ⟨rfl, hN, hW⟩
      all_goals
        have HN := Lib.hid hN
        have HW := Lib.hid hW
        clear hN hW
        try (have q6 := q4 rfl)
        try (have q7 := q5 rfl)
        clear q4 q5
        go_wp2_with fail
        go_region
        have HBd := Lib.hid (HBr.out.drew)
        have HAd := Lib.hid (HAr.out.below (Below.refl _ wr).drew)
        clear d0 d1 d2
        go_wp2_with fail
        refine (name_any text _).mono ?_
        rintro e w2 ⟨rfl, hb2⟩
        rw [HN.out]
        have HB2 := Lib.hid (HBd.out.trans (hb2.mono HBd.out.size))
        have HA2 := Lib.hid (HAd.out.below hb2)
        clear hb2
        go_wp2_with fail
        refine (word_any text w2).mono ?_
        rintro e w' ⟨rfl, rfl⟩
        rw [HW.out]
        go_wp2_with fail
        refine (word_any text w2).mono ?_
        rintro e w' ⟨rfl, rfl⟩
        rw [HW.out]
        go_wp2
        all_goals first
          | (exfalso; omega)
          | (exfalso; rename_i h1 h2; have h3 := bne_iff_ne.1 h2.1; have h4 := bne_iff_ne.1 h2.2; omega)
          | (go_roundw
             case rel => exact ⟨i + 1, by go_num, hlt, HB2.out, HA2.out⟩
             case measure => simp [intOf]; omega)
    · have gi : decide (i < n) = false := decide_eq_false hlt
      go_wp2_with fail
      refine (awake_any wr (HT.out.below HBr.out) (HM.out.below HBr.out)).mono ?_
      rintro e w2 ⟨rfl, hb2⟩
      have HB2 := Lib.hid (HBr.out.trans (hb2.mono HBr.out.size))
      clear hb2
      go_wp2
      go_ret
      exact ⟨rfl, HB2.out⟩
end Go.Proofs.YtjgiebdbeejdaaaDoor
