/- The document's scanner: the walk, class by class. -/
import Derived.Test.YthpengbglbgidaaDoorTok38
import Derived.Deep.DeepCutAuto
namespace Go.Proofs.YthpengbglbgidaaDoor
open Go.RowKit Go.Joins
set_option linter.unusedVariables false

section
variable {s : ByteArray} {p : Nat} {l n : List Tk}
theorem stB_feff (h : feff s p = true) : stepB s ⟨p, l, n⟩ = some ⟨3, l, n⟩ := by unfold stepB; dsimp only; rw [if_pos h]
theorem stB_nl (hf : ¬ feff s p = true) (h : bt s p = 10) : stepB s ⟨p, l, n⟩ = some ⟨p + 1, endL l p, n⟩ := by unfold stepB; dsimp only; rw [if_neg hf, if_pos h]
theorem stB_blank (hf : ¬ feff s p = true) (h : bt s p = 32 ∨ bt s p = 9 ∨ bt s p = 13) : stepB s ⟨p, l, n⟩ = some ⟨p + 1, l, n⟩ := by unfold stepB; dsimp only; rw [if_neg hf, if_neg (by omega), if_pos h]
theorem stB_note (hf : ¬ feff s p = true) (h : bt s p = 47) (e : Nat) (h0 : e ≠ 0) (hI : noteI s p = (e : Int)) : stepB s ⟨p, l, n⟩ = some ⟨e, noteToks (s.extract p e) l p, n ++ [⟨0, s.extract p e, p⟩]⟩ := by
  unfold stepB; dsimp only; rw [if_neg hf, if_neg (by omega), if_neg (by omega), if_pos (by omega), if_neg (by omega), hI, Int.toNat_natCast]
theorem stB_noteF (hf : ¬ feff s p = true) (h : bt s p = 47) (hI : noteI s p = -1) : stepB s ⟨p, l, n⟩ = none := by
  unfold stepB; dsimp only; rw [if_neg hf, if_neg (by omega), if_neg (by omega), if_pos (by omega), if_pos (by omega)]
theorem in_not {c : Nat} (h : isIn (c : Int) = true) : c ≠ 10 ∧ c ≠ 32 ∧ c ≠ 9 ∧ c ≠ 13 ∧ c ≠ 47 ∧ c ≠ 34 ∧ c ≠ 96 ∧ c < 128 := by
  have h1 := isIn128 _ h
  refine ⟨?_, ?_, ?_, ?_, ?_, ?_, ?_, by omega⟩ <;> (intro e; rw [e] at h; revert h; decide)
theorem noteI_not47 (h : bt s p ≠ 47) : noteI s p = 0 := by unfold noteI; rw [if_pos (.inr h)]
theorem stB_run (hf : ¬ feff s p = true) (h : isIn (bt s p) = true) : stepB s ⟨p, l, n⟩ = some ⟨runB s isIn s.size (p + 1), l ++ [⟨if isLet (bt s p) then 1 + wordN (s.extract p (runB s isIn s.size (p + 1))) else 4, s.extract p (runB s isIn s.size (p + 1)), p⟩], n⟩ := by
  have hn := in_not h
  unfold stepB; dsimp only; rw [if_neg hf, if_neg (by omega), if_neg (by omega), if_neg (fun h => h (noteI_not47 (by omega))), if_pos h]
theorem stB_quote (hf : ¬ feff s p = true) (h : bt s p = 34 ∨ bt s p = 96) (e : Nat) (hq : quoteI s (bt s p) s.size (p + 1) = (e : Int)) : stepB s ⟨p, l, n⟩ = some ⟨e, l ++ [⟨5, s.extract p e, p⟩], n⟩ := by
  have hin : ¬ isIn (bt s p : Int) = true := by rcases h with h | h <;> rw [h] <;> decide
  unfold stepB; dsimp only; rw [if_neg hf, if_neg (by omega), if_neg (by omega), if_neg (fun h => h (noteI_not47 (by omega))), if_neg hin, if_pos h, hq, if_neg (by omega), Int.toNat_natCast]
theorem stB_quoteF (hf : ¬ feff s p = true) (h : bt s p = 34 ∨ bt s p = 96) (hq : quoteI s (bt s p) s.size (p + 1) < 0) : stepB s ⟨p, l, n⟩ = none := by
  have hin : ¬ isIn (bt s p : Int) = true := by rcases h with h | h <;> rw [h] <;> decide
  unfold stepB; dsimp only; rw [if_neg hf, if_neg (by omega), if_neg (by omega), if_neg (fun h => h (noteI_not47 (by omega))), if_neg hin, if_pos h, if_pos hq]
theorem stB_sign (hf : ¬ feff s p = true) (hb : bt s p ≠ 10 ∧ bt s p ≠ 32 ∧ bt s p ≠ 9 ∧ bt s p ≠ 13 ∧ bt s p ≠ 34 ∧ bt s p ≠ 96) (hI : noteI s p = 0) (hn : isIn (bt s p) = false) (h0 : signN (s.extract p s.size) ≠ 0) : stepB s ⟨p, l, n⟩ = some ⟨p + signN (s.extract p s.size), l ++ [⟨6, s.extract p (p + signN (s.extract p s.size)), p⟩], n⟩ := by
  unfold stepB; dsimp only; rw [if_neg hf, if_neg (by omega), if_neg (by omega), if_neg (fun h => h hI), if_neg (by rw [hn]; simp), if_neg (by omega), if_neg h0]
theorem stB_signF (hf : ¬ feff s p = true) (hb : bt s p ≠ 10 ∧ bt s p ≠ 32 ∧ bt s p ≠ 9 ∧ bt s p ≠ 13 ∧ bt s p ≠ 34 ∧ bt s p ≠ 96) (hI : noteI s p = 0) (hn : isIn (bt s p) = false) (h0 : signN (s.extract p s.size) = 0) : stepB s ⟨p, l, n⟩ = none := by
  unfold stepB; dsimp only; rw [if_neg hf, if_neg (by omega), if_neg (by omega), if_neg (fun h => h hI), if_neg (by rw [hn]; simp), if_neg (by omega), if_pos h0]
end

theorem quoteI_cases (t : ByteArray) (q : Nat) : ∀ f k, quoteI t q f k = -1 ∨ ∃ e : Nat, quoteI t q f k = (e : Int)
  | 0, k => .inl rfl
  | f + 1, k => by
    rw [quoteI]
    split
    · split
      · exact .inl rfl
      split
      · exact .inr ⟨_, rfl⟩
      split
      · split
        · exact .inl rfl
        · exact quoteI_cases t q f _
      · exact quoteI_cases t q f _
    · exact .inl rfl

/-- What the document's Scan ends with. -/
def RefEnds (w : World) (o : Out) (e : Ending) (w' : World) : Prop :=
  Below w.heap.size w w' ∧ ∃ (vt vn : Value), e = .returned (.tuple #[vt, vn, .int .i64 o.pos, .int .i64 o.err]) ∧ w'.ownsRow w.heap.size 42 3 vt o.st.toks.length (cellsOf o.st.toks) ∧ w'.ownsRow w.heap.size 42 3 vn o.st.notes.length (cellsOf o.st.notes)

theorem refEnds_none {w W : World} {o : Out} {pos err : Int} (hb : Below w.heap.size w W) (ho : o = ⟨err, pos, st0⟩) : RefEnds w o (.returned (.tuple #[.slice none 0 0, .slice none 0 0, .int .i64 pos, .int .i64 err])) W :=
  ⟨hb, _, _, by rw [ho], by rw [ho]; exact ⟨rfl, .inl ⟨rfl, rfl⟩⟩, by rw [ho]; exact ⟨rfl, .inl ⟨rfl, rfl⟩⟩⟩

theorem results_tmp4 {fn : Func} {t u v x : Tmp} (h : fn.results = #[.tmp t, .tmp u, .tmp v, .tmp x]) (tmps : Array Value) (P : Program) (w : World) :
    (results fn tmps).run P w = .ok (.tuple #[tmps.getD t undef, tmps.getD u undef, tmps.getD v undef, tmps.getD x undef]) w := by
  simp [results, h]

theorem go_on {s : ByteArray} {f p q : Nat} {l n l' n' : List Tk} {R : Except Nat St} (hp : p < s.size) (hv : Valid s p) (hS : scanF s (f + 1) ⟨p, l, n⟩ = R) (h : stepB s ⟨p, l, n⟩ = some ⟨q, l', n'⟩) : Valid s q ∧ p < q ∧ q ≤ s.size ∧ scanF s f ⟨q, l', n'⟩ = R := by
  obtain ⟨h1, h2, h3⟩ := step_valid hp hv h
  exact ⟨h1, h2, h3, by rw [← hS, scanF_some hp h]⟩
theorem stops {s : ByteArray} {f p : Nat} {l n : List Tk} {R : Except Nat St} (hp : p < s.size) (hS : scanF s (f + 1) ⟨p, l, n⟩ = R) (h : stepB s ⟨p, l, n⟩ = none) : R = .error p := by
  rw [← hS, scanF_none hp h]

set_option maxHeartbeats 40000000 in
set_option maxRecDepth 100000 in
theorem refScan_any (s : ByteArray) (a : Option Addr) (cap : Nat) (w : World) (hs : s.size ≤ 65536) (hcap : s.size ≤ cap) (ht : Text w a s) :
    Calls Tryd.prog 6 #[.slice a s.size cap] w fun e w' => RefEnds w (scanB s) e w' := by
  have HW := Lib.hid (refWrong_any s a cap w (by omega) ht)
  by_cases hw : 0 ≤ wrongR s
  · have HE : Hid (scanB s = ⟨2, wrongR s, st0⟩) := by show _ = _; unfold scanB; rw [if_neg (by omega), if_pos hw]
    generalize wrongR s = z at *
    clear ht
    go_enter Tryd.func6, Tryd.ntmps6
    go_wp2_with fail
    refine HW.out.mono ?_
    rintro e w1 ⟨rfl, rfl⟩
    go_wp2
    try simp only [Exit.inBlock, Exit.then]
    refine bodyPost_ret (results_tmp4 rfl _ _ _) rfl ?_
    exact refEnds_none (Below.refl _ _) HE.out
  have HV : Hid (wrongR s = -1) := wrongR_neg s hw
  have hv0 : Valid s 0 := ⟨s.size, by omega, HV.out⟩
  have HV0 := Lib.hid hv0
  have HE : Hid (∀ r : Except Nat St, scanF s s.size st0 = r → scanB s = (match r with | .ok x => ⟨0, 0, ⟨x.at_, endL x.toks s.size, x.notes⟩⟩ | .error p => ⟨3, p, st0⟩)) := by
    intro r hr
    unfold scanB
    rw [if_neg (by omega), if_neg hw, hr]
    cases r <;> rfl
  rw [HV.out] at HW
  clear hw hv0
  have HT := Lib.hid ht
  clear ht
  go_enter Tryd.func6, Tryd.ntmps6
  go_wp2_with fail
  refine HW.out.mono ?_
  rintro e w1 ⟨rfl, rfl⟩
  go_wp2
  go_loopw [7, 8, 9] (fun vt vn v wr => ∃ (p f : Nat) (toks notes : List Tk), v = .int .i64 p ∧ p ≤ s.size ∧ s.size ≤ p + f ∧ toks.length ≤ p ∧ notes.length ≤ p ∧ Hid (Below w.heap.size w wr) ∧ Hid (Two wr w.heap.size vt vn toks notes) ∧ Hid (∀ t ∈ toks, Fine t) ∧ Hid (Valid s p) ∧ Hid (scanF s f ⟨p, toks, notes⟩ = scanF s s.size st0)) (fun _ _ v _ => s.size - (intOf v).toNat)
  case atStart => exact ⟨0, s.size, [], [], rfl, Nat.zero_le _, by omega, Nat.le_refl _, Nat.le_refl _, Below.refl _ _, ⟨⟨rfl, .inl ⟨rfl, rfl⟩⟩, ⟨rfl, .inl ⟨rfl, rfl⟩⟩, (fun _ h => by cases h), (fun _ h => by cases h), fun _ => rfl, fun _ => rfl⟩, (fun _ h => by cases h), HV0.out, rfl⟩
  case round =>
    obtain ⟨p, f, toks, notes, rfl, hp, hf, hl1, hl2, HB, HR, HF, HVp, HS⟩ := hrel
    by_cases hlt : p < s.size
    · obtain ⟨f, rfl⟩ : ∃ f', f = f' + 1 := ⟨f - 1, by omega⟩
      obtain ⟨b, o, rfl, hltb, hcb⟩ := HT.out.bytes (by omega)
      have HC : Hid (Cells w b o s) := ⟨hltb, hcb⟩
      clear hcb
      have HCr := Lib.hid (HC.out.below HB.out)
      have c0 := HCr.out.2 p hlt
      have lc := bt_lt s p
      have gk : decide (p < s.size) = true := decide_eq_true hlt
      have HTr := Lib.hid (HT.out.below HB.out)
      obtain ⟨a1, k1, rfl, hk1, hm1, hta⟩ := tokAt_of_rowR HR.out.rowT
      obtain ⟨a2, k2, rfl, hk2, hm2, htb⟩ := tokAt_of_rowR HR.out.rowN
      have HTA := Lib.hid hta
      clear hta htb
      have hfeff := feff_iff s p
      have HD3 : Hid (bt s p = 239 → p = 0 → 3 ≤ s.size) := fun h239 hp0 => by
        obtain ⟨hg, -⟩ := valid_next hlt HVp.out
        subst hp0
        have e := dec_3 s 0 (by omega) (by omega)
        rcases Nat.lt_or_ge s.size 3 with h | h
        · rw [if_neg (by omega)] at e
          unfold bad sig wid at hg
          rw [e] at hg
          simp at hg
        · exact h
      have HFI := Lib.hid hfeff
      clear hfeff
      go_upto_region 14 with fail
      go_cut [9, 10, 11, 12, 30, 42] (fun x9 x10 x11 x12 x30 x wx => x9 = .int .i64 p ∧ x10 = .int .u8 (bt s p) ∧ x11 = .int .i64 ((p : Int) + 1) ∧ x12 = .int .i64 0 ∧ x30 = .int .u8 (bt s p) ∧ x = .bool (feff s p) ∧ wr = wx)
      case first => as_aux_lemma =>
          have fin : ∀ x : Bool, feff s p = x → ∀ y : Bool, y = x → Value.bool y = Value.bool (feff s p) := fun x h y h' => by rw [h, h']
          have FIN := Lib.hid fin
          clear fin HVp HS HF HTA HTr gk
          by_cases hp0 : p = 0
          case neg =>
            have gp : ((p : Int) == 0) = false := beq_eq_false_iff_ne.2 (by omega)
            have hx : Hid (feff s p = false) := by
              show _ = _
              cases h : feff s p
              · rfl
              · exact absurd (HFI.out.1 h).1 hp0
            clear hp0
            go_wp2_with fail
            go_meet
            exact ⟨rfl, rfl, rfl, rfl, rfl, FIN.out false hx.out _ (by simp), rfl⟩
          subst hp0
          simp only [Nat.add_zero] at c0
          by_cases k239 : bt s 0 = 239
          case neg =>
            obtain ⟨i1, i2⟩ := eqF (bt s 0) 239 (by omega)
            have hx : Hid (feff s 0 = false) := by
              show _ = _
              cases h : feff s 0
              · rfl
              · exact absurd (HFI.out.1 h).2.2.1 k239
            clear k239
            go_wp2_with fail
            go_meet
            exact ⟨rfl, rfl, rfl, rfl, rfl, FIN.out false hx.out _ (by simp), rfl⟩
          have h3 := HD3.out k239 rfl
          have K239 := Lib.hid k239
          have K187 : Hid (bt s 1 = bt s 1) := rfl
          have K191 : Hid (bt s 2 = bt s 2) := rfl
          have c1 := HCr.out.2 1 (by omega)
          have c2 := HCr.out.2 2 (by omega)
          have l1 := bt_lt s 1
          have l2 := bt_lt s 2
          have n1 : decide (1 < s.size) = true := decide_eq_true (by omega)
          have n2 : decide (2 < s.size) = true := decide_eq_true (by omega)
          by_cases k187 : bt s 1 = 187
          case neg =>
            obtain ⟨i1, i2⟩ := eqF (bt s 1) 187 (by omega)
            have hx : Hid (feff s 0 = false) := by
              show _ = _
              cases h : feff s 0
              · rfl
              · exact absurd (HFI.out.1 h).2.2.2.1 k187
            rw [k239] at c0
            clear k187 k239
            go_wp2_with fail
            all_goals first
              | (go_meet; exact ⟨rfl, by first | rfl | rw [K239.out]; rfl, rfl, rfl, by first | rfl | rw [K239.out]; rfl, FIN.out false hx.out _ (by simp), rfl⟩)
              | (exfalso; have q1 := K239.out; have q2 := K187.out; have q3 := K191.out; first | omega | (simp_all; done))
          have K187 := Lib.hid k187
          by_cases k191 : bt s 2 = 191
          case neg =>
            obtain ⟨i1, i2⟩ := eqF (bt s 2) 191 (by omega)
            have hx : Hid (feff s 0 = false) := by
              show _ = _
              cases h : feff s 0
              · rfl
              · exact absurd (HFI.out.1 h).2.2.2.2 k191
            rw [k239] at c0
            rw [k187] at c1
            clear k187 k239 k191
            go_wp2_with fail
            all_goals first
              | (go_meet; exact ⟨rfl, by first | rfl | rw [K239.out]; rfl, rfl, rfl, by first | rfl | rw [K239.out]; rfl, FIN.out false hx.out _ (by simp), rfl⟩)
              | (exfalso; have q1 := K239.out; have q2 := K187.out; have q3 := K191.out; first | omega | (simp_all; done))
          have K191 := Lib.hid k191
          have hx : Hid (feff s 0 = true) := HFI.out.2 ⟨rfl, h3, k239, k187, k191⟩
          rw [k239] at c0
          rw [k187] at c1
          rw [k191] at c2
          clear k187 k239 k191
          go_wp2_with fail
          all_goals first
            | (exfalso; have q1 := K239.out; have q2 := K187.out; have q3 := K191.out; omega)
            | (go_meet; exact ⟨rfl, by first | rfl | rw [K239.out]; rfl, rfl, rfl, by first | rfl | rw [K239.out]; rfl, FIN.out true hx.out _ (by simp), rfl⟩)
            | (exfalso; have q1 := K239.out; have q2 := K187.out; have q3 := K191.out; first | omega | (simp_all; done))
      case rest =>
        obtain ⟨rfl, rfl, rfl, rfl, rfl, rfl, rfl⟩ := hcut
        clear HD3
        cases hfe : feff s p
        · have HFE : Hid (¬ feff s p = true) := by show ¬ _; rw [hfe]; simp
          clear hfe HFI
          by_cases cb : bt s p = 32 ∨ bt s p = 9 ∨ bt s p = 13
          · as_aux_lemma =>
              obtain ⟨z1, z2, z3, z4⟩ := go_on hlt HVp.out HS.out (stB_blank HFE.out cb)
              have HZ1 := Lib.hid z1
              have HZ4 := Lib.hid z4
              obtain ⟨x10, x10'⟩ := eqF (bt s p) 10 (by omega)
              clear z1 z4 HS HVp
              rcases cb with cb | cb | cb
              · obtain ⟨y1, y2⟩ := eqT (bt s p) 32 (by omega)
                clear cb
                go_wp2
                go_roundw
                case rel => exact ⟨p + 1, f, toks, notes, by go_num, by omega, by omega, by omega, by omega, HB.out, HR.out, HF.out, HZ1.out, HZ4.out⟩
                case measure => simp [intOf]; omega
              · obtain ⟨y1, y2⟩ := eqF (bt s p) 32 (by omega)
                obtain ⟨y3, y4⟩ := eqT (bt s p) 9 (by omega)
                clear cb
                go_wp2
                go_roundw
                case rel => exact ⟨p + 1, f, toks, notes, by go_num, by omega, by omega, by omega, by omega, HB.out, HR.out, HF.out, HZ1.out, HZ4.out⟩
                case measure => simp [intOf]; omega
              · obtain ⟨y1, y2⟩ := eqF (bt s p) 32 (by omega)
                obtain ⟨y3, y4⟩ := eqF (bt s p) 9 (by omega)
                obtain ⟨y5, y6⟩ := eqT (bt s p) 13 (by omega)
                clear cb
                go_wp2
                go_roundw
                case rel => exact ⟨p + 1, f, toks, notes, by go_num, by omega, by omega, by omega, by omega, HB.out, HR.out, HF.out, HZ1.out, HZ4.out⟩
                case measure => simp [intOf]; omega
          obtain ⟨x32, x32'⟩ := eqF (bt s p) 32 (by omega)
          obtain ⟨x9, x9'⟩ := eqF (bt s p) 9 (by omega)
          obtain ⟨x13, x13'⟩ := eqF (bt s p) 13 (by omega)
          have HEN := Lib.hid (refEnds_any toks a1 k1)
          have hBs := HB.out.size
          by_cases c10 : bt s p = 10
          · as_aux_lemma =>
              obtain ⟨z1, z2, z3, z4⟩ := go_on hlt HVp.out HS.out (stB_nl HFE.out c10)
              have HZ1 := Lib.hid z1
              have HZ4 := Lib.hid z4
              obtain ⟨x10, x10'⟩ := eqT (bt s p) 10 (by omega)
              clear z1 z4 HS HVp c10 cb
              cases hen : endsR toks
              · have HN := Lib.hid hen
                have hz : endL toks p = toks := by rw [endL_ends, hen]; rfl
                rw [hz] at HZ4
                clear hen hz
                go_wp2_with fail
                refine (HEN.out wr (by omega) HTA.out HF.out).mono ?_
                rintro e w2 ⟨rfl, hb2⟩
                have hz2 := hb2.size
                have HB2 := Lib.hid (HB.out.trans (hb2.mono HB.out.size))
                have HR2 := Lib.hid (HR.out.below hb2)
                clear hb2
                rw [HN.out]
                go_wp2
                go_roundw
                case rel => exact ⟨p + 1, f, toks, notes, by go_num, by omega, by omega, by omega, by omega, HB2.out, HR2.out, HF.out, HZ1.out, HZ4.out⟩
                case measure => simp [intOf]; omega
              · have HN := Lib.hid hen
                have hz : endL toks p = toks ++ [⟨6, nlT, p⟩] := by rw [endL_ends, hen]; rfl
                rw [hz] at HZ4
                clear hen hz
                go_wp2_with fail
                refine (HEN.out wr (by omega) HTA.out HF.out).mono ?_
                rintro e w2 ⟨rfl, hb2⟩
                have hz2 := hb2.size
                have HB2 := Lib.hid (HB.out.trans (hb2.mono HB.out.size))
                have HR2 := Lib.hid (HR.out.below hb2)
                clear hb2
                rw [HN.out]
                have HRp4 := Lib.hid (HR2.out.below ((Below.refl _ w2).alloc (Nat.le_refl _) (.cells #[.int .i64 6, .string ⟨#[10]⟩, .int .i64 p] 42)))
                have HBp4 := Lib.hid (HB2.out.alloc HB2.out.size (.cells #[.int .i64 6, .string ⟨#[10]⟩, .int .i64 p] 42))
                go_wp2_with (at_builtin; refine app_ref 6 ⟨#[10]⟩ p rfl (.tmp 66) (.tmp 69) rfl w.heap.size _ toks.length (cellsOf toks) rfl HRp4.out.rowT rfl (by omega) (by omega) ?_)
                intro v4 w4 hown4 hgr4
                have HR4 := Lib.hid (HRp4.out.pushT ⟨6, nlT, p⟩ (by simp) hgr4 hown4)
                have HB4 := Lib.hid (below_two HBp4.out hgr4 (by simp; omega) HRp4.out.rowT)
                have HF4 : Hid (∀ t ∈ toks ++ [⟨6, nlT, p⟩], Fine t) := fun t ht => by
                  rcases List.mem_append.1 ht with h | h
                  · exact HF.out t h
                  · rw [List.mem_singleton.1 h]; exact fine_put p
                have hl4 : (toks ++ [(⟨6, nlT, p⟩ : Tk)]).length ≤ p + 1 := by simp; omega
                have hs4 := HB4.out.size
                clear hown4 hgr4 HRp4 HBp4
                go_wp2
                go_roundw
                case rel => exact ⟨p + 1, f, _, notes, by go_num, by omega, by omega, hl4, by omega, HB4.out, HR4.out, HF4.out, HZ1.out, HZ4.out⟩
                case measure => simp [intOf]; omega
          obtain ⟨x10, x10'⟩ := eqF (bt s p) 10 (by omega)
          have HNO := Lib.hid (refNote_any s (some ⟨b, o, none⟩) cap p wr hs hlt HTr.out)
          by_cases hI : noteI s p = 0
          case neg =>
            obtain ⟨h47, hz⟩ := (noteI_cases s p).resolve_left hI
            rcases hz with hz | ⟨e, he0, hz⟩
            · as_aux_lemma =>
                have HX : Hid (scanB s = ⟨3, p, st0⟩) := by show _ = _; exact HE.out (.error p) (stops hlt HS.out (stB_noteF HFE.out h47 hz))
                rw [hz] at HNO
                clear hI hz h47 HS HVp cb c10
                go_wp2_with fail
                refine HNO.out.mono ?_
                rintro e w2 ⟨rfl, rfl⟩
                go_wp2_with fail
                refine HNO.out.mono ?_
                rintro e w2 ⟨rfl, rfl⟩
                go_wp2
                try simp only [Exit.inBlock, Exit.then]
                refine bodyPost_ret (results_tmp4 rfl _ _ _) rfl ?_
                exact refEnds_none HB.out HX.out
            · as_aux_lemma =>
                obtain ⟨z1, z2, z3, z4⟩ := go_on hlt HVp.out HS.out (stB_note HFE.out h47 e he0 hz)
                obtain ⟨n, rfl⟩ : ∃ n, e = p + n := ⟨e - p, by omega⟩
                have hnt : noteToks (s.extract p (p + n)) toks p = if nlF s p n then endL toks p else toks := by unfold noteToks; rw [nl_same s p n z3]
                rw [hnt] at z4
                have HZ1 := Lib.hid z1
                have HZ4 := Lib.hid z4
                rw [hz] at HNO
                have he1 : (((p + n : Nat) : Int) == 0) = false := beq_eq_false_iff_ne.2 (by omega)
                have he2 : (((p + n : Nat) : Int) != 0) = true := by rw [bne, he1]; rfl
                have he3 : (((p : Int) + (n : Int)) == 0) = false := beq_eq_false_iff_ne.2 (by omega)
                have he4 : (((p : Int) + (n : Int)) != 0) = true := by rw [bne, he3]; rfl
                clear hI hz h47 HS HVp cb c10 z1 z4 hnt
                go_wp2_with fail
                refine HNO.out.mono ?_
                rintro e w2 ⟨rfl, rfl⟩
                go_wp2_with fail
                refine HNO.out.mono ?_
                rintro e w2 ⟨rfl, rfl⟩
                clear he1 he2 he3 he4 HNO
                go_wp2
                go_loop [13, 14] (fun x v => ∃ k : Nat, x = .bool (nlF s p (k - p)) ∧ v = .int .i64 k ∧ p ≤ k ∧ k ≤ p + n) (fun _ v => p + n - (intOf v).toNat)
                case atStart => exact ⟨p, by rw [Nat.sub_self]; rfl, rfl, Nat.le_refl _, by omega⟩
                case round =>
                  obtain ⟨k, rfl, rfl, hk1', hk2'⟩ := hrel
                  by_cases hkn : k < p + n
                  · have ck := HCr.out.2 k (by omega)
                    have lk := bt_lt s k
                    have gkk : decide ((k : Int) < (p : Int) + n) = true := decide_eq_true (by omega)
                    have gks : decide (k < s.size) = true := decide_eq_true (by omega)
                    have hstep : nlF s p (k + 1 - p) = (nlF s p (k - p) || decide (bt s k = 10)) := by
                      rw [show k + 1 - p = (k - p) + 1 by omega, nlF, show p + (k - p) = k by omega]
                    cases hnl : nlF s p (k - p)
                    · by_cases q10 : bt s k = 10
                      · have HX : Hid (nlF s p (k + 1 - p) = true) := by show _ = _; rw [hstep, q10]; simp
                        obtain ⟨i1, i2⟩ := eqT (bt s k) 10 (by omega)
                        clear hstep q10
                        go_wp2
                        go_round
                        case rel => exact ⟨k + 1, by rw [HX.out], by go_num, by omega, by omega⟩
                        case measure => simp [intOf]; omega
                      · have HX : Hid (nlF s p (k + 1 - p) = false) := by show _ = _; rw [hstep, hnl]; simp [q10]
                        obtain ⟨i1, i2⟩ := eqF (bt s k) 10 (by omega)
                        clear hstep q10
                        go_wp2
                        go_round
                        case rel => exact ⟨k + 1, by rw [HX.out], by go_num, by omega, by omega⟩
                        case measure => simp [intOf]; omega
                    · have HX : Hid (nlF s p (k + 1 - p) = true) := by show _ = _; rw [hstep, hnl]; rfl
                      clear hstep
                      go_wp2
                      go_round
                      case rel => exact ⟨k + 1, by rw [HX.out], by go_num, by omega, by omega⟩
                      case measure => simp [intOf]; omega
                  · obtain rfl : k = p + n := by omega
                    have gkk : decide (((p + n : Nat) : Int) < (p : Int) + n) = false := decide_eq_false (by omega)
                    rw [show p + n - p = n by omega]
                    have hZ4 := HZ4.out
                    clear HZ4
                    cases hnl : nlF s p n
                    · rw [hnl, if_neg (by simp)] at hZ4
                      have HZ4 := Lib.hid hZ4
                      clear hZ4
                      have cv6 := conv_sub s b o p n (cap - p) wr (HC.out.below HB.out).2 z3
                      have HRp6 := Lib.hid (HR.out.below ((Below.refl _ wr).alloc (Nat.le_refl _) (.cells #[.int .i64 0, .string (s.extract p (p + n)), .int .i64 p] 42)))
                      have HBp6 := Lib.hid (HB.out.alloc HB.out.size (.cells #[.int .i64 0, .string (s.extract p (p + n)), .int .i64 p] 42))
                      go_wp2_with (at_builtin; refine app_ref 0 (s.extract p (p + n)) p rfl (.tmp 117) (.tmp 125) rfl w.heap.size _ notes.length (cellsOf notes) rfl HRp6.out.rowN rfl (by omega) (by omega) ?_)
                      intro v6 w6 hown6 hgr6
                      have HR6 := Lib.hid (HRp6.out.pushN ⟨0, s.extract p (p + n), p⟩ rfl hgr6 hown6)
                      have HB6 := Lib.hid (below_two HBp6.out hgr6 (by simp; omega) HRp6.out.rowN)
                      have hl6 : (notes ++ [(⟨0, s.extract p (p + n), p⟩ : Tk)]).length ≤ p + n := by simp; omega
                      clear hown6 hgr6 HRp6 HBp6 cv6
                      go_wp2
                      go_roundw
                      case rel => exact ⟨p + n, f, _, _, by go_num, by omega, by omega, by omega, hl6, HB6.out, HR6.out, HF.out, HZ1.out, HZ4.out⟩
                      case measure => simp [intOf]; omega
                    · rw [hnl, if_pos rfl] at hZ4
                      cases hen : endsR toks
                      · have HN := Lib.hid hen
                        have hz : endL toks p = toks := by rw [endL_ends, hen]; rfl
                        rw [hz] at hZ4
                        have HZ4 := Lib.hid hZ4
                        clear hen hz hZ4
                        go_wp2_with fail
                        refine (HEN.out wr (by omega) HTA.out HF.out).mono ?_
                        rintro e w2 ⟨rfl, hb2⟩
                        have hz2 := hb2.size
                        have HB2 := Lib.hid (HB.out.trans (hb2.mono HB.out.size))
                        have HR2 := Lib.hid (HR.out.below hb2)
                        clear hb2
                        rw [HN.out]
                        have cv6 := conv_sub s b o p n (cap - p) w2 (HC.out.below HB2.out).2 z3
                        have HRp6 := Lib.hid (HR2.out.below ((Below.refl _ w2).alloc (Nat.le_refl _) (.cells #[.int .i64 0, .string (s.extract p (p + n)), .int .i64 p] 42)))
                        have HBp6 := Lib.hid (HB2.out.alloc HB2.out.size (.cells #[.int .i64 0, .string (s.extract p (p + n)), .int .i64 p] 42))
                        go_wp2_with (at_builtin; refine app_ref 0 (s.extract p (p + n)) p rfl (.tmp 117) (.tmp 125) rfl w.heap.size _ notes.length (cellsOf notes) rfl HRp6.out.rowN rfl (by omega) (by omega) ?_)
                        intro v6 w6 hown6 hgr6
                        have HR6 := Lib.hid (HRp6.out.pushN ⟨0, s.extract p (p + n), p⟩ rfl hgr6 hown6)
                        have HB6 := Lib.hid (below_two HBp6.out hgr6 (by simp; omega) HRp6.out.rowN)
                        have hl6 : (notes ++ [(⟨0, s.extract p (p + n), p⟩ : Tk)]).length ≤ p + n := by simp; omega
                        clear hown6 hgr6 HRp6 HBp6 cv6
                        go_wp2
                        go_roundw
                        case rel => exact ⟨p + n, f, _, _, by go_num, by omega, by omega, by omega, hl6, HB6.out, HR6.out, HF.out, HZ1.out, HZ4.out⟩
                        case measure => simp [intOf]; omega
                      · have HN := Lib.hid hen
                        have hz : endL toks p = toks ++ [⟨6, nlT, p⟩] := by rw [endL_ends, hen]; rfl
                        rw [hz] at hZ4
                        have HZ4 := Lib.hid hZ4
                        clear hen hz hZ4
                        go_wp2_with fail
                        refine (HEN.out wr (by omega) HTA.out HF.out).mono ?_
                        rintro e w2 ⟨rfl, hb2⟩
                        have hz2 := hb2.size
                        have HB2 := Lib.hid (HB.out.trans (hb2.mono HB.out.size))
                        have HR2 := Lib.hid (HR.out.below hb2)
                        clear hb2
                        rw [HN.out]
                        have HRp4 := Lib.hid (HR2.out.below ((Below.refl _ w2).alloc (Nat.le_refl _) (.cells #[.int .i64 6, .string ⟨#[10]⟩, .int .i64 p] 42)))
                        have HBp4 := Lib.hid (HB2.out.alloc HB2.out.size (.cells #[.int .i64 6, .string ⟨#[10]⟩, .int .i64 p] 42))
                        go_wp2_with (at_builtin; refine app_ref 6 ⟨#[10]⟩ p rfl (.tmp 112) (.tmp 115) rfl w.heap.size _ toks.length (cellsOf toks) rfl HRp4.out.rowT rfl (by omega) (by omega) ?_)
                        intro v4 w4 hown4 hgr4
                        have HR4 := Lib.hid (HRp4.out.pushT ⟨6, nlT, p⟩ (by simp) hgr4 hown4)
                        have HB4 := Lib.hid (below_two HBp4.out hgr4 (by simp; omega) HRp4.out.rowT)
                        have HF4 : Hid (∀ t ∈ toks ++ [⟨6, nlT, p⟩], Fine t) := fun t ht => by
                          rcases List.mem_append.1 ht with h | h
                          · exact HF.out t h
                          · rw [List.mem_singleton.1 h]; exact fine_put p
                        have hl4 : (toks ++ [(⟨6, nlT, p⟩ : Tk)]).length ≤ p + 1 := by simp; omega
                        have hs4 := HB4.out.size
                        clear hown4 hgr4 HRp4 HBp4
                        have cv6 := conv_sub s b o p n (cap - p) w4 (HC.out.below HB4.out).2 z3
                        have HRp6 := Lib.hid (HR4.out.below ((Below.refl _ w4).alloc (Nat.le_refl _) (.cells #[.int .i64 0, .string (s.extract p (p + n)), .int .i64 p] 42)))
                        have HBp6 := Lib.hid (HB4.out.alloc HB4.out.size (.cells #[.int .i64 0, .string (s.extract p (p + n)), .int .i64 p] 42))
                        go_wp2_with (at_builtin; refine app_ref 0 (s.extract p (p + n)) p rfl (.tmp 117) (.tmp 125) rfl w.heap.size _ notes.length (cellsOf notes) rfl HRp6.out.rowN rfl (by omega) (by omega) ?_)
                        intro v6 w6 hown6 hgr6
                        have HR6 := Lib.hid (HRp6.out.pushN ⟨0, s.extract p (p + n), p⟩ rfl hgr6 hown6)
                        have HB6 := Lib.hid (below_two HBp6.out hgr6 (by simp; omega) HRp6.out.rowN)
                        have hl6 : (notes ++ [(⟨0, s.extract p (p + n), p⟩ : Tk)]).length ≤ p + n := by simp; omega
                        clear hown6 hgr6 HRp6 HBp6 cv6
                        go_wp2
                        go_roundw
                        case rel => exact ⟨p + n, f, _, _, by go_num, by omega, by omega, by omega, hl6, HB6.out, HR6.out, HF4.out, HZ1.out, HZ4.out⟩
                        case measure => simp [intOf]; omega
          rw [hI] at HNO
          cases hin : isIn (bt s p)
          case true =>
            obtain ⟨z1, z2, z3, z4⟩ := go_on hlt HVp.out HS.out (stB_run HFE.out hin)
            have hft := cls_fine hlt (.run hin)
            obtain ⟨n, hn⟩ : ∃ n, runB s isIn s.size (p + 1) = p + n := ⟨runB s isIn s.size (p + 1) - p, by omega⟩
            rw [hn] at z1 z2 z3 z4 hft
            have HRN := Lib.hid hn
            have HZ1 := Lib.hid z1
            have hfg : isLet (bt s p) = false → isFig (bt s p) = true := fun h => by
              unfold isIn at hin
              rw [h] at hin
              simpa using hin
            clear hin hn HVp HS cb c10 z1
            cases hl : isLet (bt s p)
            · as_aux_lemma =>
                have HL := Lib.hid hl
                have HFG := Lib.hid (hfg hl)
                rw [hl, if_neg (by simp)] at z4 hft
                have HZ4 := Lib.hid z4
                have HFT := Lib.hid hft
                clear hl hfg z4 hft
                go_wp2_with fail
                refine HNO.out.mono ?_
                rintro e w2 ⟨rfl, rfl⟩
                go_wp2_with fail
                refine (refLetter_any (bt s p) wr (by omega) (by omega)).mono ?_
                rintro e w2 ⟨rfl, rfl⟩
                rw [HL.out]
                go_wp2_with fail
                refine (refFigure_any (bt s p) wr (by omega) (by omega)).mono ?_
                rintro e w2 ⟨rfl, rfl⟩
                rw [HFG.out]
                go_wp2_with fail
                go_loop [11] (fun v => ∃ k f' : Nat, v = .int .i64 k ∧ p + 1 ≤ k ∧ k ≤ s.size ∧ s.size ≤ k + f' ∧ Hid (runB s isIn f' k = p + n)) (fun v => s.size - (intOf v).toNat)
                case atStart => exact ⟨p + 1, s.size, by go_num, Nat.le_refl _, by omega, by omega, HRN.out⟩
                case round =>
                  obtain ⟨k, f', rfl, hk1', hk2', hf', HK⟩ := hrel
                  by_cases hks : k < s.size
                  · have ck := HCr.out.2 k hks
                    have lk := bt_lt s k
                    have gks : decide (k < s.size) = true := decide_eq_true hks
                    have HIN : Hid (isIn (bt s k) = (isLet (bt s k) || isFig (bt s k))) := rfl
                    cases hlk : isLet (bt s k)
                    · have HLK := Lib.hid hlk
                      clear hlk
                      cases hfk : isFig (bt s k)
                      · have HFK := Lib.hid hfk
                        have hkn : k = p + n := by rw [← HK.out]; exact (runB_stop _ _ _ _ (.inr (by rw [HIN.out, HLK.out, hfk]; rfl))).symm
                        clear hfk
                        subst hkn
                        go_wp2_with fail
                        refine (refLetter_any (bt s (p + n)) wr (by omega) (by omega)).mono ?_
                        rintro e w2 ⟨rfl, rfl⟩
                        rw [HLK.out]
                        go_wp2_with fail
                        refine (refFigure_any (bt s (p + n)) wr (by omega) (by omega)).mono ?_
                        rintro e w2 ⟨rfl, rfl⟩
                        rw [HFK.out]
                        go_wp2_with fail
                        refine (refLetter_any (bt s p) wr (by omega) (by omega)).mono ?_
                        rintro e w2 ⟨rfl, rfl⟩
                        rw [HL.out]
                        have cv6 := conv_sub s b o p n (cap - p) wr (HC.out.below HB.out).2 z3
                        have HRp6 := Lib.hid (HR.out.below ((Below.refl _ wr).alloc (Nat.le_refl _) (.cells #[.int .i64 ((4 : Nat) : Int), .string (s.extract p (p + n)), .int .i64 p] 42)))
                        have HBp6 := Lib.hid (HB.out.alloc HB.out.size (.cells #[.int .i64 ((4 : Nat) : Int), .string (s.extract p (p + n)), .int .i64 p] 42))
                        have hz6 := HB.out.size
                        go_wp2_with (at_builtin; refine app_ref ((4 : Nat) : Int) (s.extract p (p + n)) p rfl (.tmp 178) (.tmp 187) rfl w.heap.size _ toks.length (cellsOf toks) rfl HRp6.out.rowT rfl (by omega) (by omega) ?_)
                        intro v6 w6 hown6 hgr6
                        have HR6 := Lib.hid (HRp6.out.pushT ⟨4, s.extract p (p + n), p⟩ (by simp) hgr6 hown6)
                        have HB6 := Lib.hid (below_two HBp6.out hgr6 (by simp; omega) HRp6.out.rowT)
                        have HF6 : Hid (∀ t ∈ toks ++ [⟨4, s.extract p (p + n), p⟩], Fine t) := fun t ht => by
                          rcases List.mem_append.1 ht with h | h
                          · exact HF.out t h
                          · rw [List.mem_singleton.1 h]; exact HFT.out
                        have hl6 : (toks ++ [(⟨4, s.extract p (p + n), p⟩ : Tk)]).length ≤ p + n := by simp; omega
                        clear hown6 hgr6 HRp6 HBp6 cv6
                        go_wp2
                        go_roundw
                        case rel => exact ⟨p + n, f, _, notes, by go_num, by omega, by omega, hl6, by omega, HB6.out, HR6.out, HF6.out, HZ1.out, HZ4.out⟩
                        case measure => simp [intOf]; omega
                      · have HFK := Lib.hid hfk
                        have HX : Hid (runB s isIn s.size (k + 1) = p + n) := by show _ = _; rw [← HK.out]; exact (runB_step s isIn f' s.size k hks (by rw [HIN.out, hfk]; simp) hf' (by omega)).symm
                        clear hfk
                        go_wp2_with fail
                        refine (refLetter_any (bt s k) wr (by omega) (by omega)).mono ?_
                        rintro e w2 ⟨rfl, rfl⟩
                        rw [HLK.out]
                        go_wp2_with fail
                        refine (refFigure_any (bt s k) wr (by omega) (by omega)).mono ?_
                        rintro e w2 ⟨rfl, rfl⟩
                        rw [HFK.out]
                        go_wp2
                        go_round
                        case rel => exact ⟨k + 1, s.size, by go_num, by omega, by omega, by omega, HX.out⟩
                        case measure => simp [intOf]; omega
                    · have HLK := Lib.hid hlk
                      have HX : Hid (runB s isIn s.size (k + 1) = p + n) := by show _ = _; rw [← HK.out]; exact (runB_step s isIn f' s.size k hks (by rw [HIN.out, hlk]; rfl) hf' (by omega)).symm
                      clear hlk
                      go_wp2_with fail
                      refine (refLetter_any (bt s k) wr (by omega) (by omega)).mono ?_
                      rintro e w2 ⟨rfl, rfl⟩
                      rw [HLK.out]
                      go_wp2
                      go_round
                      case rel => exact ⟨k + 1, s.size, by go_num, by omega, by omega, by omega, HX.out⟩
                      case measure => simp [intOf]; omega
                  · have gks : decide (k < s.size) = false := decide_eq_false hks
                    have hkn : k = p + n := by rw [← HK.out]; exact (runB_stop _ _ _ _ (.inl (by omega))).symm
                    subst hkn
                    go_wp2_with fail
                    refine (refLetter_any (bt s p) wr (by omega) (by omega)).mono ?_
                    rintro e w2 ⟨rfl, rfl⟩
                    rw [HL.out]
                    have cv6 := conv_sub s b o p n (cap - p) wr (HC.out.below HB.out).2 z3
                    have HRp6 := Lib.hid (HR.out.below ((Below.refl _ wr).alloc (Nat.le_refl _) (.cells #[.int .i64 ((4 : Nat) : Int), .string (s.extract p (p + n)), .int .i64 p] 42)))
                    have HBp6 := Lib.hid (HB.out.alloc HB.out.size (.cells #[.int .i64 ((4 : Nat) : Int), .string (s.extract p (p + n)), .int .i64 p] 42))
                    have hz6 := HB.out.size
                    go_wp2_with (at_builtin; refine app_ref ((4 : Nat) : Int) (s.extract p (p + n)) p rfl (.tmp 178) (.tmp 187) rfl w.heap.size _ toks.length (cellsOf toks) rfl HRp6.out.rowT rfl (by omega) (by omega) ?_)
                    intro v6 w6 hown6 hgr6
                    have HR6 := Lib.hid (HRp6.out.pushT ⟨4, s.extract p (p + n), p⟩ (by simp) hgr6 hown6)
                    have HB6 := Lib.hid (below_two HBp6.out hgr6 (by simp; omega) HRp6.out.rowT)
                    have HF6 : Hid (∀ t ∈ toks ++ [⟨4, s.extract p (p + n), p⟩], Fine t) := fun t ht => by
                      rcases List.mem_append.1 ht with h | h
                      · exact HF.out t h
                      · rw [List.mem_singleton.1 h]; exact HFT.out
                    have hl6 : (toks ++ [(⟨4, s.extract p (p + n), p⟩ : Tk)]).length ≤ p + n := by simp; omega
                    clear hown6 hgr6 HRp6 HBp6 cv6
                    go_wp2
                    go_roundw
                    case rel => exact ⟨p + n, f, _, notes, by go_num, by omega, by omega, hl6, by omega, HB6.out, HR6.out, HF6.out, HZ1.out, HZ4.out⟩
                    case measure => simp [intOf]; omega
            · as_aux_lemma =>
                have HL := Lib.hid hl
                rw [hl, if_pos rfl] at z4 hft
                have HZ4 := Lib.hid z4
                have HFT := Lib.hid hft
                clear hl hfg z4 hft
                go_wp2_with fail
                refine HNO.out.mono ?_
                rintro e w2 ⟨rfl, rfl⟩
                go_wp2_with fail
                refine (refLetter_any (bt s p) wr (by omega) (by omega)).mono ?_
                rintro e w2 ⟨rfl, rfl⟩
                rw [HL.out]
                go_wp2_with fail
                go_loop [11] (fun v => ∃ k f' : Nat, v = .int .i64 k ∧ p + 1 ≤ k ∧ k ≤ s.size ∧ s.size ≤ k + f' ∧ Hid (runB s isIn f' k = p + n)) (fun v => s.size - (intOf v).toNat)
                case atStart => exact ⟨p + 1, s.size, by go_num, Nat.le_refl _, by omega, by omega, HRN.out⟩
                case round =>
                  obtain ⟨k, f', rfl, hk1', hk2', hf', HK⟩ := hrel
                  by_cases hks : k < s.size
                  · have ck := HCr.out.2 k hks
                    have lk := bt_lt s k
                    have gks : decide (k < s.size) = true := decide_eq_true hks
                    have HIN : Hid (isIn (bt s k) = (isLet (bt s k) || isFig (bt s k))) := rfl
                    cases hlk : isLet (bt s k)
                    · have HLK := Lib.hid hlk
                      clear hlk
                      cases hfk : isFig (bt s k)
                      · have HFK := Lib.hid hfk
                        have hkn : k = p + n := by rw [← HK.out]; exact (runB_stop _ _ _ _ (.inr (by rw [HIN.out, HLK.out, hfk]; rfl))).symm
                        clear hfk
                        subst hkn
                        go_wp2_with fail
                        refine (refLetter_any (bt s (p + n)) wr (by omega) (by omega)).mono ?_
                        rintro e w2 ⟨rfl, rfl⟩
                        rw [HLK.out]
                        go_wp2_with fail
                        refine (refFigure_any (bt s (p + n)) wr (by omega) (by omega)).mono ?_
                        rintro e w2 ⟨rfl, rfl⟩
                        rw [HFK.out]
                        go_wp2_with fail
                        refine (refLetter_any (bt s p) wr (by omega) (by omega)).mono ?_
                        rintro e w2 ⟨rfl, rfl⟩
                        rw [HL.out]
                        have cvw := conv_sub s b o p n (cap - p) wr HCr.out.2 z3
                        go_wp2_with fail
                        refine (refWord_any (s.extract p (p + n)) wr).mono ?_
                        rintro e w3 ⟨rfl, hb3⟩
                        have HB3 := Lib.hid (HB.out.trans (hb3.mono HB.out.size))
                        have HR3 := Lib.hid (HR.out.below hb3)
                        have hs3 := hb3.size
                        clear hb3 cvw
                        have hwl := wordN_le (s.extract p (p + n))
                        generalize wordN (s.extract p (p + n)) = m at *
                        have m1 : decide (0 < 1 + (m : Int)) = true := decide_eq_true (by omega)
                        have cv6 := conv_sub s b o p n (cap - p) w3 (HC.out.below HB3.out).2 z3
                        have HRp6 := Lib.hid (HR3.out.below ((Below.refl _ w3).alloc (Nat.le_refl _) (.cells #[.int .i64 (1 + (m : Int)), .string (s.extract p (p + n)), .int .i64 p] 42)))
                        have HBp6 := Lib.hid (HB3.out.alloc HB3.out.size (.cells #[.int .i64 (1 + (m : Int)), .string (s.extract p (p + n)), .int .i64 p] 42))
                        have hz6 := HB3.out.size
                        go_wp2_with (at_builtin; refine app_ref (1 + (m : Int)) (s.extract p (p + n)) p rfl (.tmp 178) (.tmp 187) rfl w.heap.size _ toks.length (cellsOf toks) rfl HRp6.out.rowT rfl (by omega) (by omega) ?_)
                        intro v6 w6 hown6 hgr6
                        have HR6 := Lib.hid (HRp6.out.pushT ⟨1 + m, s.extract p (p + n), p⟩ (by simp) hgr6 hown6)
                        have HB6 := Lib.hid (below_two HBp6.out hgr6 (by simp; omega) HRp6.out.rowT)
                        have HF6 : Hid (∀ t ∈ toks ++ [⟨1 + m, s.extract p (p + n), p⟩], Fine t) := fun t ht => by
                          rcases List.mem_append.1 ht with h | h
                          · exact HF.out t h
                          · rw [List.mem_singleton.1 h]; exact HFT.out
                        have hl6 : (toks ++ [(⟨1 + m, s.extract p (p + n), p⟩ : Tk)]).length ≤ p + n := by simp; omega
                        clear hown6 hgr6 HRp6 HBp6 cv6
                        go_wp2
                        go_roundw
                        case rel => exact ⟨p + n, f, _, notes, by go_num, by omega, by omega, hl6, by omega, HB6.out, HR6.out, HF6.out, HZ1.out, HZ4.out⟩
                        case measure => simp [intOf]; omega
                      · have HFK := Lib.hid hfk
                        have HX : Hid (runB s isIn s.size (k + 1) = p + n) := by show _ = _; rw [← HK.out]; exact (runB_step s isIn f' s.size k hks (by rw [HIN.out, hfk]; simp) hf' (by omega)).symm
                        clear hfk
                        go_wp2_with fail
                        refine (refLetter_any (bt s k) wr (by omega) (by omega)).mono ?_
                        rintro e w2 ⟨rfl, rfl⟩
                        rw [HLK.out]
                        go_wp2_with fail
                        refine (refFigure_any (bt s k) wr (by omega) (by omega)).mono ?_
                        rintro e w2 ⟨rfl, rfl⟩
                        rw [HFK.out]
                        go_wp2
                        go_round
                        case rel => exact ⟨k + 1, s.size, by go_num, by omega, by omega, by omega, HX.out⟩
                        case measure => simp [intOf]; omega
                    · have HLK := Lib.hid hlk
                      have HX : Hid (runB s isIn s.size (k + 1) = p + n) := by show _ = _; rw [← HK.out]; exact (runB_step s isIn f' s.size k hks (by rw [HIN.out, hlk]; rfl) hf' (by omega)).symm
                      clear hlk
                      go_wp2_with fail
                      refine (refLetter_any (bt s k) wr (by omega) (by omega)).mono ?_
                      rintro e w2 ⟨rfl, rfl⟩
                      rw [HLK.out]
                      go_wp2
                      go_round
                      case rel => exact ⟨k + 1, s.size, by go_num, by omega, by omega, by omega, HX.out⟩
                      case measure => simp [intOf]; omega
                  · have gks : decide (k < s.size) = false := decide_eq_false hks
                    have hkn : k = p + n := by rw [← HK.out]; exact (runB_stop _ _ _ _ (.inl (by omega))).symm
                    subst hkn
                    go_wp2_with fail
                    refine (refLetter_any (bt s p) wr (by omega) (by omega)).mono ?_
                    rintro e w2 ⟨rfl, rfl⟩
                    rw [HL.out]
                    have cvw := conv_sub s b o p n (cap - p) wr HCr.out.2 z3
                    go_wp2_with fail
                    refine (refWord_any (s.extract p (p + n)) wr).mono ?_
                    rintro e w3 ⟨rfl, hb3⟩
                    have HB3 := Lib.hid (HB.out.trans (hb3.mono HB.out.size))
                    have HR3 := Lib.hid (HR.out.below hb3)
                    have hs3 := hb3.size
                    clear hb3 cvw
                    have hwl := wordN_le (s.extract p (p + n))
                    generalize wordN (s.extract p (p + n)) = m at *
                    have m1 : decide (0 < 1 + (m : Int)) = true := decide_eq_true (by omega)
                    have cv6 := conv_sub s b o p n (cap - p) w3 (HC.out.below HB3.out).2 z3
                    have HRp6 := Lib.hid (HR3.out.below ((Below.refl _ w3).alloc (Nat.le_refl _) (.cells #[.int .i64 (1 + (m : Int)), .string (s.extract p (p + n)), .int .i64 p] 42)))
                    have HBp6 := Lib.hid (HB3.out.alloc HB3.out.size (.cells #[.int .i64 (1 + (m : Int)), .string (s.extract p (p + n)), .int .i64 p] 42))
                    have hz6 := HB3.out.size
                    go_wp2_with (at_builtin; refine app_ref (1 + (m : Int)) (s.extract p (p + n)) p rfl (.tmp 178) (.tmp 187) rfl w.heap.size _ toks.length (cellsOf toks) rfl HRp6.out.rowT rfl (by omega) (by omega) ?_)
                    intro v6 w6 hown6 hgr6
                    have HR6 := Lib.hid (HRp6.out.pushT ⟨1 + m, s.extract p (p + n), p⟩ (by simp) hgr6 hown6)
                    have HB6 := Lib.hid (below_two HBp6.out hgr6 (by simp; omega) HRp6.out.rowT)
                    have HF6 : Hid (∀ t ∈ toks ++ [⟨1 + m, s.extract p (p + n), p⟩], Fine t) := fun t ht => by
                      rcases List.mem_append.1 ht with h | h
                      · exact HF.out t h
                      · rw [List.mem_singleton.1 h]; exact HFT.out
                    have hl6 : (toks ++ [(⟨1 + m, s.extract p (p + n), p⟩ : Tk)]).length ≤ p + n := by simp; omega
                    clear hown6 hgr6 HRp6 HBp6 cv6
                    go_wp2
                    go_roundw
                    case rel => exact ⟨p + n, f, _, notes, by go_num, by omega, by omega, hl6, by omega, HB6.out, HR6.out, HF6.out, HZ1.out, HZ4.out⟩
                    case measure => simp [intOf]; omega
          have HI := Lib.hid hI
          have hlf : isLet (bt s p) = false ∧ isFig (bt s p) = false := by
            unfold isIn at hin
            exact Bool.or_eq_false_iff.1 hin
          have HL := Lib.hid hlf.1
          have HFG := Lib.hid hlf.2
          clear hlf hI
          by_cases hq : bt s p = 34 ∨ bt s p = 96
          · have hq34 : ((bt s p : Int) == 34) = true ∨ (((bt s p : Int) == 34) = false ∧ ((bt s p : Int) == 96) = true) := by
              rcases hq with h | h
              · exact .inl (eqT _ 34 (by omega)).1
              · exact .inr ⟨(eqF _ 34 (by omega)).1, (eqT _ 96 (by omega)).1⟩
            rcases hq34 with i34 | ⟨i34, i96⟩
            · have HQ := Lib.hid (refQuoted_any s (some ⟨b, o, none⟩) cap p wr hs hlt HTr.out)
              rcases quoteI_cases s (bt s p) s.size (p + 1) with hz | ⟨e, hz⟩
              · as_aux_lemma =>
                  have HX : Hid (scanB s = ⟨3, p, st0⟩) := by show _ = _; exact HE.out (.error p) (stops hlt HS.out (stB_quoteF HFE.out hq (by omega)))
                  rw [hz] at HQ
                  clear hz hq HS HVp cb c10
                  go_wp2_with fail
                  refine HNO.out.mono ?_
                  rintro e w2 ⟨rfl, rfl⟩
                  go_wp2_with fail
                  refine (refLetter_any (bt s p) wr (by omega) (by omega)).mono ?_
                  rintro e w2 ⟨rfl, rfl⟩
                  rw [HL.out]
                  go_wp2_with fail
                  refine (refFigure_any (bt s p) wr (by omega) (by omega)).mono ?_
                  rintro e w2 ⟨rfl, rfl⟩
                  rw [HFG.out]
                  go_wp2_with fail
                  refine HQ.out.mono ?_
                  rintro e w3 ⟨rfl, hb3⟩
                  have HB3 := Lib.hid (HB.out.trans (hb3.mono HB.out.size))
                  have HR3 := Lib.hid (HR.out.below hb3)
                  have hs3 := hb3.size
                  clear hb3
                  go_wp2
                  try simp only [Exit.inBlock, Exit.then]
                  refine bodyPost_ret (results_tmp4 rfl _ _ _) rfl ?_
                  exact refEnds_none HB3.out HX.out
              · as_aux_lemma =>
                  obtain ⟨z1, z2, z3, z4⟩ := go_on hlt HVp.out HS.out (stB_quote HFE.out hq e hz)
                  have hft := cls_fine hlt (.quote hq e hz)
                  obtain ⟨n, rfl⟩ : ∃ n, e = p + n := ⟨e - p, by omega⟩
                  have HZ1 := Lib.hid z1
                  have HZ4 := Lib.hid z4
                  have HFT := Lib.hid hft
                  rw [hz] at HQ
                  have he3 : decide ((p : Int) + (n : Int) < 0) = false := decide_eq_false (by omega)
                  have he4 : decide (((p + n : Nat) : Int) < 0) = false := decide_eq_false (by omega)
                  clear hz hq HS HVp cb c10 z1 z4 hft
                  go_wp2_with fail
                  refine HNO.out.mono ?_
                  rintro e w2 ⟨rfl, rfl⟩
                  go_wp2_with fail
                  refine (refLetter_any (bt s p) wr (by omega) (by omega)).mono ?_
                  rintro e w2 ⟨rfl, rfl⟩
                  rw [HL.out]
                  go_wp2_with fail
                  refine (refFigure_any (bt s p) wr (by omega) (by omega)).mono ?_
                  rintro e w2 ⟨rfl, rfl⟩
                  rw [HFG.out]
                  go_wp2_with fail
                  refine HQ.out.mono ?_
                  rintro e w3 ⟨rfl, hb3⟩
                  have HB3 := Lib.hid (HB.out.trans (hb3.mono HB.out.size))
                  have HR3 := Lib.hid (HR.out.below hb3)
                  have hs3 := hb3.size
                  clear hb3
                  have cv6 := conv_sub s b o p n (cap - p) w3 (HC.out.below HB3.out).2 z3
                  have HRp6 := Lib.hid (HR3.out.below ((Below.refl _ w3).alloc (Nat.le_refl _) (.cells #[.int .i64 ((5 : Nat) : Int), .string (s.extract p (p + n)), .int .i64 p] 42)))
                  have HBp6 := Lib.hid (HB3.out.alloc HB3.out.size (.cells #[.int .i64 ((5 : Nat) : Int), .string (s.extract p (p + n)), .int .i64 p] 42))
                  have hz6 := HB3.out.size
                  go_wp2_with (at_builtin; refine app_ref ((5 : Nat) : Int) (s.extract p (p + n)) p rfl (.tmp 178) (.tmp 187) rfl w.heap.size _ toks.length (cellsOf toks) rfl HRp6.out.rowT rfl (by omega) (by omega) ?_)
                  intro v6 w6 hown6 hgr6
                  have HR6 := Lib.hid (HRp6.out.pushT ⟨5, s.extract p (p + n), p⟩ (by simp) hgr6 hown6)
                  have HB6 := Lib.hid (below_two HBp6.out hgr6 (by simp; omega) HRp6.out.rowT)
                  have HF6 : Hid (∀ t ∈ toks ++ [⟨5, s.extract p (p + n), p⟩], Fine t) := fun t ht => by
                    rcases List.mem_append.1 ht with h | h
                    · exact HF.out t h
                    · rw [List.mem_singleton.1 h]; exact HFT.out
                  have hl6 : (toks ++ [(⟨5, s.extract p (p + n), p⟩ : Tk)]).length ≤ p + n := by simp; omega
                  clear hown6 hgr6 HRp6 HBp6 cv6
                  go_wp2
                  go_roundw
                  case rel => exact ⟨p + n, f, _, notes, by go_num, by omega, by omega, hl6, by omega, HB6.out, HR6.out, HF6.out, HZ1.out, HZ4.out⟩
                  case measure => simp [intOf]; omega
            · have HQ := Lib.hid (refQuoted_any s (some ⟨b, o, none⟩) cap p wr hs hlt HTr.out)
              rcases quoteI_cases s (bt s p) s.size (p + 1) with hz | ⟨e, hz⟩
              · as_aux_lemma =>
                  have HX : Hid (scanB s = ⟨3, p, st0⟩) := by show _ = _; exact HE.out (.error p) (stops hlt HS.out (stB_quoteF HFE.out hq (by omega)))
                  rw [hz] at HQ
                  clear hz hq HS HVp cb c10
                  go_wp2_with fail
                  refine HNO.out.mono ?_
                  rintro e w2 ⟨rfl, rfl⟩
                  go_wp2_with fail
                  refine (refLetter_any (bt s p) wr (by omega) (by omega)).mono ?_
                  rintro e w2 ⟨rfl, rfl⟩
                  rw [HL.out]
                  go_wp2_with fail
                  refine (refFigure_any (bt s p) wr (by omega) (by omega)).mono ?_
                  rintro e w2 ⟨rfl, rfl⟩
                  rw [HFG.out]
                  go_wp2_with fail
                  refine HQ.out.mono ?_
                  rintro e w3 ⟨rfl, hb3⟩
                  have HB3 := Lib.hid (HB.out.trans (hb3.mono HB.out.size))
                  have HR3 := Lib.hid (HR.out.below hb3)
                  have hs3 := hb3.size
                  clear hb3
                  go_wp2
                  try simp only [Exit.inBlock, Exit.then]
                  refine bodyPost_ret (results_tmp4 rfl _ _ _) rfl ?_
                  exact refEnds_none HB3.out HX.out
              · as_aux_lemma =>
                  obtain ⟨z1, z2, z3, z4⟩ := go_on hlt HVp.out HS.out (stB_quote HFE.out hq e hz)
                  have hft := cls_fine hlt (.quote hq e hz)
                  obtain ⟨n, rfl⟩ : ∃ n, e = p + n := ⟨e - p, by omega⟩
                  have HZ1 := Lib.hid z1
                  have HZ4 := Lib.hid z4
                  have HFT := Lib.hid hft
                  rw [hz] at HQ
                  have he3 : decide ((p : Int) + (n : Int) < 0) = false := decide_eq_false (by omega)
                  have he4 : decide (((p + n : Nat) : Int) < 0) = false := decide_eq_false (by omega)
                  clear hz hq HS HVp cb c10 z1 z4 hft
                  go_wp2_with fail
                  refine HNO.out.mono ?_
                  rintro e w2 ⟨rfl, rfl⟩
                  go_wp2_with fail
                  refine (refLetter_any (bt s p) wr (by omega) (by omega)).mono ?_
                  rintro e w2 ⟨rfl, rfl⟩
                  rw [HL.out]
                  go_wp2_with fail
                  refine (refFigure_any (bt s p) wr (by omega) (by omega)).mono ?_
                  rintro e w2 ⟨rfl, rfl⟩
                  rw [HFG.out]
                  go_wp2_with fail
                  refine HQ.out.mono ?_
                  rintro e w3 ⟨rfl, hb3⟩
                  have HB3 := Lib.hid (HB.out.trans (hb3.mono HB.out.size))
                  have HR3 := Lib.hid (HR.out.below hb3)
                  have hs3 := hb3.size
                  clear hb3
                  have cv6 := conv_sub s b o p n (cap - p) w3 (HC.out.below HB3.out).2 z3
                  have HRp6 := Lib.hid (HR3.out.below ((Below.refl _ w3).alloc (Nat.le_refl _) (.cells #[.int .i64 ((5 : Nat) : Int), .string (s.extract p (p + n)), .int .i64 p] 42)))
                  have HBp6 := Lib.hid (HB3.out.alloc HB3.out.size (.cells #[.int .i64 ((5 : Nat) : Int), .string (s.extract p (p + n)), .int .i64 p] 42))
                  have hz6 := HB3.out.size
                  go_wp2_with (at_builtin; refine app_ref ((5 : Nat) : Int) (s.extract p (p + n)) p rfl (.tmp 178) (.tmp 187) rfl w.heap.size _ toks.length (cellsOf toks) rfl HRp6.out.rowT rfl (by omega) (by omega) ?_)
                  intro v6 w6 hown6 hgr6
                  have HR6 := Lib.hid (HRp6.out.pushT ⟨5, s.extract p (p + n), p⟩ (by simp) hgr6 hown6)
                  have HB6 := Lib.hid (below_two HBp6.out hgr6 (by simp; omega) HRp6.out.rowT)
                  have HF6 : Hid (∀ t ∈ toks ++ [⟨5, s.extract p (p + n), p⟩], Fine t) := fun t ht => by
                    rcases List.mem_append.1 ht with h | h
                    · exact HF.out t h
                    · rw [List.mem_singleton.1 h]; exact HFT.out
                  have hl6 : (toks ++ [(⟨5, s.extract p (p + n), p⟩ : Tk)]).length ≤ p + n := by simp; omega
                  clear hown6 hgr6 HRp6 HBp6 cv6
                  go_wp2
                  go_roundw
                  case rel => exact ⟨p + n, f, _, notes, by go_num, by omega, by omega, hl6, by omega, HB6.out, HR6.out, HF6.out, HZ1.out, HZ4.out⟩
                  case measure => simp [intOf]; omega
          have HQ := Lib.hid (refSign_any s (some ⟨b, o, none⟩) cap p wr hs hlt hcap HTr.out)
          obtain ⟨i34, i34'⟩ := eqF (bt s p) 34 (by omega)
          obtain ⟨i96, i96'⟩ := eqF (bt s p) 96 (by omega)
          have hcs : bt s p ≠ 10 ∧ bt s p ≠ 32 ∧ bt s p ≠ 9 ∧ bt s p ≠ 13 ∧ bt s p ≠ 34 ∧ bt s p ≠ 96 := by omega
          by_cases h0 : signN (s.extract p s.size) = 0
          · as_aux_lemma =>
              have HX : Hid (scanB s = ⟨3, p, st0⟩) := by show _ = _; exact HE.out (.error p) (stops hlt HS.out (stB_signF HFE.out hcs HI.out hin h0))
              rw [h0] at HQ
              clear h0 hcs hq HS HVp cb c10
              go_wp2_with fail
              refine HNO.out.mono ?_
              rintro e w2 ⟨rfl, rfl⟩
              go_wp2_with fail
              refine (refLetter_any (bt s p) wr (by omega) (by omega)).mono ?_
              rintro e w2 ⟨rfl, rfl⟩
              rw [HL.out]
              go_wp2_with fail
              refine (refFigure_any (bt s p) wr (by omega) (by omega)).mono ?_
              rintro e w2 ⟨rfl, rfl⟩
              rw [HFG.out]
              go_wp2_with fail
              refine HQ.out.mono ?_
              rintro e w3 ⟨rfl, hb3⟩
              have HB3 := Lib.hid (HB.out.trans (hb3.mono HB.out.size))
              have HR3 := Lib.hid (HR.out.below hb3)
              have hs3 := hb3.size
              clear hb3
              go_wp2
              try simp only [Exit.inBlock, Exit.then]
              refine bodyPost_ret (results_tmp4 rfl _ _ _) rfl ?_
              exact refEnds_none HB3.out HX.out
          · as_aux_lemma =>
              obtain ⟨z1, z2, z3, z4⟩ := go_on hlt HVp.out HS.out (stB_sign HFE.out hcs HI.out hin h0)
              have hft := cls_fine hlt (.sign HI.out hin (by omega) h0)
              generalize signN (s.extract p s.size) = n at *
              have HZ1 := Lib.hid z1
              have HZ4 := Lib.hid z4
              have HFT := Lib.hid hft
              have he3 : ((p : Int) + (n : Int) == (p : Int)) = false := beq_eq_false_iff_ne.2 (by omega)
              have he4 : (((n : Nat) : Int) == 0) = false := beq_eq_false_iff_ne.2 (by omega)
              clear h0 hcs hq HS HVp cb c10 z1 z4 hft
              go_wp2_with fail
              refine HNO.out.mono ?_
              rintro e w2 ⟨rfl, rfl⟩
              go_wp2_with fail
              refine (refLetter_any (bt s p) wr (by omega) (by omega)).mono ?_
              rintro e w2 ⟨rfl, rfl⟩
              rw [HL.out]
              go_wp2_with fail
              refine (refFigure_any (bt s p) wr (by omega) (by omega)).mono ?_
              rintro e w2 ⟨rfl, rfl⟩
              rw [HFG.out]
              go_wp2_with fail
              refine HQ.out.mono ?_
              rintro e w3 ⟨rfl, hb3⟩
              have HB3 := Lib.hid (HB.out.trans (hb3.mono HB.out.size))
              have HR3 := Lib.hid (HR.out.below hb3)
              have hs3 := hb3.size
              clear hb3
              have cv6 := conv_sub s b o p n (cap - p) w3 (HC.out.below HB3.out).2 z3
              have HRp6 := Lib.hid (HR3.out.below ((Below.refl _ w3).alloc (Nat.le_refl _) (.cells #[.int .i64 ((6 : Nat) : Int), .string (s.extract p (p + n)), .int .i64 p] 42)))
              have HBp6 := Lib.hid (HB3.out.alloc HB3.out.size (.cells #[.int .i64 ((6 : Nat) : Int), .string (s.extract p (p + n)), .int .i64 p] 42))
              have hz6 := HB3.out.size
              go_wp2_with (at_builtin; refine app_ref ((6 : Nat) : Int) (s.extract p (p + n)) p rfl (.tmp 178) (.tmp 187) rfl w.heap.size _ toks.length (cellsOf toks) rfl HRp6.out.rowT rfl (by omega) (by omega) ?_)
              intro v6 w6 hown6 hgr6
              have HR6 := Lib.hid (HRp6.out.pushT ⟨6, s.extract p (p + n), p⟩ (by simp) hgr6 hown6)
              have HB6 := Lib.hid (below_two HBp6.out hgr6 (by simp; omega) HRp6.out.rowT)
              have HF6 : Hid (∀ t ∈ toks ++ [⟨6, s.extract p (p + n), p⟩], Fine t) := fun t ht => by
                rcases List.mem_append.1 ht with h | h
                · exact HF.out t h
                · rw [List.mem_singleton.1 h]; exact HFT.out
              have hl6 : (toks ++ [(⟨6, s.extract p (p + n), p⟩ : Tk)]).length ≤ p + n := by simp; omega
              clear hown6 hgr6 HRp6 HBp6 cv6
              go_wp2
              go_roundw
              case rel => exact ⟨p + n, f, _, notes, by go_num, by omega, by omega, hl6, by omega, HB6.out, HR6.out, HF6.out, HZ1.out, HZ4.out⟩
              case measure => simp [intOf]; omega
        · obtain ⟨f0, f1, f2, f3, f4⟩ := HFI.out.1 hfe
          obtain ⟨z1, z2, z3, z4⟩ := go_on hlt HVp.out HS.out (stB_feff hfe)
          have HZ1 := Lib.hid z1
          have HZ4 := Lib.hid z4
          clear z1 z4 hfe f2 f3 f4 HS HVp gk HFI
          go_wp2
          go_roundw
          case rel => exact ⟨3, f, toks, notes, by go_num, by omega, by omega, by omega, by omega, HB.out, HR.out, HF.out, HZ1.out, HZ4.out⟩
          case measure => simp [intOf]; omega
    · have gk : decide (p < s.size) = false := decide_eq_false hlt
      obtain ⟨a1, k1, rfl, hk1, hm1, hta⟩ := tokAt_of_rowR HR.out.rowT
      have HTA := Lib.hid hta
      have hBs := HB.out.size
      obtain rfl : p = s.size := by omega
      have hfin : scanF s s.size st0 = .ok ⟨s.size, toks, notes⟩ := by
        rw [← HS.out]
        cases f with
        | zero => rfl
        | succ f => rw [scanF, if_neg (by simp)]
      have HX := Lib.hid (HE.out _ hfin)
      have HEN := Lib.hid (refEnds_any toks a1 k1)
      clear hta hfin HS HVp
      cases hen : endsR toks
      · as_aux_lemma =>
          have HN := Lib.hid hen
          have hz : endL toks s.size = toks := by rw [endL_ends, hen]; rfl
          have hX := HX.out
          dsimp only at hX
          rw [hz] at hX
          have HX := Lib.hid hX
          clear hen hz hX
          go_wp2_with fail
          refine (HEN.out wr (by omega) HTA.out HF.out).mono ?_
          rintro e w2 ⟨rfl, hb2⟩
          have hz2 := hb2.size
          have HB2 := Lib.hid (HB.out.trans (hb2.mono HB.out.size))
          have HR2 := Lib.hid (HR.out.below hb2)
          clear hb2
          rw [HN.out]
          go_wp2
          try simp only [Exit.inBlock, Exit.then]
          refine bodyPost_ret (results_tmp4 rfl _ _ _) rfl ?_
          rw [HX.out]
          exact ⟨HB2.out, _, _, rfl, HR2.out.rowT, HR2.out.rowN⟩
      · as_aux_lemma =>
          have HN := Lib.hid hen
          have hz : endL toks s.size = toks ++ [⟨6, nlT, s.size⟩] := by rw [endL_ends, hen]; rfl
          have hX := HX.out
          dsimp only at hX
          rw [hz] at hX
          have HX := Lib.hid hX
          clear hen hz hX
          go_wp2_with fail
          refine (HEN.out wr (by omega) HTA.out HF.out).mono ?_
          rintro e w2 ⟨rfl, hb2⟩
          have hz2 := hb2.size
          have HB2 := Lib.hid (HB.out.trans (hb2.mono HB.out.size))
          have HR2 := Lib.hid (HR.out.below hb2)
          clear hb2
          rw [HN.out]
          have HRp4 := Lib.hid (HR2.out.below ((Below.refl _ w2).alloc (Nat.le_refl _) (.cells #[.int .i64 6, .string ⟨#[10]⟩, .int .i64 s.size] 42)))
          have HBp4 := Lib.hid (HB2.out.alloc HB2.out.size (.cells #[.int .i64 6, .string ⟨#[10]⟩, .int .i64 s.size] 42))
          go_wp2_with (at_builtin; refine app_ref 6 ⟨#[10]⟩ s.size rfl (.tmp 192) (.tmp 196) rfl w.heap.size _ toks.length (cellsOf toks) rfl HRp4.out.rowT rfl (by omega) (by omega) ?_)
          intro v4 w4 hown4 hgr4
          have HR4 := Lib.hid (HRp4.out.pushT ⟨6, nlT, s.size⟩ (by simp) hgr4 hown4)
          have HB4 := Lib.hid (below_two HBp4.out hgr4 (by simp; omega) HRp4.out.rowT)
          have HF4 : Hid (∀ t ∈ toks ++ [⟨6, nlT, s.size⟩], Fine t) := fun t ht => by
            rcases List.mem_append.1 ht with h | h
            · exact HF.out t h
            · rw [List.mem_singleton.1 h]; exact fine_put _
          have hl4 : (toks ++ [(⟨6, nlT, s.size⟩ : Tk)]).length ≤ s.size + 1 := by simp; omega
          have hs4 := HB4.out.size
          clear hown4 hgr4 HRp4 HBp4
          go_wp2
          try simp only [Exit.inBlock, Exit.then]
          refine bodyPost_ret (results_tmp4 rfl _ _ _) rfl ?_
          rw [HX.out]
          exact ⟨HB4.out, _, _, rfl, HR4.out.rowT, HR4.out.rowN⟩
end Go.Proofs.YthpengbglbgidaaDoor
