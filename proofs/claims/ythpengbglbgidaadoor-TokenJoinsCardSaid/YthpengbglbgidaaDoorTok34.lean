/- TokenJoins: the walk. -/
import Derived.Test.YthpengbglbgidaaDoorTok33
import Derived.Test.YthpengbglbgidaaDoorTok15
import Derived.Test.YthpengbglbgidaaDoorApp
import Derived.Lib.AppendStr
import Derived.BigQuiet
import Derived.Deep.QuietTactic
namespace Go.Proofs.YthpengbglbgidaaDoor
open Go.RowKit Go.Joins
set_option linter.unusedVariables false

/-- Bytes as they stand in memory. -/
def rowL (l : List UInt8) : List Value := l.map fun b => Value.int .u8 b.toNat
theorem rowL_append (a b : List UInt8) : rowL (a ++ b) = rowL a ++ rowL b := List.map_append
theorem rowL_str (s : ByteArray) : Lib.strCells s = rowL s.data.toList := rfl
theorem joinL_take (l : List Tk) (i : Nat) (tk : Tk) (h : l[i]? = some tk) : joinL (l.take (i + 1)) = joinL (l.take i) ++ sepL tk := by
  obtain ⟨hlt, he⟩ := List.getElem?_eq_some_iff.1 h
  rw [List.take_succ_eq_append_getElem hlt, joinL_append, he]
  show _ ++ (sepL tk ++ []) = _
  rw [List.append_nil]
theorem joinL_take_le (l : List Tk) (i : Nat) : (joinL (l.take i)).length ≤ (joinL l).length := by
  have h : joinL l = joinL (l.take i) ++ joinL (l.drop i) := by rw [← joinL_append, List.take_append_drop]
  rw [h, List.length_append]
  omega
theorem sepL_nl {tk : Tk} (h : (tk.text.toList == [10]) = true) : sepL tk = tk.text.data.toList := by
  unfold sepL
  rw [h]
  simp
theorem sepL_no {tk : Tk} (h : (tk.text.toList == [10]) = false) : sepL tk = tk.text.data.toList ++ [32] := by
  unfold sepL
  rw [h]
  simp
theorem rowL_bytes (l : List Tk) : byteCells (joinB l) = rowL (joinL l) := rfl

theorem like_at {a b : List Tk} (h : Like a b) (i : Nat) (tk : Tk) (hi : a[i]? = some tk) : ∃ p, b[i]? = some ⟨tk.kind, tk.text, p⟩ := by
  have e : (a.map kt)[i]? = some (kt tk) := by rw [List.getElem?_map, hi]; rfl
  rw [show a.map kt = b.map kt from h, List.getElem?_map] at e
  cases hb : b[i]? with
  | none => rw [hb] at e; cases e
  | some u =>
    rw [hb] at e
    have e := Option.some.inj e
    unfold kt at e
    injection e with e1 e2
    exact ⟨u.at_, by rw [← e1, ← e2]⟩

theorem TokAt.cells {w : World} {g : Nat} {l : List Tk} (h : TokAt w (some ⟨g, 0, none⟩) l) {i : Nat} {tk : Tk} (hi : l[i]? = some tk) :
    w.cell? ⟨g, i * 3, none⟩ = some (.int .i64 tk.kind) ∧ w.cell? ⟨g, i * 3 + 1, none⟩ = some (.string tk.text) ∧ w.cell? ⟨g, i * 3 + 2, none⟩ = some (.int .i64 tk.at_) := by
  obtain ⟨g', he, _, h⟩ := h.at hi
  obtain rfl : g = g' := by injection he with e; injection e
  exact h

/-- The row of what is joined so far. -/
def RowJ (w : World) (B : Nat) (v : Value) (l : List UInt8) : Prop := w.ownsRow B 5 1 v l.length (rowL l)

theorem RowJ.of {w : World} {B : Nat} {v : Value} {a : List UInt8} {n : Nat} {xs : List Value} (h : w.ownsRow B 5 1 v n xs) (hn : n = a.length) (hx : xs = rowL a) : RowJ w B v a := by
  subst hn hx
  exact h
theorem RowJ.text {w : World} {B : Nat} {v : Value} {l : List Tk} (h : RowJ w B v (joinL l)) : ∃ a cap, v = .slice a (joinB l).size cap ∧ Text w a (joinB l) ∧ (joinB l).size ≤ cap :=
  copied (s := joinB l) h

set_option maxHeartbeats 4000000 in
set_option maxRecDepth 100000 in
theorem joins_walk (a : Option Addr) (cap : Nat) (s : ByteArray) (w : World) (ht : Text w a s) (hcap : s.size ≤ cap) (hT : Tabs w) (hm : MaxLen w) :
    Calls Tryd.prog 4 #[.slice a s.size cap] w fun e w' => e = .returned (.bool true) ∧ Below w.heap.size w w' := by
  by_cases hl : 1000 < s.size
  · go_enter Tryd.func4, Tryd.ntmps4
    go_wp2
    go_ret
    exact ⟨rfl, Below.refl _ w⟩
  have h1 := toks_any s a cap w ht hT hm hcap
  unfold ToksEnds at h1
  have H1 := Lib.hid h1
  clear h1
  have HT := Lib.hid hT
  have HM := Lib.hid hm
  have HJ : Hid ((scanR s).err = 0 → (scanR (joinB (scanR s).st.toks)).err = 0 ∧ Like (scanR s).st.toks (scanR (joinB (scanR s).st.toks)).st.toks ∧ (joinB (scanR s).st.toks).size ≤ 2001) := fun h => ⟨(joined s h (by omega)).1, (joined s h (by omega)).2, by have := joined_size h; omega⟩
  clear ht hT hm hcap
  generalize scanR s = o at *
  obtain ⟨err, pos, at_, toks, notes⟩ := o
  go_enter Tryd.func4, Tryd.ntmps4
  go_wp2_with fail
  refine H1.out.mono ?_
  rintro e w1 ⟨hb, vt, rfl, hrow⟩
  obtain ⟨a1, c1, rfl, hc1, hm1, hta⟩ := tokAt_of_row hrow
  have HB := Lib.hid hb
  have HA := Lib.hid hta
  clear hb hrow hta H1
  dsimp only at *
  by_cases he : err = 0
  case neg =>
    have g1 : (err == 0) = false := beq_eq_false_iff_ne.2 he
    have g2 : (err != 0) = true := by rw [bne, g1]; rfl
    clear he
    go_wp2_with fail
    refine (awake_any w1 (HT.out.below HB.out) (HM.out.below HB.out)).mono ?_
    rintro e w2 ⟨rfl, hb2⟩
    have HB2 := Lib.hid (HB.out.trans (hb2.mono HB.out.size))
    clear hb2
    go_wp2
    go_ret
    exact ⟨rfl, HB2.out⟩
  subst he
  obtain ⟨j1, j2, j3⟩ := HJ.out rfl
  have J1 := Lib.hid j1
  have J2 := Lib.hid j2
  have J3 := Lib.hid j3
  clear j1 j2 j3 HJ
  generalize hn : toks.length = n at *
  have hmx : n ≤ 9223372036854775807 := by unfold maxLen at hm1; omega
  obtain ⟨i0, hi0, hz0, hz1, hz2⟩ := info_parts Tryd.info5
  have hi0' := Lib.hid hi0
  have hz0' := Lib.hid hz0
  have hz1' := Lib.hid hz1
  have hz2' := Lib.hid hz2
  clear hi0 hz0 hz1 hz2
  have HN := Lib.hid hn
  clear hn
  go_wp2
  go_loopw [6, 7] (fun c v wr => ∃ i : Nat, v = .int .i64 i ∧ i ≤ n ∧ Hid (Below w1.heap.size w1 wr) ∧ Hid (RowJ wr w1.heap.size c (joinL (toks.take i)))) (fun _ v _ => n - (intOf v).toNat)
  case atStart => exact ⟨0, rfl, Nat.zero_le _, Below.refl _ _, ⟨rfl, .inl ⟨rfl, rfl⟩⟩⟩
  case round =>
    obtain ⟨i, rfl, hi, HBr, HRr⟩ := hrel
    by_cases hlt : i < n
    · have gi : decide (i < n) = true := decide_eq_true hlt
      have hmem : ∃ tk, toks[i]? = some tk := ⟨toks[i]'(by have := HN.out; omega), by have := HN.out; simp [this, hlt]⟩
      obtain ⟨tk, htk⟩ := hmem
      have HAr := HA.out.below HBr.out
      obtain ⟨g, rfl, hg, d0, d1, d2⟩ := HAr.at htk
      have hjt := joinL_take toks i tk htk
      have hle1 := joinL_take_le toks i
      have hle2 := joinL_take_le toks (i + 1)
      have hj3 : (joinL toks).length ≤ 2001 := by have := J3.out; rw [joinB_size] at this; exact this
      rw [hjt, List.length_append] at hle2
      have hsl : tk.text.size ≤ (sepL tk).length := by unfold sepL; rw [List.length_append]; show tk.text.size ≤ tk.text.data.toList.length + _; have : tk.text.data.toList.length = tk.text.size := rfl; omega
      have hb1 : (joinL (toks.take i)).length + tk.text.size ≤ 2001 := by omega
      have hBs := HBr.out.size
      have HJT := Lib.hid hjt
      clear hjt hle1 hle2 hj3 hsl
      have HTK := Lib.hid htk
      clear htk HAr
      cases hq : (tk.text.toList == [10])
      · have HQ := Lib.hid (sepL_no hq)
        obtain ⟨kind, text, ta⟩ := tk
        dsimp only at *
        go_wp2_with (at_builtin; refine Lib.wpList_append_own_string _ rfl (.tmp 30) (.tmp 35) 22 9 rfl w1.heap.size 5 i0 Tryd.underlying22 Tryd.underlying9 hi0'.out hz0'.out hz1'.out hz2'.out _ _ _ rfl HRr.out text rfl (by unfold maxLen; omega) (by omega) hBs ?_)
        intro v2 w2 hown2 hgr2 _
        have hbw2 := below_own HBr.out hgr2 hBs HRr.out
        have HB2 := Lib.hid hbw2
        have hs2 := hbw2.size
        obtain ⟨f0, f1, f2⟩ := (HA.out.below hbw2).cells HTK.out
        have HO2 := Lib.hid (hown2.alloc (.cells #[.int .u8 32] 5))
        have hbw3 := hbw2.alloc hs2 (.cells #[.int .u8 32] 5)
        have HB3 := Lib.hid hbw3
        clear d0 d1 d2 hown2 hgr2 hbw2 hbw3
        dsimp only at f0 f1 f2
        go_wp2_with (at_builtin; refine wpList_append_own _ rfl (.tmp 43) (.tmp 44) 22 rfl w1.heap.size 5 i0 (.int .u8 0) 1 1 Tryd.underlying22 hi0'.out hz0'.out hz1'.out hz2'.out rfl (by decide) _ _ _ rfl HO2.out ⟨w2.heap.size, 0, none⟩ 1 1 [.int .u8 32] rfl rfl (cell_one_new _ _ _) (fun u hu => by simp at hu; subst hu; rfl) (by unfold maxLen; omega) (by omega) (by simp; omega) ?_)
        intro v3 w3 hown3 hgr3 _
        have hbw4 := below_own HB3.out hgr3 (by simp; omega) HO2.out
        have HB4 := Lib.hid hbw4
        have HR4 : Hid (RowJ w3 w1.heap.size v3 (joinL (toks.take (i + 1)))) := RowJ.of hown3
          (by rw [HJT.out, HQ.out, List.length_append, List.length_append]; rfl)
          (by rw [HJT.out, HQ.out, rowL_append, rowL_append, ← rowL_str]; first | rfl | simp [rowL])
        clear hown3 hgr3 hbw4
        go_wp2
        go_roundw
        case rel => exact ⟨i + 1, by go_num, hlt, HB4.out, HR4.out⟩
        case measure => simp [intOf]; omega
      · have HQ := Lib.hid (sepL_nl hq)
        obtain ⟨kind, text, ta⟩ := tk
        dsimp only at *
        go_wp2_with (at_builtin; refine Lib.wpList_append_own_string _ rfl (.tmp 30) (.tmp 35) 22 9 rfl w1.heap.size 5 i0 Tryd.underlying22 Tryd.underlying9 hi0'.out hz0'.out hz1'.out hz2'.out _ _ _ rfl HRr.out text rfl (by unfold maxLen; omega) (by omega) hBs ?_)
        intro v2 w2 hown2 hgr2 _
        have hbw2 := below_own HBr.out hgr2 hBs HRr.out
        have HB2 := Lib.hid hbw2
        have hs2 := hbw2.size
        obtain ⟨f0, f1, f2⟩ := (HA.out.below hbw2).cells HTK.out
        have HR4 : Hid (RowJ w2 w1.heap.size v2 (joinL (toks.take (i + 1)))) := RowJ.of hown2
          (by rw [HJT.out, HQ.out, List.length_append]; rfl)
          (by rw [HJT.out, HQ.out, rowL_append, ← rowL_str])
        clear d0 d1 d2 hown2 hgr2 hbw2
        dsimp only at f0 f1 f2
        go_wp2
        go_roundw
        case rel => exact ⟨i + 1, by go_num, hlt, HB2.out, HR4.out⟩
        case measure => simp [intOf]; omega
    · have gi : decide (i < n) = false := decide_eq_false hlt
      obtain rfl : i = n := by omega
      have hrow := HRr.out
      rw [List.take_of_length_le (by rw [HN.out]; omega)] at hrow
      obtain ⟨a2, c2, hv2, ht2, hcap2⟩ := hrow.text
      subst hv2
      have hbr := HB.out.trans (HBr.out.mono HB.out.size)
      have H2 := Lib.hid (toks_any (joinB toks) a2 c2 wr ht2 (HT.out.below hbr) (HM.out.below hbr) hcap2)
      have HBW := Lib.hid hbr
      have hsz2 : (joinB toks).size ≤ 2001 := J3.out
      clear hrow ht2 hbr hcap2 HRr
      generalize joinB toks = c at *
      generalize scanR c = o2 at *
      obtain ⟨err2, pos2, at2, toks2, notes2⟩ := o2
      dsimp only at J1 J2
      obtain rfl : err2 = 0 := J1.out
      go_wp2_with fail
      refine H2.out.mono ?_
      rintro e w2 ⟨hb2, vt2, rfl, hrow2⟩
      obtain ⟨a3, c3, rfl, hc3, hm3, hta3⟩ := tokAt_of_row hrow2
      dsimp only at *
      have hlen : toks2.length = i := by
        have := congrArg List.length J2.out
        rw [List.length_map, List.length_map, HN.out] at this
        exact this.symm
      have HA2 := Lib.hid ((HA.out.below HBr.out).below hb2)
      have HA3 := Lib.hid hta3
      have HB2 := Lib.hid (HBW.out.trans (hb2.mono HBW.out.size))
      rw [hlen] at *
      have HL := Lib.hid hlen
      clear hb2 hrow2 hta3 hlen H2
      go_wp2
      go_loopw [11] (fun v wq => ∃ k : Nat, v = .int .i64 k ∧ k ≤ i ∧ Hid (Below w.heap.size w wq) ∧ Hid (TokAt wq a1 toks) ∧ Hid (TokAt wq a3 toks2)) (fun v _ => i - (intOf v).toNat)
      case atStart => exact ⟨0, rfl, Nat.zero_le _, HB2, HA2, HA3⟩
      case round =>
        obtain ⟨k, rfl, hk, HBq, HA4, HA5⟩ := hrel
        by_cases hlt2 : k < i
        · have gk : decide (k < i) = true := decide_eq_true hlt2
          have hmem : ∃ tk, toks[k]? = some tk := ⟨toks[k]'(by have := HN.out; omega), by have := HN.out; simp [this, hlt2]⟩
          obtain ⟨tk, htk⟩ := hmem
          obtain ⟨p2, htk2⟩ := like_at J2.out k tk htk
          obtain ⟨g, rfl, hg, d0, d1, d2⟩ := HA4.out.at htk
          obtain ⟨g', rfl, hg', f0, f1, f2⟩ := HA5.out.at htk2
          obtain ⟨kind, text, ta⟩ := tk
          dsimp only at *
          clear htk htk2 d2 f2
          go_wp2_with fail
          go_quiet (fail)
          have HBn := Lib.hid (HBq.out.trans ((below_drewN _ nq).mono HBq.out.size))
          have HA6 := Lib.hid (HA4.out.below (below_drewN _ nq))
          have HA7 := Lib.hid (HA5.out.below (below_drewN _ nq))
          go_wp2
          go_roundw
          case rel => exact ⟨k + 1, by go_num, hlt2, HBn.out, HA6.out, HA7.out⟩
          case measure => simp [intOf]; omega
        · have gk : decide (k < i) = false := decide_eq_false hlt2
          go_wp2_with fail
          refine (awake_any wr (HT.out.below HBq.out) (HM.out.below HBq.out)).mono ?_
          rintro e w5 ⟨rfl, hb5⟩
          have HB5 := Lib.hid (HBq.out.trans (hb5.mono HBq.out.size))
          clear hb5
          go_wp2
          go_ret
          exact ⟨rfl, HB5.out⟩
end Go.Proofs.YthpengbglbgidaaDoor
