/- TokenStands: the walk. -/
import Derived.Test.YtjgiebdbeejdaaaDoorTok28
namespace Go.Proofs.YtjgiebdbeejdaaaDoor
open Go.RowKit Go.Joins
set_option linter.unusedVariables false

theorem allP_len {t : ByteArray} {y : St} (h : allP t = .ok y) : y.toks.length ≤ t.size + 1 ∧ y.notes.length ≤ t.size := by
  obtain ⟨x, hx, rfl⟩ := allP_inv (fun p x => x.toks.length ≤ p ∧ x.notes.length ≤ p) (fun p x x' hp ha hx hb => by
    have h1 := beginP_len hb
    have h2 := wid_pos t p
    have h3 := hx
    exact ⟨by omega, by omega⟩) (fun p x _ _ hx => ⟨by have := hx.1; omega, by have := hx.2; omega⟩) ⟨Nat.le_refl _, Nat.le_refl _⟩ h
  have := endL_len x.toks t.size
  have h3 := hx
  exact ⟨by show (endL x.toks t.size).length ≤ _; omega, h3.2⟩

theorem bytes_below {w W : World} {b o : Nat} {s : ByteArray} (h : Lib.Bytes w b o s) (hb : b < w.heap.size) (hW : Below w.heap.size w W) : Lib.Bytes W b o s := fun i hi => (hW.cell (p := ⟨b, o + i, none⟩) hb).trans (h i hi)
theorem inside_none (ta j : Nat) : (decide (ta ≤ j) && decide (j < ta)) = false := by
  by_cases h : ta ≤ j
  · rw [decide_eq_false (by omega : ¬ j < ta), Bool.and_false]
  · rw [decide_eq_false h, Bool.false_and]
theorem inside_step (u : Nat → Bool) (ta j k : Nat) (h : ta ≤ k) : (if j = k then true else (u j || (decide (ta ≤ j) && decide (j < k)))) = (u j || (decide (ta ≤ j) && decide (j < k + 1))) := by
  by_cases e : j = k
  · subst e
    rw [if_pos rfl, decide_eq_true h, decide_eq_true (Nat.lt_succ_self j)]
    simp
  · rw [if_neg e]
    congr 2
    exact decide_eq_decide.2 (by omega)
theorem spanB_free {tk : Tk} (h : putB tk = false) (k : Nat) : spanB tk k = (decide (tk.at_ ≤ k) && decide (k < tk.at_ + tk.text.size)) := by unfold spanB; rw [h]; rfl
theorem spanB_put {tk : Tk} (h : putB tk = true) (k : Nat) : spanB tk k = false := by unfold spanB; rw [h]; rfl
theorem EndOk.weak {l : List Tk} {i j e : Nat} (h : EndOk l i e) (hij : i ≤ j) : EndOk l j e := by
  rcases h with h | ⟨k, u, h1, h2⟩
  · exact .inl h
  · exact .inr ⟨k, u, by omega, h2⟩
theorem bool_info : (Tryd.prog.info? 4).map (fun i => (i.zero, i.size, i.bytes)) = some (some (.bool false), 1, 1) := by kernel_rfl

set_option maxHeartbeats 4000000 in
set_option maxRecDepth 100000 in
theorem stands_walk (a : Option Addr) (cap : Nat) (s : ByteArray) (w : World) (ht : Text w a s) (hcap : s.size ≤ cap) (hT : Tabs w) (hm : MaxLen w) :
    Calls Tryd.prog 5 #[.slice a s.size cap] w fun e w' => e = .returned (.bool true) ∧ Below w.heap.size w w' := by
  by_cases hl : 1000 < s.size
  · go_enter Tryd.func5, Tryd.ntmps5
    go_wp2
    go_ret
    exact ⟨rfl, Below.refl _ w⟩
  have h1 := toks_any s a cap w ht hT hm hcap
  unfold ToksEnds at h1
  have H1 := Lib.hid h1
  have H2 : Hid (∀ w1, Below w.heap.size w w1 → Calls Tryd.prog 13 #[.slice a s.size cap] w1 fun e w' => NotesEnds w1 (scanR s) e w') := fun w1 hb => notes_any s a cap w1 (ht.below hb) (hT.below hb) (hm.below hb) hcap
  clear h1
  have HT := Lib.hid hT
  have HM := Lib.hid hm
  have HX := Lib.hid ht
  have HF : Hid ((scanR s).err ≠ 0 → (scanR s).st = st0 ∧ 0 ≤ (scanR s).pos ∧ (scanR s).pos ≤ s.size) := fun h => scanR_fault h (by omega)
  have HS : Hid ((scanR s).err = 0 → Stand s s.size (scanR s).st) := fun h => scanR_stand h
  have HL : Hid ((scanR s).err = 0 → (scanR s).st.toks.length ≤ s.size + 1 ∧ (scanR s).st.notes.length ≤ s.size) := fun h => allP_len (scanR_ok h).2.2.1
  clear ht hT hm
  generalize scanR s = o at *
  obtain ⟨err, pos, st⟩ := o
  go_enter Tryd.func5, Tryd.ntmps5
  go_wp2_with fail
  refine H1.out.mono ?_
  rintro e w1 ⟨hb, vt, rfl, hrow⟩
  obtain ⟨a1, c1, rfl, hc1, hm1, hta⟩ := tokAt_of_row hrow
  have HB := Lib.hid hb
  have HA := Lib.hid hta
  clear hrow hta H1
  dsimp only at *
  have h2 := H2.out w1 hb
  unfold NotesEnds at h2
  have H3 := Lib.hid h2
  clear H2 h2 hb
  go_wp2_with fail
  refine H3.out.mono ?_
  rintro e w2 ⟨hb2, vn, rfl, hrow2⟩
  obtain ⟨a2, c2, rfl, hc2, hm2, hta2⟩ := tokAt_of_row hrow2
  have HB2 := Lib.hid (HB.out.trans (hb2.mono HB.out.size))
  have HA2 := Lib.hid (HA.out.below hb2)
  have HN2 := Lib.hid hta2
  clear hb2 hrow2 hta2 H3 HA HB
  dsimp only at *
  by_cases he : err = 0
  case neg =>
    have g1 : (err == 0) = false := beq_eq_false_iff_ne.2 he
    have g2 : (err != 0) = true := by rw [bne, g1]; rfl
    obtain ⟨e1, e2, e3⟩ := HF.out he
    subst e1
    clear he HF HS HL
    dsimp only [st0, List.length_nil] at *
    go_wp2_with fail
    refine (awake_any w2 (HT.out.below HB2.out) (HM.out.below HB2.out)).mono ?_
    rintro e w3 ⟨rfl, hb3⟩
    have HB3 := Lib.hid (HB2.out.trans (hb3.mono HB2.out.size))
    clear hb3
    go_wp2
    go_ret
    exact ⟨rfl, HB3.out⟩
  subst he
  have HSS : Hid (Stand s s.size st) := HS.out rfl
  have hlen := HL.out rfl
  clear HF HS HL
  obtain ⟨at_, toks, notes⟩ := st
  dsimp only at *
  have hoff := Lib.hid (stand_off HSS.out)
  generalize hn : toks.length = n at *
  generalize hn2 : notes.length = m at *
  have hmx : n ≤ s.size + 1 ∧ m ≤ s.size := hlen
  clear hlen
  obtain ⟨N, hN⟩ : ∃ N : Nat, N = s.size + 1 := ⟨_, rfl⟩
  have hNI : ((s.size : Int) + 1) = (N : Int) := by omega
  have hmk := run_make_row' (P := Tryd.prog) 36 4 (.bool false) 1 Tryd.underlying36 bool_info rfl .i64 .i64 N (by omega) (by omega)
  have HU0 : Hid (BoolRow (w2.alloc (.cells (madeCells #[.bool false] N) 4)) w2.heap.size N (usedB [])) := by
    refine ⟨_, heap_alloc_new w2 _, by simp [madeCells], fun j hj => ?_⟩
    have := congrArg (·[j]?) (toList_madeCells_one (.bool false) N)
    show _ = some (Value.bool false)
    simpa [List.getElem?_replicate, hj] using this
  have HB0 := Lib.hid ((Below.refl w2.heap.size w2).alloc (Nat.le_refl _) (.cells (madeCells #[.bool false] N) 4))
  have HN := Lib.hid hN
  clear hN
  go_wp2
  go_loopw [8, 9] (fun e v wr => ∃ i en : Nat, v = .int .i64 i ∧ e = .int .i64 en ∧ i ≤ n + m ∧ en ≤ s.size ∧ Hid (EndOk toks i en) ∧ Hid (Below w2.heap.size w2 wr) ∧ Hid (BoolRow wr w2.heap.size N (usedB ((toks ++ notes).take i)))) (fun _ v _ => n + m - (intOf v).toNat)
  case atStart => exact ⟨0, 0, rfl, rfl, Nat.zero_le _, Nat.zero_le _, .inl rfl, HB0, HU0⟩
  case round =>
    obtain ⟨i, en, rfl, rfl, hi, hen, HE, HBr, HU⟩ := hrel
    clear HU0 HB0
    by_cases hA : i < n
    · have gA : decide (i < n) = true := decide_eq_true hA
      have gS : decide (i < n + m) = true := decide_eq_true (by omega)
      obtain ⟨tk, htk⟩ : ∃ tk, toks[i]? = some tk := ⟨toks[i]'(by omega), by simp [hn, hA]⟩
      have hit : (toks ++ notes)[i]? = some tk := by rw [List.getElem?_append_left (by omega)]; exact htk
      have hle := HE.out.le HSS.out htk
      have hTp := take_push hit
      have hpc := HSS.out.pieceT tk (List.mem_of_getElem? htk)
      obtain ⟨g, rfl, hg, d0, d1, d2⟩ := (HA2.out.below HBr.out).at htk
      have hfree := fun k hk => used_free hoff.out hit (k := k) hk
      obtain ⟨kind, text, ta⟩ := tk
      have HTK := Lib.hid htk
      have HTP := Lib.hid hTp
      have HIT := Lib.hid hit
      have HPC := Lib.hid hpc
      have HFR := Lib.hid hfree
      clear htk hTp hit hpc hfree
      dsimp only at *
      have hlX := HBr.out.size
      have hne : g ≠ wr.heap.size := by omega
      cases hput : putB ⟨kind, text, ta⟩
      case true =>
        have hp6 := (putB_iff _).1 hput
        have h6 : kind = 6 := hp6.1
        have h10 : text.toList = [10] := by have : text = nlT := hp6.2; rw [this, ByteArray.toList_eq]; rfl
        have HPUT := Lib.hid hput
        subst h6
        clear hput hp6
        have gta : decide ((ta : Int) < en) = false := decide_eq_false (by omega)
        have HB3 := Lib.hid (HBr.out.alloc hlX (.cells #[.int .i64 6, .string text, .int .i64 ta] 38))
        have HU3 := Lib.hid (HU.out.same (Below.heap_alloc wr (.cells #[.int .i64 6, .string text, .int .i64 ta] 38) w2.heap.size (by have := HU.out.lt; omega)))
        have HUn : Hid (BoolRow (wr.alloc (.cells #[.int .i64 6, .string text, .int .i64 ta] 38)) w2.heap.size N (usedB ((toks ++ notes).take (i + 1)))) := HU3.out.congr (fun j _ => by rw [HTP.out, usedB_push, spanB_put HPUT.out, Bool.or_false])
        go_wp2
        go_roundw
        case rel => exact ⟨i + 1, en, by go_num, rfl, by omega, hen, HE.out.weak (by omega), HB3.out, HUn.out⟩
        case measure => simp [intOf]; omega
      case false =>
        obtain ⟨p1, p2, p3⟩ := HPC.out hput
        dsimp only at p1 p2 p3
        have HPUT := Lib.hid hput
        have HP3 := Lib.hid p3
        obtain ⟨b, o, rfl, hlb, hbytes⟩ : ∃ b o, a = some ⟨b, o, none⟩ ∧ b < w.heap.size ∧ Lib.Bytes w b o s := by
          rcases HX.out with h0 | h0
          · omega
          · exact h0
        have HBY := Lib.hid hbytes
        have hks : (kind == 6 && (text.toList == [10])) = false := hput
        have hcase : ((((kind : Nat) : Int) == 6) = false) ∨ (((kind : Nat) : Int) == 6) = true ∧ (text.toList == [10]) = false := by
          rcases Bool.and_eq_false_iff.1 hks with h | h
          · exact .inl (beq_eq_false_iff_ne.2 (by have := beq_eq_false_iff_ne.1 h; omega))
          · by_cases h6 : kind = 6
            · exact .inr ⟨beq_iff_eq.2 (by omega), h⟩
            · exact .inl (beq_eq_false_iff_ne.2 (by omega))
        clear hks hput p3 hbytes
        have gta : decide ((ta : Int) < en) = false := decide_eq_false (by omega)
        have g0 : (text.toList == []) = false := size_pos_list text (by omega)
        have gz : decide ((s.size : Int) < ta + text.size) = false := decide_eq_false (by omega)
        have gn : decide ((ta : Int) < 0) = false := decide_eq_false (by omega)
        rcases hcase with hc6 | ⟨hc6, hc10⟩
        all_goals
          go_wp2_with fail
          have HXC := Lib.hid (heap_alloc_new wr (.cells #[.int .i64 kind, .string text, .int .i64 ta] 38))
          have HB3 := Lib.hid (HBr.out.alloc hlX (.cells #[.int .i64 kind, .string text, .int .i64 ta] 38))
          have HU3 := Lib.hid (HU.out.same (Below.heap_alloc wr (.cells #[.int .i64 kind, .string text, .int .i64 ta] 38) w2.heap.size (by have := HU.out.lt; omega)))
          have hX3 : wr.heap.size < (wr.alloc (.cells #[.int .i64 kind, .string text, .int .i64 ta] 38)).heap.size := by simp
          generalize wr.alloc (.cells #[.int .i64 kind, .string text, .int .i64 ta] 38) = W3 at *
          have hBX0 : w2.heap.size < wr.heap.size := HU.out.lt
          generalize hXE : wr.heap.size = X at *
          clear hXE
          refine wp_region_kept (by kernel_rfl) (by kernel_rfl) ?_
          have hBX := hBX0
          have x0 : ∀ x : Kept W3, x.W.cell? ⟨X, 0, none⟩ = some (.int .i64 kind) := fun x => Kept.cell (by simp [World.cell?, HXC.out]) x
          have x1 : ∀ x : Kept W3, x.W.cell? ⟨X, 1, none⟩ = some (.string text) := fun x => Kept.cell (by simp [World.cell?, HXC.out]) x
          have x2 : ∀ x : Kept W3, x.W.cell? ⟨X, 2, none⟩ = some (.int .i64 ta) := fun x => Kept.cell (by simp [World.cell?, HXC.out]) x
          have xc : ∀ x : Kept W3, (convert 22 9 (.slice (some ⟨b, o + ta, none⟩) text.size (cap - ta))).run Tryd.prog x.W = .ok (.string text) x.W := fun x => by
            have hb := bytes_below HBY.out hlb (HB2.out.trans ((HB3.out.trans (x.h.mono HB3.out.size)).mono HB2.out.size))
            have := Lib.run_convert_window (P := Tryd.prog) x.W 22 5 9 Tryd.underlying22 Tryd.underlying5 Tryd.underlying9 b o s hb ta text.size (cap - ta) (by omega)
            rw [this, HP3.out]
          repeat (go_big_quiet_step (fail))
          refine wpQuiet_nil ?_
          rintro _ ⟨x, rfl⟩
          have HB4 := Lib.hid (HB3.out.trans (x.h.mono HB3.out.size))
          have HU4 := Lib.hid (HU3.out.same (x.h.block _ (by omega)))
          have HX4 := Lib.hid ((x.h.block _ hX3).trans HXC.out)
          have y1 := x1 x
          have y2 := x2 x
          clear x0 x1 x2 xc HXC HB3 HU3
          generalize x.W = W4 at *
          go_wp2
          go_loopw [11] (fun kv wk => ∃ k : Nat, kv = .int .i64 k ∧ ta ≤ k ∧ k ≤ ta + text.size ∧ Hid (wk.heap[X]? = some (.cells #[.int .i64 kind, .string text, .int .i64 ta] 38 (0, 0))) ∧ Hid (Below w2.heap.size w2 wk) ∧ Hid (BoolRow wk w2.heap.size N (fun j => usedB ((toks ++ notes).take i) j || (decide (ta ≤ j) && decide (j < k))))) (fun kv _ => ta + text.size - (intOf kv).toNat)
          case atStart =>
            refine ⟨ta, rfl, Nat.le_refl _, by omega, HX4, HB4, ?_⟩
            exact HU4.out.congr (fun j _ => by rw [inside_none ta j, Bool.or_false])
          case round =>
            obtain ⟨k, rfl, hk1, hk2, HXk, HBk, HUk⟩ := hrel
            have z1 : wr.cell? ⟨X, 1, none⟩ = some (.string text) := by simp [World.cell?, HXk.out]
            have z2 : wr.cell? ⟨X, 2, none⟩ = some (.int .i64 ta) := by simp [World.cell?, HXk.out]
            have hNs := HN.out
            clear y1 y2
            by_cases hkl : k < ta + text.size
            · have gk : decide ((k : Int) < ta + text.size) = true := decide_eq_true (by omega)
              have hkN : k < N := by omega
              have gkN : decide (k < N) = true := decide_eq_true hkN
              have hfr : usedB ((toks ++ notes).take i) k = false := HFR.out k ⟨HPUT.out, hk1, hkl⟩
              obtain ⟨u1, u2⟩ := HUk.out.cell hkN
              rw [hfr, show (decide (ta ≤ k) && decide (k < k)) = false by simp, Bool.false_or] at u1
              clear hfr hNs
              have HUs := Lib.hid (HUk.out.set k true)
              have HBs := Lib.hid (HBk.out.setCell (p := ⟨w2.heap.size, k, none⟩) (Nat.le_refl _) (.bool true))
              have HXs := Lib.hid ((Below.heap_setCell wr ⟨w2.heap.size, k, none⟩ (.bool true) X (by show X ≠ w2.heap.size; omega)).trans HXk.out)
              go_wp2
              go_roundw
              case rel =>
                refine ⟨k + 1, by go_num, by omega, by omega, HXs.out, HBs.out, ?_⟩
                exact HUs.out.congr (fun j _ => inside_step _ ta j k hk1)
              case measure => simp [intOf]; omega
            · have gk : decide ((k : Int) < ta + text.size) = false := decide_eq_false (by omega)
              obtain rfl : k = ta + text.size := by omega
              clear hNs
              have HUn : Hid (BoolRow wr w2.heap.size N (usedB ((toks ++ notes).take (i + 1)))) := HUk.out.congr (fun j _ => by rw [HTP.out, usedB_push, spanB_free HPUT.out])
              go_wp2
              go_roundw
              case rel => exact ⟨i + 1, ta + text.size, by go_num, by go_num, by omega, by omega, .inr ⟨i, _, by omega, HTK.out, HPUT.out, rfl⟩, HBk.out, HUn.out⟩
              case measure => simp [intOf]; omega
    · by_cases hC : i < n + m
      · have gA : decide (i < n) = false := decide_eq_false hA
        have gS : decide (i < n + m) = true := decide_eq_true hC
        obtain ⟨r, rfl⟩ : ∃ r, i = n + r := ⟨i - n, by omega⟩
        have gr : decide (r < m) = true := decide_eq_true (by omega)
        have ger : ((n : Int) + r - n) = r := by omega
        obtain ⟨tk, htk⟩ : ∃ tk, notes[r]? = some tk := ⟨notes[r]'(by omega), List.getElem?_eq_getElem (by omega)⟩
        have hit : (toks ++ notes)[n + r]? = some tk := by rw [List.getElem?_append_right (by omega), hn, Nat.add_sub_cancel_left]; exact htk
        have hTp := take_push hit
        have hpn := HSS.out.pieceN tk (List.mem_of_getElem? htk)
        have hpc : putB tk = false → Piece s tk := fun _ => hpn.2
        have hput : putB tk = false := putB_kind tk (by have := hpn.1; omega)
        clear hpn
        obtain ⟨g, rfl, hg, d0, d1, d2⟩ := (HN2.out.below HBr.out).at htk
        have hfree := fun k hk => used_free hoff.out hit (k := k) hk
        obtain ⟨kind, text, ta⟩ := tk
        have HTK := Lib.hid htk
        have HTP := Lib.hid hTp
        have HIT := Lib.hid hit
        have HPC := Lib.hid hpc
        have HFR := Lib.hid hfree
        clear htk hTp hit hpc hfree
        dsimp only at *
        have hlX := HBr.out.size
        have hne : g ≠ wr.heap.size := by omega
        obtain ⟨p1, p2, p3⟩ := HPC.out hput
        dsimp only at p1 p2 p3
        have HPUT := Lib.hid hput
        have HP3 := Lib.hid p3
        obtain ⟨b, o, rfl, hlb, hbytes⟩ : ∃ b o, a = some ⟨b, o, none⟩ ∧ b < w.heap.size ∧ Lib.Bytes w b o s := by
          rcases HX.out with h0 | h0
          · omega
          · exact h0
        have HBY := Lib.hid hbytes
        have hks : (kind == 6 && (text.toList == [10])) = false := hput
        have hcase : ((((kind : Nat) : Int) == 6) = false) ∨ (((kind : Nat) : Int) == 6) = true ∧ (text.toList == [10]) = false := by
          rcases Bool.and_eq_false_iff.1 hks with h | h
          · exact .inl (beq_eq_false_iff_ne.2 (by have := beq_eq_false_iff_ne.1 h; omega))
          · by_cases h6 : kind = 6
            · exact .inr ⟨beq_iff_eq.2 (by omega), h⟩
            · exact .inl (beq_eq_false_iff_ne.2 (by omega))
        clear hks hput p3 hbytes
        have g0 : (text.toList == []) = false := size_pos_list text (by omega)
        have gz : decide ((s.size : Int) < ta + text.size) = false := decide_eq_false (by omega)
        have gn : decide ((ta : Int) < 0) = false := decide_eq_false (by omega)
        rcases hcase with hc6 | ⟨hc6, hc10⟩
        all_goals
          go_wp2_with fail
          have HXC := Lib.hid (heap_alloc_new wr (.cells #[.int .i64 kind, .string text, .int .i64 ta] 38))
          have HB3 := Lib.hid (HBr.out.alloc hlX (.cells #[.int .i64 kind, .string text, .int .i64 ta] 38))
          have HU3 := Lib.hid (HU.out.same (Below.heap_alloc wr (.cells #[.int .i64 kind, .string text, .int .i64 ta] 38) w2.heap.size (by have := HU.out.lt; omega)))
          have hX3 : wr.heap.size < (wr.alloc (.cells #[.int .i64 kind, .string text, .int .i64 ta] 38)).heap.size := by simp
          generalize wr.alloc (.cells #[.int .i64 kind, .string text, .int .i64 ta] 38) = W3 at *
          have hBX0 : w2.heap.size < wr.heap.size := HU.out.lt
          generalize hXE : wr.heap.size = X at *
          clear hXE
          refine wp_region_kept (by kernel_rfl) (by kernel_rfl) ?_
          have hBX := hBX0
          have x0 : ∀ x : Kept W3, x.W.cell? ⟨X, 0, none⟩ = some (.int .i64 kind) := fun x => Kept.cell (by simp [World.cell?, HXC.out]) x
          have x1 : ∀ x : Kept W3, x.W.cell? ⟨X, 1, none⟩ = some (.string text) := fun x => Kept.cell (by simp [World.cell?, HXC.out]) x
          have x2 : ∀ x : Kept W3, x.W.cell? ⟨X, 2, none⟩ = some (.int .i64 ta) := fun x => Kept.cell (by simp [World.cell?, HXC.out]) x
          have xc : ∀ x : Kept W3, (convert 22 9 (.slice (some ⟨b, o + ta, none⟩) text.size (cap - ta))).run Tryd.prog x.W = .ok (.string text) x.W := fun x => by
            have hb := bytes_below HBY.out hlb (HB2.out.trans ((HB3.out.trans (x.h.mono HB3.out.size)).mono HB2.out.size))
            have := Lib.run_convert_window (P := Tryd.prog) x.W 22 5 9 Tryd.underlying22 Tryd.underlying5 Tryd.underlying9 b o s hb ta text.size (cap - ta) (by omega)
            rw [this, HP3.out]
          repeat (go_big_quiet_step (fail))
          refine wpQuiet_nil ?_
          rintro _ ⟨x, rfl⟩
          have HB4 := Lib.hid (HB3.out.trans (x.h.mono HB3.out.size))
          have HU4 := Lib.hid (HU3.out.same (x.h.block _ (by omega)))
          have HX4 := Lib.hid ((x.h.block _ hX3).trans HXC.out)
          have y1 := x1 x
          have y2 := x2 x
          clear x0 x1 x2 xc HXC HB3 HU3
          generalize x.W = W4 at *
          go_wp2
          go_loopw [11] (fun kv wk => ∃ k : Nat, kv = .int .i64 k ∧ ta ≤ k ∧ k ≤ ta + text.size ∧ Hid (wk.heap[X]? = some (.cells #[.int .i64 kind, .string text, .int .i64 ta] 38 (0, 0))) ∧ Hid (Below w2.heap.size w2 wk) ∧ Hid (BoolRow wk w2.heap.size N (fun j => usedB ((toks ++ notes).take (n + r)) j || (decide (ta ≤ j) && decide (j < k))))) (fun kv _ => ta + text.size - (intOf kv).toNat)
          case atStart =>
            refine ⟨ta, rfl, Nat.le_refl _, by omega, HX4, HB4, ?_⟩
            exact HU4.out.congr (fun j _ => by rw [inside_none ta j, Bool.or_false])
          case round =>
            obtain ⟨k, rfl, hk1, hk2, HXk, HBk, HUk⟩ := hrel
            have z1 : wr.cell? ⟨X, 1, none⟩ = some (.string text) := by simp [World.cell?, HXk.out]
            have z2 : wr.cell? ⟨X, 2, none⟩ = some (.int .i64 ta) := by simp [World.cell?, HXk.out]
            have hNs := HN.out
            clear y1 y2
            by_cases hkl : k < ta + text.size
            · have gk : decide ((k : Int) < ta + text.size) = true := decide_eq_true (by omega)
              have hkN : k < N := by omega
              have gkN : decide (k < N) = true := decide_eq_true hkN
              have hfr : usedB ((toks ++ notes).take (n + r)) k = false := HFR.out k ⟨HPUT.out, hk1, hkl⟩
              obtain ⟨u1, u2⟩ := HUk.out.cell hkN
              rw [hfr, show (decide (ta ≤ k) && decide (k < k)) = false by simp, Bool.false_or] at u1
              clear hfr hNs
              have HUs := Lib.hid (HUk.out.set k true)
              have HBs := Lib.hid (HBk.out.setCell (p := ⟨w2.heap.size, k, none⟩) (Nat.le_refl _) (.bool true))
              have HXs := Lib.hid ((Below.heap_setCell wr ⟨w2.heap.size, k, none⟩ (.bool true) X (by show X ≠ w2.heap.size; omega)).trans HXk.out)
              go_wp2
              go_roundw
              case rel =>
                refine ⟨k + 1, by go_num, by omega, by omega, HXs.out, HBs.out, ?_⟩
                exact HUs.out.congr (fun j _ => inside_step _ ta j k hk1)
              case measure => simp [intOf]; omega
            · have gk : decide ((k : Int) < ta + text.size) = false := decide_eq_false (by omega)
              obtain rfl : k = ta + text.size := by omega
              clear hNs
              have HUn : Hid (BoolRow wr w2.heap.size N (usedB ((toks ++ notes).take (n + r + 1)))) := HUk.out.congr (fun j _ => by rw [HTP.out, usedB_push, spanB_free HPUT.out])
              go_wp2
              go_roundw
              case rel => exact ⟨n + r + 1, en, by go_num, rfl, by omega, hen, HE.out.weak (by omega), HBk.out, HUn.out⟩
              case measure => simp [intOf]; omega
      · have gA : decide (i < n) = false := decide_eq_false hA
        have gS : decide (i < n + m) = false := decide_eq_false hC
        obtain rfl : i = n + m := by omega
        have HUa : Hid (BoolRow wr w2.heap.size N (usedB (toks ++ notes))) := by
          have e : (toks ++ notes).take (n + m) = toks ++ notes := List.take_of_length_le (by rw [List.length_append]; omega)
          have h := HU.out
          rw [e] at h
          exact h
        clear HU
        have hNs := HN.out
        go_wp2
        go_loopw [12] (fun kv wk => ∃ k : Nat, kv = .int .i64 k ∧ k ≤ s.size ∧ Hid (Below w2.heap.size w2 wk) ∧ Hid (BoolRow wk w2.heap.size N (usedB (toks ++ notes)))) (fun kv _ => s.size - (intOf kv).toNat)
        case atStart => exact ⟨0, rfl, Nat.zero_le _, HBr, HUa⟩
        case round =>
          obtain ⟨k, rfl, hk, HBk, HUk⟩ := hrel
          by_cases hkl : k < s.size
          · have gk : decide (k < s.size) = true := decide_eq_true hkl
            obtain ⟨b, o, rfl, hlb, hbytes⟩ : ∃ b o, a = some ⟨b, o, none⟩ ∧ b < w.heap.size ∧ Lib.Bytes w b o s := by
              rcases HX.out with h0 | h0
              · omega
              · exact h0
            have hb3 := bytes_below hbytes hlb (HB2.out.trans (HBk.out.mono HB2.out.size))
            clear hbytes
            have ck := Text.byte hb3 k hkl
            have c0 := Text.byte hb3 0 (by omega)
            rw [Nat.add_zero] at c0
            obtain ⟨u1, u2⟩ := HUk.out.cell (k := k) (by omega)
            have gkN : decide (k < N) = true := decide_eq_true (by omega)
            have hall := used_all HSS.out k hkl
            have hblt := bt_lt s k
            have h0lt := bt_lt s 0
            unfold blankAt at hall
            dsimp only at hall
            clear hb3 hNs
            have hrel2 : ∃ k_1 : Nat, Value.int .i64 ((k : Int) + 1) = .int .i64 k_1 ∧ k_1 ≤ s.size ∧ Hid (Below w2.heap.size w2 wr) ∧ Hid (BoolRow wr w2.heap.size N (usedB (toks ++ notes))) := ⟨k + 1, by go_num, by omega, HBk, HUk⟩
            by_cases q32 : bt s k = 32
            · rw [q32] at ck
              clear hall q32
              cases hu : usedB (toks ++ notes) k
              all_goals
                rw [hu] at u1
                go_wp2
                go_roundw
                case rel => exact hrel2
                case measure => simp [intOf]; omega
            by_cases q9 : bt s k = 9
            · rw [q9] at ck
              clear hall q32 q9
              cases hu : usedB (toks ++ notes) k
              all_goals
                rw [hu] at u1
                go_wp2
                go_roundw
                case rel => exact hrel2
                case measure => simp [intOf]; omega
            by_cases q13 : bt s k = 13
            · rw [q13] at ck
              clear hall q32 q9 q13
              cases hu : usedB (toks ++ notes) k
              all_goals
                rw [hu] at u1
                go_wp2
                go_roundw
                case rel => exact hrel2
                case measure => simp [intOf]; omega
            by_cases q10 : bt s k = 10
            · rw [q10] at ck
              clear hall q32 q9 q13 q10
              cases hu : usedB (toks ++ notes) k
              all_goals
                rw [hu] at u1
                go_wp2
                go_roundw
                case rel => exact hrel2
                case measure => simp [intOf]; omega
            have i32 : (((bt s k : Nat) : Int) == 32) = false := beq_eq_false_iff_ne.2 (by omega)
            have i9 : (((bt s k : Nat) : Int) == 9) = false := beq_eq_false_iff_ne.2 (by omega)
            have i13 : (((bt s k : Nat) : Int) == 13) = false := beq_eq_false_iff_ne.2 (by omega)
            have i10 : (((bt s k : Nat) : Int) == 10) = false := beq_eq_false_iff_ne.2 (by omega)
            have hall2 : usedB (toks ++ notes) k = true ∨ (k < 3 ∧ 3 ≤ s.size ∧ bt s 0 = 239) := by
              rcases hall with h | h
              · exact .inl h
              · rw [beq_eq_false_iff_ne.2 q32, beq_eq_false_iff_ne.2 q9, beq_eq_false_iff_ne.2 q13, beq_eq_false_iff_ne.2 q10] at h
                simp only [Bool.false_or, Bool.and_eq_true, decide_eq_true_eq, beq_iff_eq] at h
                exact .inr ⟨h.1.1, h.1.2, h.2⟩
            clear q32 q9 q13 q10 hall
            generalize bt s k = y at *
            cases hu : usedB (toks ++ notes) k
            · rw [hu] at u1 hall2
              obtain ⟨r1, r2, r3⟩ := hall2.resolve_left (by decide)
              rw [r3] at c0
              have r4 : decide ((k : Int) < 3) = true := decide_eq_true (by omega)
              have r5 : decide ((3 : Int) ≤ s.size) = true := decide_eq_true (by omega)
              clear hall2 r3
              go_wp2
              go_roundw
              case rel => exact hrel2
              case measure => simp [intOf]; omega
            · rw [hu] at u1
              clear hall2
              by_cases r1 : k < 3
              case neg =>
                have r4 : decide ((k : Int) < 3) = false := decide_eq_false (by omega)
                go_wp2
                go_roundw
                case rel => exact hrel2
                case measure => simp [intOf]; omega
              have r4 : decide ((k : Int) < 3) = true := decide_eq_true (by omega)
              by_cases r2 : 3 ≤ s.size
              case neg =>
                have r5 : decide ((3 : Int) ≤ s.size) = false := decide_eq_false (by omega)
                go_wp2
                go_roundw
                case rel => exact hrel2
                case measure => simp [intOf]; omega
              have r5 : decide ((3 : Int) ≤ s.size) = true := decide_eq_true (by omega)
              generalize bt s 0 = y0 at *
              by_cases r3 : y0 = 239
              · subst r3
                go_wp2
                go_roundw
                case rel => exact hrel2
                case measure => simp [intOf]; omega
              · have r6 : (((y0 : Nat) : Int) == 239) = false := beq_eq_false_iff_ne.2 (by omega)
                go_wp2
                go_roundw
                case rel => exact hrel2
                case measure => simp [intOf]; omega
          · have gk : decide (k < s.size) = false := decide_eq_false hkl
            have HBe := Lib.hid (HB2.out.trans (HBk.out.mono HB2.out.size))
            clear hNs
            go_wp2_with fail
            refine (awake_any wr (HT.out.below HBe.out) (HM.out.below HBe.out)).mono ?_
            rintro e w3 ⟨rfl, hb3⟩
            have HB5 := Lib.hid (HBe.out.trans (hb3.mono HBe.out.size))
            clear hb3
            go_wp2
            go_ret
            exact ⟨rfl, HB5.out⟩
end Go.Proofs.YtjgiebdbeejdaaaDoor
