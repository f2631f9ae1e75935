/- package token: what begins at a sign: the walk. -/
import Derived.Test.YtijinpnbhnfiiaaDoorTok9
namespace Go.Proofs.YtijinpnbhnfiiaaDoor
open Go.RowKit Go.Joins
set_option linter.unusedVariables false

theorem ends_cases {b base : Nat} {t : ByteArray} {p : Nat} {w w' : World} {r : Option St} {e : Ending} (h : Ends b base t p w r e w') :
    (∃ x, r = some x ∧ e = .returned (.tuple #[]) ∧ Keeps base b w w' ∧ InM w' b base t x) ∨ (r = none ∧ e = .panicked [{ v := .iface 74 (.agg #[.int .i64 p]), recovered := false }] ∧ Keeps base b w w') := by
  obtain ⟨hk, h⟩ := h
  cases r with
  | some x => exact .inl ⟨x, rfl, h.1, hk, h.2⟩
  | none => exact .inr ⟨rfl, h, hk⟩
theorem endsP_some {b base : Nat} {t : ByteArray} {p : Nat} {w w' : World} {r : Option St} {x : St} (hr : r = some x) (hk : Keeps base b w w') (hi : InM w' b base t x) : Ends b base t p w r (.returned (.tuple #[])) w' := by
  subst hr; exact ⟨hk, rfl, hi⟩
theorem endsP_none {b base : Nat} {t : ByteArray} {p : Nat} {w w' : World} {r : Option St} (hr : r = none) (hk : Keeps base b w w') : Ends b base t p w r (.panicked [{ v := .iface 74 (.agg #[.int .i64 p]), recovered := false }]) w' := by
  subst hr; exact ⟨hk, rfl⟩
theorem hasPre_size {s t : ByteArray} (h : hasPre s t = true) : t.size ≤ s.size := by
  unfold hasPre at h
  simp only [Bool.and_eq_true, decide_eq_true_eq] at h
  exact h.1

theorem fits70 : ∀ args W, (callFunc 70 args).run Tryd.prog W = .ok (.enter 70 args) W := fun _ _ => by kernel_rfl

theorem begin_nl (w : World) (b base : Nat) (t : ByteArray) (x : St) (p : Nat) (c : Int) (h : InM w b base t x) (hm : MaxLen w) (hp : p < t.size) (ht : t.size < 100000) (hl : x.toks.length < 1000000) (hl2 : x.notes.length < 1000000) (c10 : (c == 10) = true) :
    Calls Tryd.prog 53 #[.pointer (some ⟨b, 0, none⟩), .int .i64 p, .int .i32 c] w fun e w' => Ends b base t p w (beginP t x p c) e w' := by
  have HE : Hid (beginP t x p c = some { x with toks := endL x.toks p }) := by show _ = _; unfold beginP; simp only [c10, if_true]
  have hrs : (t.extract p t.size).size = t.size - p := by rw [ByteArray.size_extract]; omega
  have hpt : p ≤ t.size := by omega
  have HM := Lib.hid h
  obtain ⟨vt, vn, h⟩ := h
  have cc0 := h.cell.1
  clear h
  have HMX := Lib.hid hm
  clear hm
  clear hrs
  go_enter Tryd.func53, Tryd.ntmps53
  go_wp2_with fail
  obtain ⟨vt, vn, hS⟩ := HM.out
  refine (endLine_any w b base t x.at_ vt vn x.toks x.notes p hS hl).mono ?_
  rintro e w5 ⟨rfl, hk, vt', hi⟩
  have HI : Hid (InM w5 b base t { x with toks := endL x.toks p }) := ⟨vt', vn, hi⟩
  clear hi hS
  go_wp2
  refine bodyPost_end (results_none rfl _ _ _) rfl ?_
  exact endsP_some HE.out hk HI.out

theorem begin_blank (w : World) (b base : Nat) (t : ByteArray) (x : St) (p : Nat) (c : Int) (h : InM w b base t x) (hm : MaxLen w) (hp : p < t.size) (ht : t.size < 100000) (hl : x.toks.length < 1000000) (hl2 : x.notes.length < 1000000) (c10 : (c == 10) = false) (bl : isBlank c = true) :
    Calls Tryd.prog 53 #[.pointer (some ⟨b, 0, none⟩), .int .i64 p, .int .i32 c] w fun e w' => Ends b base t p w (beginP t x p c) e w' := by
  have HE : Hid (beginP t x p c = some x) := by show _ = _; unfold beginP; simp only [c10, bl, if_true, if_false, Bool.false_eq_true]
  have hrs : (t.extract p t.size).size = t.size - p := by rw [ByteArray.size_extract]; omega
  have hpt : p ≤ t.size := by omega
  have HM := Lib.hid h
  obtain ⟨vt, vn, h⟩ := h
  have cc0 := h.cell.1
  clear h
  have H_bl := Lib.hid bl
  clear bl
  have HMX := Lib.hid hm
  clear hm
  clear hrs
  go_enter Tryd.func53, Tryd.ntmps53
  go_wp2_with fail
  refine (blank_any c w).mono ?_
  rintro e w' ⟨rfl, rfl⟩
  rw [H_bl.out]
  go_wp2
  refine bodyPost_end (results_none rfl _ _ _) rfl ?_
  exact endsP_some HE.out (Keeps.refl _ _ _) HM.out

theorem begin_slash (w : World) (b base : Nat) (t : ByteArray) (x : St) (p : Nat) (c : Int) (h : InM w b base t x) (hm : MaxLen w) (hp : p < t.size) (ht : t.size < 100000) (hl : x.toks.length < 1000000) (hl2 : x.notes.length < 1000000) (c10 : (c == 10) = false) (bl : isBlank c = false) (h1 : hasPre (t.extract p t.size) sSlash = true) :
    Calls Tryd.prog 53 #[.pointer (some ⟨b, 0, none⟩), .int .i64 p, .int .i32 c] w fun e w' => Ends b base t p w (beginP t x p c) e w' := by
  have HE : Hid (beginP t x p c = noteP t x p (rowN (t.extract p t.size) noEnd)) := by show _ = _; unfold beginP; simp only [c10, bl, h1, if_true, if_false, Bool.false_eq_true]
  have hrs : (t.extract p t.size).size = t.size - p := by rw [ByteArray.size_extract]; omega
  have hle := rowN_le (t.extract p t.size) noEnd
  have hpt : p ≤ t.size := by omega
  have HM := Lib.hid h
  obtain ⟨vt, vn, h⟩ := h
  have cc0 := h.cell.1
  clear h
  have H_bl := Lib.hid bl
  clear bl
  have H_h1 := Lib.hid h1
  clear h1
  have HMX := Lib.hid hm
  clear hm
  generalize hr : t.extract p t.size = r at *
  generalize hn : rowN r noEnd = n at *
  have HN := Lib.hid hn
  clear hn
  have hpn : p + n ≤ t.size := by omega
  clear hrs
  clear hle
  go_enter Tryd.func53, Tryd.ntmps53
  go_wp2_with fail
  refine (blank_any c w).mono ?_
  rintro e w' ⟨rfl, rfl⟩
  rw [H_bl.out]
  go_wp2_with fail
  refine (hasPrefix_any r sSlash w).mono ?_
  rintro e w' ⟨rfl, rfl⟩
  rw [H_h1.out]
  go_wp2_with fail
  refine (row_any r noEnd 64 w fits64 noEnd_any).mono ?_
  rintro e w1 ⟨rfl, hb⟩
  rw [HN.out]
  go_wp2_with fail
  refine (note_ends w1 b base t x p n (HM.out.below hb) hpn ht hl hl2).mono ?_
  intro e w5 hE
  rcases ends_cases hE with ⟨x', ho, rfl, hk, hi⟩ | ⟨ho, rfl, hk⟩
  · have HO := Lib.hid ho
    have HI := Lib.hid hi
    clear ho hi hE
    go_wp2
    refine bodyPost_end (results_none rfl _ _ _) rfl ?_
    exact endsP_some (HE.out.trans HO.out) ((Keeps.of_below hb).trans hk) HI.out
  · have HO := Lib.hid ho
    clear ho hE
    go_wp2
    exact ⟨rfl, endsP_none (HE.out.trans HO.out) ((Keeps.of_below hb).trans hk)⟩

theorem begin_open (w : World) (b base : Nat) (t : ByteArray) (x : St) (p : Nat) (c : Int) (h : InM w b base t x) (hm : MaxLen w) (hp : p < t.size) (ht : t.size < 100000) (hl : x.toks.length < 1000000) (hl2 : x.notes.length < 1000000) (c10 : (c == 10) = false) (bl : isBlank c = false) (h1 : hasPre (t.extract p t.size) sSlash = false) (h2 : hasPre (t.extract p t.size) sOpen = true) :
    Calls Tryd.prog 53 #[.pointer (some ⟨b, 0, none⟩), .int .i64 p, .int .i32 c] w fun e w' => Ends b base t p w (beginP t x p c) e w' := by
  have HE : Hid (beginP t x p c = noteP t x p (closedN (t.extract p t.size) 2 sClose)) := by show _ = _; unfold beginP; simp only [c10, bl, h1, h2, if_true, if_false, Bool.false_eq_true]
  have hrs : (t.extract p t.size).size = t.size - p := by rw [ByteArray.size_extract]; omega
  have hs2 : 2 ≤ (t.extract p t.size).size := hasPre_size h2
  have hle := closedN_le (t.extract p t.size) 2 sClose hs2
  have hpt : p ≤ t.size := by omega
  have HM := Lib.hid h
  obtain ⟨vt, vn, h⟩ := h
  have cc0 := h.cell.1
  clear h
  have H_bl := Lib.hid bl
  clear bl
  have H_h1 := Lib.hid h1
  clear h1
  have H_h2 := Lib.hid h2
  clear h2
  have HMX := Lib.hid hm
  clear hm
  generalize hr : t.extract p t.size = r at *
  have HCL := Lib.hid (closed_any r 2 sClose hs2 (by omega) w HMX.out)
  generalize closedN r 2 sClose = n at *
  have hpn : p + n ≤ t.size := by omega
  clear hrs
  clear hs2
  clear hle
  go_enter Tryd.func53, Tryd.ntmps53
  go_wp2_with fail
  refine (blank_any c w).mono ?_
  rintro e w' ⟨rfl, rfl⟩
  rw [H_bl.out]
  go_wp2_with fail
  refine (hasPrefix_any r sSlash w).mono ?_
  rintro e w' ⟨rfl, rfl⟩
  rw [H_h1.out]
  go_wp2_with fail
  refine (hasPrefix_any r sOpen w).mono ?_
  rintro e w' ⟨rfl, rfl⟩
  rw [H_h2.out]
  go_wp2_with fail
  refine HCL.out.mono ?_
  rintro e w' ⟨rfl, rfl⟩
  go_wp2_with fail
  refine (note_ends w b base t x p n HM.out hpn ht hl hl2).mono ?_
  intro e w5 hE
  rcases ends_cases hE with ⟨x', ho, rfl, hk, hi⟩ | ⟨ho, rfl, hk⟩
  · have HO := Lib.hid ho
    have HI := Lib.hid hi
    clear ho hi hE
    go_wp2
    refine bodyPost_end (results_none rfl _ _ _) rfl ?_
    exact endsP_some (HE.out.trans HO.out) (hk) HI.out
  · have HO := Lib.hid ho
    clear ho hE
    go_wp2
    exact ⟨rfl, endsP_none (HE.out.trans HO.out) (hk)⟩

theorem begin_let (w : World) (b base : Nat) (t : ByteArray) (x : St) (p : Nat) (c : Int) (h : InM w b base t x) (hm : MaxLen w) (hp : p < t.size) (ht : t.size < 100000) (hl : x.toks.length < 1000000) (hl2 : x.notes.length < 1000000) (c10 : (c == 10) = false) (bl : isBlank c = false) (h1 : hasPre (t.extract p t.size) sSlash = false) (h2 : hasPre (t.extract p t.size) sOpen = false) (le : isLet c = true) :
    Calls Tryd.prog 53 #[.pointer (some ⟨b, 0, none⟩), .int .i64 p, .int .i32 c] w fun e w' => Ends b base t p w (beginP t x p c) e w' := by
  have HE : Hid (beginP t x p c = takeP t x (1 + wordN ((t.extract p t.size).extract 0 (nameN (t.extract p t.size)))) p (nameN (t.extract p t.size))) := by show _ = _; unfold beginP; simp only [c10, bl, h1, h2, le, if_true, if_false, Bool.false_eq_true]
  have hrs : (t.extract p t.size).size = t.size - p := by rw [ByteArray.size_extract]; omega
  have hle := nameN_le (t.extract p t.size)
  have hpt : p ≤ t.size := by omega
  have HM := Lib.hid h
  obtain ⟨vt, vn, h⟩ := h
  have cc0 := h.cell.1
  clear h
  have H_bl := Lib.hid bl
  clear bl
  have H_h1 := Lib.hid h1
  clear h1
  have H_h2 := Lib.hid h2
  clear h2
  have H_le := Lib.hid le
  clear le
  have HMX := Lib.hid hm
  clear hm
  generalize hr : t.extract p t.size = r at *
  have HNS := Lib.hid (nameSize_any r w)
  generalize nameN r = n at *
  have HKO := Lib.hid (fun w1 => kindOf_any (r.extract 0 n) w1)
  have hk0 : 1 + wordN (r.extract 0 n) ≠ 0 := by omega
  generalize 1 + wordN (r.extract 0 n) = k at *
  have hpn : p + n ≤ t.size := by omega
  clear hrs
  have hnr : n ≤ r.size := hle
  clear hle
  go_enter Tryd.func53, Tryd.ntmps53
  go_wp2_with fail
  refine (blank_any c w).mono ?_
  rintro e w' ⟨rfl, rfl⟩
  rw [H_bl.out]
  go_wp2_with fail
  refine (hasPrefix_any r sSlash w).mono ?_
  rintro e w' ⟨rfl, rfl⟩
  rw [H_h1.out]
  go_wp2_with fail
  refine (hasPrefix_any r sOpen w).mono ?_
  rintro e w' ⟨rfl, rfl⟩
  rw [H_h2.out]
  go_wp2_with fail
  refine (letter_any c w).mono ?_
  rintro e w' ⟨rfl, rfl⟩
  rw [H_le.out]
  go_wp2_with fail
  refine HNS.out.mono ?_
  rintro e w1 ⟨rfl, hb⟩
  go_wp2_with fail
  refine (HKO.out w1).mono ?_
  rintro e w' ⟨rfl, rfl⟩
  go_wp2_with fail
  refine (take_ends w1 b base t x k p n (HM.out.below hb) hk0 hpn ht hl).mono ?_
  intro e w5 hE
  rcases ends_cases hE with ⟨x', ho, rfl, hk, hi⟩ | ⟨ho, rfl, hk⟩
  · have HO := Lib.hid ho
    have HI := Lib.hid hi
    clear ho hi hE
    go_wp2
    refine bodyPost_end (results_none rfl _ _ _) rfl ?_
    exact endsP_some (HE.out.trans HO.out) ((Keeps.of_below hb).trans hk) HI.out
  · have HO := Lib.hid ho
    clear ho hE
    go_wp2
    exact ⟨rfl, endsP_none (HE.out.trans HO.out) ((Keeps.of_below hb).trans hk)⟩

theorem begin_fig (w : World) (b base : Nat) (t : ByteArray) (x : St) (p : Nat) (c : Int) (h : InM w b base t x) (hm : MaxLen w) (hp : p < t.size) (ht : t.size < 100000) (hl : x.toks.length < 1000000) (hl2 : x.notes.length < 1000000) (c10 : (c == 10) = false) (bl : isBlank c = false) (h1 : hasPre (t.extract p t.size) sSlash = false) (h2 : hasPre (t.extract p t.size) sOpen = false) (le : isLet c = false) (fi : isFig c = true) :
    Calls Tryd.prog 53 #[.pointer (some ⟨b, 0, none⟩), .int .i64 p, .int .i32 c] w fun e w' => Ends b base t p w (beginP t x p c) e w' := by
  have HE : Hid (beginP t x p c = takeP t x 4 p (rowN (t.extract p t.size) isIn)) := by show _ = _; unfold beginP; simp only [c10, bl, h1, h2, le, fi, if_true, if_false, Bool.false_eq_true]
  have hrs : (t.extract p t.size).size = t.size - p := by rw [ByteArray.size_extract]; omega
  have hle := rowN_le (t.extract p t.size) isIn
  have hpt : p ≤ t.size := by omega
  have HM := Lib.hid h
  obtain ⟨vt, vn, h⟩ := h
  have cc0 := h.cell.1
  clear h
  have H_bl := Lib.hid bl
  clear bl
  have H_h1 := Lib.hid h1
  clear h1
  have H_h2 := Lib.hid h2
  clear h2
  have H_le := Lib.hid le
  clear le
  have H_fi := Lib.hid fi
  clear fi
  have HMX := Lib.hid hm
  clear hm
  generalize hr : t.extract p t.size = r at *
  generalize hn : rowN r isIn = n at *
  have HN := Lib.hid hn
  clear hn
  have hpn : p + n ≤ t.size := by omega
  clear hrs
  clear hle
  go_enter Tryd.func53, Tryd.ntmps53
  go_wp2_with fail
  refine (blank_any c w).mono ?_
  rintro e w' ⟨rfl, rfl⟩
  rw [H_bl.out]
  go_wp2_with fail
  refine (hasPrefix_any r sSlash w).mono ?_
  rintro e w' ⟨rfl, rfl⟩
  rw [H_h1.out]
  go_wp2_with fail
  refine (hasPrefix_any r sOpen w).mono ?_
  rintro e w' ⟨rfl, rfl⟩
  rw [H_h2.out]
  go_wp2_with fail
  refine (letter_any c w).mono ?_
  rintro e w' ⟨rfl, rfl⟩
  rw [H_le.out]
  go_wp2_with fail
  refine (figure_any c w).mono ?_
  rintro e w' ⟨rfl, rfl⟩
  rw [H_fi.out]
  go_wp2_with fail
  refine (row_any r isIn 71 w fits71 inName_any).mono ?_
  rintro e w1 ⟨rfl, hb⟩
  rw [HN.out]
  go_wp2_with fail
  refine (take_ends w1 b base t x 4 p n (HM.out.below hb) (by decide) hpn ht hl).mono ?_
  intro e w5 hE
  rcases ends_cases hE with ⟨x', ho, rfl, hk, hi⟩ | ⟨ho, rfl, hk⟩
  · have HO := Lib.hid ho
    have HI := Lib.hid hi
    clear ho hi hE
    go_wp2
    refine bodyPost_end (results_none rfl _ _ _) rfl ?_
    exact endsP_some (HE.out.trans HO.out) ((Keeps.of_below hb).trans hk) HI.out
  · have HO := Lib.hid ho
    clear ho hE
    go_wp2
    exact ⟨rfl, endsP_none (HE.out.trans HO.out) ((Keeps.of_below hb).trans hk)⟩

theorem begin_quote (w : World) (b base : Nat) (t : ByteArray) (x : St) (p : Nat) (c : Int) (h : InM w b base t x) (hm : MaxLen w) (hp : p < t.size) (ht : t.size < 100000) (hl : x.toks.length < 1000000) (hl2 : x.notes.length < 1000000) (c10 : (c == 10) = false) (bl : isBlank c = false) (h1 : hasPre (t.extract p t.size) sSlash = false) (h2 : hasPre (t.extract p t.size) sOpen = false) (le : isLet c = false) (fi : isFig c = false) (c34 : (c == 34) = true) :
    Calls Tryd.prog 53 #[.pointer (some ⟨b, 0, none⟩), .int .i64 p, .int .i32 c] w fun e w' => Ends b base t p w (beginP t x p c) e w' := by
  have HE : Hid (beginP t x p c = takeP t x 5 p (textN (t.extract p t.size))) := by show _ = _; unfold beginP; simp only [c10, bl, h1, h2, le, fi, c34, if_true, if_false, Bool.false_eq_true]
  have hrs : (t.extract p t.size).size = t.size - p := by rw [ByteArray.size_extract]; omega
  have hle := textN_le (t.extract p t.size) (by omega)
  have hpt : p ≤ t.size := by omega
  have HM := Lib.hid h
  obtain ⟨vt, vn, h⟩ := h
  have cc0 := h.cell.1
  clear h
  have H_bl := Lib.hid bl
  clear bl
  have H_h1 := Lib.hid h1
  clear h1
  have H_h2 := Lib.hid h2
  clear h2
  have H_le := Lib.hid le
  clear le
  have H_fi := Lib.hid fi
  clear fi
  have HMX := Lib.hid hm
  clear hm
  generalize hr : t.extract p t.size = r at *
  have HTS := Lib.hid (textSize_any r (by omega) (by omega) w)
  generalize textN r = n at *
  have hpn : p + n ≤ t.size := by omega
  clear hrs
  clear hle
  go_enter Tryd.func53, Tryd.ntmps53
  go_wp2_with fail
  refine (blank_any c w).mono ?_
  rintro e w' ⟨rfl, rfl⟩
  rw [H_bl.out]
  go_wp2_with fail
  refine (hasPrefix_any r sSlash w).mono ?_
  rintro e w' ⟨rfl, rfl⟩
  rw [H_h1.out]
  go_wp2_with fail
  refine (hasPrefix_any r sOpen w).mono ?_
  rintro e w' ⟨rfl, rfl⟩
  rw [H_h2.out]
  go_wp2_with fail
  refine (letter_any c w).mono ?_
  rintro e w' ⟨rfl, rfl⟩
  rw [H_le.out]
  go_wp2_with fail
  refine (figure_any c w).mono ?_
  rintro e w' ⟨rfl, rfl⟩
  rw [H_fi.out]
  go_wp2_with fail
  refine HTS.out.mono ?_
  rintro e w1 ⟨rfl, hb⟩
  go_wp2_with fail
  refine (take_ends w1 b base t x 5 p n (HM.out.below hb) (by decide) hpn ht hl).mono ?_
  intro e w5 hE
  rcases ends_cases hE with ⟨x', ho, rfl, hk, hi⟩ | ⟨ho, rfl, hk⟩
  · have HO := Lib.hid ho
    have HI := Lib.hid hi
    clear ho hi hE
    go_wp2
    refine bodyPost_end (results_none rfl _ _ _) rfl ?_
    exact endsP_some (HE.out.trans HO.out) ((Keeps.of_below hb).trans hk) HI.out
  · have HO := Lib.hid ho
    clear ho hE
    go_wp2
    exact ⟨rfl, endsP_none (HE.out.trans HO.out) ((Keeps.of_below hb).trans hk)⟩

theorem begin_tick (w : World) (b base : Nat) (t : ByteArray) (x : St) (p : Nat) (c : Int) (h : InM w b base t x) (hm : MaxLen w) (hp : p < t.size) (ht : t.size < 100000) (hl : x.toks.length < 1000000) (hl2 : x.notes.length < 1000000) (c10 : (c == 10) = false) (bl : isBlank c = false) (h1 : hasPre (t.extract p t.size) sSlash = false) (h2 : hasPre (t.extract p t.size) sOpen = false) (le : isLet c = false) (fi : isFig c = false) (c34 : (c == 34) = false) (c96 : (c == 96) = true) :
    Calls Tryd.prog 53 #[.pointer (some ⟨b, 0, none⟩), .int .i64 p, .int .i32 c] w fun e w' => Ends b base t p w (beginP t x p c) e w' := by
  have HE : Hid (beginP t x p c = takeP t x 5 p (closedN (t.extract p t.size) 1 sTick)) := by show _ = _; unfold beginP; simp only [c10, bl, h1, h2, le, fi, c34, c96, if_true, if_false, Bool.false_eq_true]
  have hrs : (t.extract p t.size).size = t.size - p := by rw [ByteArray.size_extract]; omega
  have hle := closedN_le (t.extract p t.size) 1 sTick (by omega)
  have hpt : p ≤ t.size := by omega
  have HM := Lib.hid h
  obtain ⟨vt, vn, h⟩ := h
  have cc0 := h.cell.1
  clear h
  have H_bl := Lib.hid bl
  clear bl
  have H_h1 := Lib.hid h1
  clear h1
  have H_h2 := Lib.hid h2
  clear h2
  have H_le := Lib.hid le
  clear le
  have H_fi := Lib.hid fi
  clear fi
  have HMX := Lib.hid hm
  clear hm
  generalize hr : t.extract p t.size = r at *
  have HCL := Lib.hid (closed_any r 1 sTick (by omega) (by omega) w HMX.out)
  generalize closedN r 1 sTick = n at *
  have hpn : p + n ≤ t.size := by omega
  clear hrs
  clear hle
  go_enter Tryd.func53, Tryd.ntmps53
  go_wp2_with fail
  refine (blank_any c w).mono ?_
  rintro e w' ⟨rfl, rfl⟩
  rw [H_bl.out]
  go_wp2_with fail
  refine (hasPrefix_any r sSlash w).mono ?_
  rintro e w' ⟨rfl, rfl⟩
  rw [H_h1.out]
  go_wp2_with fail
  refine (hasPrefix_any r sOpen w).mono ?_
  rintro e w' ⟨rfl, rfl⟩
  rw [H_h2.out]
  go_wp2_with fail
  refine (letter_any c w).mono ?_
  rintro e w' ⟨rfl, rfl⟩
  rw [H_le.out]
  go_wp2_with fail
  refine (figure_any c w).mono ?_
  rintro e w' ⟨rfl, rfl⟩
  rw [H_fi.out]
  go_wp2_with fail
  refine HCL.out.mono ?_
  rintro e w' ⟨rfl, rfl⟩
  go_wp2_with fail
  refine (take_ends w b base t x 5 p n HM.out (by decide) hpn ht hl).mono ?_
  intro e w5 hE
  rcases ends_cases hE with ⟨x', ho, rfl, hk, hi⟩ | ⟨ho, rfl, hk⟩
  · have HO := Lib.hid ho
    have HI := Lib.hid hi
    clear ho hi hE
    go_wp2
    refine bodyPost_end (results_none rfl _ _ _) rfl ?_
    exact endsP_some (HE.out.trans HO.out) (hk) HI.out
  · have HO := Lib.hid ho
    clear ho hE
    go_wp2
    exact ⟨rfl, endsP_none (HE.out.trans HO.out) (hk)⟩

theorem begin_sign (w : World) (b base : Nat) (t : ByteArray) (x : St) (p : Nat) (c : Int) (h : InM w b base t x) (hm : MaxLen w) (hp : p < t.size) (ht : t.size < 100000) (hl : x.toks.length < 1000000) (hl2 : x.notes.length < 1000000) (c10 : (c == 10) = false) (bl : isBlank c = false) (h1 : hasPre (t.extract p t.size) sSlash = false) (h2 : hasPre (t.extract p t.size) sOpen = false) (le : isLet c = false) (fi : isFig c = false) (c34 : (c == 34) = false) (c96 : (c == 96) = false) :
    Calls Tryd.prog 53 #[.pointer (some ⟨b, 0, none⟩), .int .i64 p, .int .i32 c] w fun e w' => Ends b base t p w (beginP t x p c) e w' := by
  have HE : Hid (beginP t x p c = takeP t x 6 p (signN (t.extract p t.size))) := by show _ = _; unfold beginP; simp only [c10, bl, h1, h2, le, fi, c34, c96, if_false, Bool.false_eq_true]
  have hrs : (t.extract p t.size).size = t.size - p := by rw [ByteArray.size_extract]; omega
  have hle := signN_le (t.extract p t.size)
  have hpt : p ≤ t.size := by omega
  have HM := Lib.hid h
  obtain ⟨vt, vn, h⟩ := h
  have cc0 := h.cell.1
  clear h
  have H_bl := Lib.hid bl
  clear bl
  have H_h1 := Lib.hid h1
  clear h1
  have H_h2 := Lib.hid h2
  clear h2
  have H_le := Lib.hid le
  clear le
  have H_fi := Lib.hid fi
  clear fi
  have HMX := Lib.hid hm
  clear hm
  generalize hr : t.extract p t.size = r at *
  have HSI := Lib.hid (signSize_any r w)
  generalize signN r = n at *
  have hpn : p + n ≤ t.size := by omega
  clear hrs
  clear hle
  go_enter Tryd.func53, Tryd.ntmps53
  go_wp2_with fail
  refine (blank_any c w).mono ?_
  rintro e w' ⟨rfl, rfl⟩
  rw [H_bl.out]
  go_wp2_with fail
  refine (hasPrefix_any r sSlash w).mono ?_
  rintro e w' ⟨rfl, rfl⟩
  rw [H_h1.out]
  go_wp2_with fail
  refine (hasPrefix_any r sOpen w).mono ?_
  rintro e w' ⟨rfl, rfl⟩
  rw [H_h2.out]
  go_wp2_with fail
  refine (letter_any c w).mono ?_
  rintro e w' ⟨rfl, rfl⟩
  rw [H_le.out]
  go_wp2_with fail
  refine (figure_any c w).mono ?_
  rintro e w' ⟨rfl, rfl⟩
  rw [H_fi.out]
  go_wp2_with fail
  refine HSI.out.mono ?_
  rintro e w' ⟨rfl, rfl⟩
  go_wp2_with fail
  refine (take_ends w b base t x 6 p n HM.out (by decide) hpn ht hl).mono ?_
  intro e w5 hE
  rcases ends_cases hE with ⟨x', ho, rfl, hk, hi⟩ | ⟨ho, rfl, hk⟩
  · have HO := Lib.hid ho
    have HI := Lib.hid hi
    clear ho hi hE
    go_wp2
    refine bodyPost_end (results_none rfl _ _ _) rfl ?_
    exact endsP_some (HE.out.trans HO.out) (hk) HI.out
  · have HO := Lib.hid ho
    clear ho hE
    go_wp2
    exact ⟨rfl, endsP_none (HE.out.trans HO.out) (hk)⟩

theorem begin_any (w : World) (b base : Nat) (t : ByteArray) (x : St) (p : Nat) (c : Int) (h : InM w b base t x) (hm : MaxLen w) (hp : p < t.size) (ht : t.size < 100000) (hl : x.toks.length < 1000000) (hl2 : x.notes.length < 1000000) :
    Calls Tryd.prog 53 #[.pointer (some ⟨b, 0, none⟩), .int .i64 p, .int .i32 c] w fun e w' => Ends b base t p w (beginP t x p c) e w' := by
  cases c10 : (c == 10)
  case true => exact begin_nl w b base t x p c h hm hp ht hl hl2 c10
  cases bl : isBlank c
  case true => exact begin_blank w b base t x p c h hm hp ht hl hl2 c10 bl
  cases h1 : hasPre (t.extract p t.size) sSlash
  case true => exact begin_slash w b base t x p c h hm hp ht hl hl2 c10 bl h1
  cases h2 : hasPre (t.extract p t.size) sOpen
  case true => exact begin_open w b base t x p c h hm hp ht hl hl2 c10 bl h1 h2
  cases le : isLet c
  case true => exact begin_let w b base t x p c h hm hp ht hl hl2 c10 bl h1 h2 le
  cases fi : isFig c
  case true => exact begin_fig w b base t x p c h hm hp ht hl hl2 c10 bl h1 h2 le fi
  cases c34 : (c == 34)
  case true => exact begin_quote w b base t x p c h hm hp ht hl hl2 c10 bl h1 h2 le fi c34
  cases c96 : (c == 96)
  case true => exact begin_tick w b base t x p c h hm hp ht hl hl2 c10 bl h1 h2 le fi c34 c96
  exact begin_sign w b base t x p c h hm hp ht hl hl2 c10 bl h1 h2 le fi c34 c96
end Go.Proofs.YtijinpnbhnfiiaaDoor
