/- demoticref09: a figure of a place; figures written; a sum. -/
import Derived.Test.YtpdkebljacmgfaaDoorBig20
import Derived.Test.YtpdkebljacmgfaaDoorTenP
namespace Go.Proofs.YtpdkebljacmgfaaDoor
open Go.RowKit
set_option linter.unusedVariables false

set_option maxRecDepth 100000 in
theorem refAt_any (s : ByteArray) (n : Nat) (hs : s.data.toList = Lib.decDigits n) (hl : s.size ≤ 100000) (i : Nat) (w : World) :
    Calls Tryd.prog 70 #[.string s, .int .i64 i] w fun e w' => e = .returned (.int .i64 ((Ten.dgs n).getD i 0)) ∧ w = w' := by
  have hsz : s.size = Lib.nDigits n := by
    have := congrArg List.length hs
    rw [Lib.decDigits_length] at this
    simpa using this
  by_cases hi : i < s.size
  · have hb := Ten.text_get hs i hi
    obtain ⟨p, hp⟩ : ∃ p, p = s.size - 1 - i := ⟨_, rfl⟩
    rw [← hp] at hb
    have hps : p < s.size := by omega
    have hpi : (s.size : Int) - 1 - i = (p : Int) := by omega
    have hx := (Ten.dgs_ok n).get i
    rw [bt_eq s p hps] at hb
    generalize (Ten.dgs n).getD i 0 = x at *
    have hb2 : ((s[p].toNat : Nat) : Int) = 48 + (x : Int) := by omega
    clear hs hsz hb hp
    go_enter Tryd.func70, Tryd.ntmps70
    go_wp2
    go_ret
    exact ⟨ret_int (by omega), rfl⟩
  · have e : (Ten.dgs n).getD i 0 = 0 := Ten.get_high (by omega)
    rw [e]
    clear e hs hsz
    go_enter Tryd.func70, Tryd.ntmps70
    go_wp2
    go_ret
    exact ⟨rfl, rfl⟩

/-- A row of ints of the call's own. -/
def ivals (l : List Nat) : List Value := l.map fun (d : Nat) => Value.int .i64 d
def Ints (w : World) (B : Nat) (v : Value) (l : List Nat) : Prop := w.ownsRow B 3 1 v l.length (ivals l)
theorem int_info : (Tryd.prog.info? 3).map (fun i => (i.zero, i.size, i.bytes)) = some (some (.int .i64 0), 1, 8) := by kernel_rfl
theorem Ints.form {w : World} {B : Nat} {v : Value} {l : List Nat} (h : Ints w B v l) : ∃ a cap, v = .slice a l.length cap := by
  rcases h.2 with ⟨rfl, h0⟩ | ⟨g, cap, cur, rfl, _⟩
  · exact ⟨none, 0, by rw [h0]⟩
  · exact ⟨_, _, rfl⟩
theorem Ints.cell {w : World} {B : Nat} {a : Option Addr} {m cap : Nat} {l : List Nat} (h : Ints w B (.slice a m cap) l) (i : Nat) (hi : i < l.length) : ∃ g, a = some ⟨g, 0, none⟩ ∧ B ≤ g ∧ g < w.heap.size ∧ w.cell? ⟨g, i, none⟩ = some (.int .i64 (l.getD i 0)) ∧ w.frozen? ⟨g, i, none⟩ = false := by
  rcases h.2 with ⟨e, h0⟩ | ⟨g, cap', cur, e, hB, hh, hnc, _, hs, ht⟩
  · omega
  · injection e with e1 e2 e3
    subst e1
    refine ⟨g, rfl, hB, lt_of_block hh, ?_, by simp [World.frozen?, hh]⟩
    have e2 := congrArg (fun l : List Value => l[i]?) ht
    simp only [List.getElem?_take, ivals, List.getElem?_map] at e2
    rw [if_pos (by omega), Array.getElem?_toList, List.getElem?_eq_getElem hi] at e2
    rw [List.getD_eq_getElem?_getD, List.getElem?_eq_getElem hi]
    simp [World.cell?, hh, e2]
theorem Ints.below {w W : World} {B : Nat} {v : Value} {l : List Nat} (h : Ints w B v l) (hb : Below w.heap.size w W) : Ints W B v l := by
  refine ⟨h.1, ?_⟩
  rcases h.2 with e | ⟨g, cap, cur, e, hg, hh, r⟩
  · exact .inl e
  · exact .inr ⟨g, cap, cur, e, hg, (hb.block g (lt_of_block hh)).trans hh, r⟩

theorem Ints.cellAt {w : World} {B g m cap : Nat} {l : List Nat} (h : Ints w B (.slice (some ⟨g, 0, none⟩) m cap) l) (i : Nat) (hi : i < l.length) : w.cell? ⟨g, i, none⟩ = some (.int .i64 (l.getD i 0)) := by
  obtain ⟨g', e, _, _, c, _⟩ := h.cell i hi
  injection e with e
  injection e with e _
  subst e
  exact c
/-- Bytes of the call's own. -/
def Byts (w : World) (B : Nat) (v : Value) (l : List UInt8) : Prop := w.ownsRow B 5 1 v l.length (Lib.byteCells l)
theorem Byts.conv {w : World} {B : Nat} {v : Value} {l : List UInt8} (h : Byts w B v l) (hne : l ≠ []) : ∃ a cap, v = .slice a l.length cap ∧ (convert 75 9 (.slice a l.length cap)).run Tryd.prog w = .ok (.string ⟨l.toArray⟩) w := by
  rcases h.2 with ⟨_, h0⟩ | ⟨g, cap, cur, rfl, hB, hh, hnc, _, hs, ht⟩
  · exact absurd (List.eq_nil_of_length_eq_zero h0) hne
  · refine ⟨_, cap, rfl, ?_⟩
    refine run_convert_bytes_back (P := Tryd.prog) w 75 9 5 ⟨g, 0, none⟩ cap l Tryd.underlying75 Tryd.underlying5 Tryd.underlying9 (fun j hj => ?_)
    rw [Lib.add_plain, Nat.zero_add]
    have e2 := congrArg (fun l : List Value => l[j]?) ht
    simp only [List.getElem?_take, Lib.byteCells, List.getElem?_map] at e2
    rw [if_pos (by omega), Array.getElem?_toList, List.getElem?_eq_getElem hj] at e2
    simp [World.cell?, hh, e2]

theorem one_cell_at (w : World) (v : Value) (t : TypeId) : ∀ j u, [v][j]? = some u → (w.alloc (.cells #[v] t)).cell? ((⟨w.heap.size, 0, none⟩ : Addr).add j) = some u := by
  intro j u hj
  match j, hj with
  | 0, hj => simp at hj; subst hj; simp [Addr.add]
  | j + 1, hj => simp at hj
/-- The bytes of the first r figures, the highest ahead. -/
def outB (l : List Nat) (r : Nat) : List UInt8 := (l.take r).reverse.map fun d => UInt8.ofNat (48 + d)
theorem outB_len {l : List Nat} {r : Nat} (h : r ≤ l.length) : (outB l r).length = r := by unfold outB; simp; omega
theorem outB_step {l : List Nat} {r j : Nat} (h : r ≤ l.length) (hj : j < r) : (outB l r).take (r - j) = (outB l r).take (r - (j + 1)) ++ [UInt8.ofNat (48 + l.getD j 0)] := by
  have hl := outB_len h
  rw [show r - j = (r - (j + 1)) + 1 by omega, List.take_succ_eq_append_getElem (by omega)]
  congr 2
  unfold outB
  rw [List.getElem_map, List.getElem_reverse, List.getElem_take]
  have e : (l.take r).length - 1 - (r - (j + 1)) = j := by rw [List.length_take]; omega
  simp only [e]
  rw [List.getD_eq_getElem?_getD, List.getElem?_eq_getElem (by omega)]
  rfl
theorem Byts.app {w : World} {B : Nat} {v : Value} {l : List UInt8} {m : Nat} {c : Nat} (h : w.ownsRow B 5 1 v (m + 1) (Lib.byteCells l ++ [Value.int .u8 (c : Int)])) (hc : c < 256) (hm : l.length = m) : Byts w B v (l ++ [UInt8.ofNat c]) := by
  unfold Byts
  rw [List.length_append, hm, bytes_app, show Lib.byteCells [UInt8.ofNat c] = [Value.int .u8 (c : Int)] by
    show [Value.int .u8 ((UInt8.ofNat c).toNat : Int)] = _
    rw [u8_of hc]]
  exact h

set_option maxHeartbeats 4000000 in
set_option maxRecDepth 100000 in
theorem refPlain_any (B : Nat) (v : Value) (l : List Nat) (hok : Ten.Dgs l) (hl : l.length ≤ 10000) (h1l : 1 ≤ l.length) (w : World) (h : Ints w B v l) :
    Calls Tryd.prog 71 #[v] w fun e w' => e = .returned (.string ⟨(Lib.decDigits (Ten.val l)).toArray⟩) ∧ Below w.heap.size w w' := by
  obtain ⟨i0, hi, hz0, hz1, hz2⟩ := info_parts u8_info
  obtain ⟨a, cap, rfl⟩ := h.form
  have hfig := Ten.figs_kept hok h1l
  rw [← hfig]
  have HFI : Hid ((((l.take (Ten.keepN l l.length)).reverse.map fun d => UInt8.ofNat (48 + d))) = outB l (Ten.keepN l l.length)) := Lib.hid rfl
  rw [HFI.out]
  clear hfig HFI
  have hkle := Ten.keepN_le l l.length
  have hk1 : 1 ≤ Ten.keepN l l.length := by rcases Ten.keepN_top l l.length h1l with e | e <;> omega
  obtain ⟨r, hr⟩ : ∃ r, r = Ten.keepN l l.length := ⟨_, rfl⟩
  rw [← hr] at hkle hk1 ⊢
  obtain ⟨n, hn⟩ : ∃ n, n = l.length := ⟨_, rfl⟩
  have HH := Lib.hid h
  rw [← hn] at hl h1l hkle hr ⊢
  have HR := Lib.hid hr
  have HN := Lib.hid hn
  have HOK := Lib.hid hok
  clear hr hn h hok
  go_enter Tryd.func71, Tryd.ntmps71
  go_wp2
  go_loop [3] (fun kv => ∃ k : Nat, kv = .int .i64 k ∧ 1 ≤ k ∧ k ≤ n ∧ Hid (Ten.keepN l k = r)) (fun kv => (intOf kv).toNat)
  case atStart => exact ⟨n, rfl, h1l, Nat.le_refl _, Lib.hid HR.out.symm⟩
  case round =>
    obtain ⟨k, rfl, hk, hkn, HK⟩ := hrel
    by_cases hc : 2 ≤ k ∧ l.getD (k - 1) 0 = 0
    · obtain ⟨hk2, hzero⟩ := hc
      obtain ⟨j, rfl⟩ : ∃ j, k = j + 2 := ⟨k - 2, by omega⟩
      obtain ⟨g, rfl, _, _, c, _⟩ := HH.out.cell (j + 1) (by rw [← HN.out]; omega)
      rw [show j + 2 - 1 = j + 1 by omega] at hzero
      have HE : Hid (Ten.keepN l (j + 1) = r) := Lib.hid (by have := HK.out; rw [Ten.keepN, if_pos hzero] at this; exact this)
      rw [hzero] at c
      clear HK hzero
      go_wp2
      go_round
      case rel => exact ⟨j + 1, by go_num, by omega, by omega, HE⟩
      case measure => simp [intOf]; omega
    · have hkr : k = r := by
        have := HK.out
        match k, hk with
        | 1, _ => rw [Ten.keepN] at this; exact this
        | k + 2, _ =>
          rw [Ten.keepN, if_neg (fun h => hc ⟨by omega, by rw [show k + 2 - 1 = k + 1 by omega]; exact h⟩)] at this
          exact this
      subst hkr
      obtain ⟨g, rfl, _, _, _, _⟩ := HH.out.cell 0 (by rw [← HN.out]; omega)
      obtain ⟨j, hj⟩ : ∃ j, j = k - 1 := ⟨_, rfl⟩
      have hjk : (k : Int) - 1 = (j : Int) := by omega
      have hcc : (decide ((1 : Int) < (k : Int)) = false) ∨ (decide ((1 : Int) < (k : Int)) = true ∧ ∃ d : Nat, w.cell? ⟨g, j, none⟩ = some (.int .i64 d) ∧ ((d : Int) == 0) = false) := by
        by_cases h2 : 2 ≤ k
        · have c := HH.out.cellAt j (by rw [← HN.out]; omega)
          refine .inr ⟨decide_eq_true (by omega), _, c, beq_eq_false_iff_ne.2 (fun h => hc ⟨h2, ?_⟩)⟩
          rw [← hj]
          omega
        · exact .inl (decide_eq_false (by omega))
      have HST : Hid (Byts w w.heap.size (.slice none 0 0) ((outB l k).take (k - k))) := Lib.hid (by rw [Nat.sub_self]; exact World.ownsRow_nil _ _ _ _)
      have HJ := Lib.hid hj
      have hjn : j < n := by omega
      clear hc HK hj
      rcases hcc with g1 | ⟨g1, d, c, g2⟩
      all_goals
        go_wp2
        go_loopw [4, 5] (fun bv iv wr => ∃ (p : Int), iv = .int .i64 p ∧ -1 ≤ p ∧ p ≤ j ∧ Hid (Byts wr w.heap.size bv ((outB l k).take (k - (p + 1).toNat))) ∧ Hid (Below w.heap.size w wr)) (fun _ iv _ => (intOf iv + 1).toNat)
        case atStart => exact ⟨j, rfl, by omega, Int.le_refl _, Lib.hid (by have := HST.out; rwa [show ((j : Int) + 1).toNat = k by have := HJ.out; omega]), Lib.hid (Below.refl _ _)⟩
        case round =>
          clear HST
          obtain ⟨p, rfl, hp0, hp1, HBY, HB⟩ := hrel
          by_cases hp : p = -1
          · subst hp
            have hby := HBY.out
            rw [show ((-1 : Int) + 1).toNat = 0 from rfl, Nat.sub_zero, List.take_of_length_le (by rw [outB_len (by rw [← HN.out]; omega)]; exact Nat.le_refl _)] at hby
            obtain ⟨ab, cb, rfl, hcv⟩ := hby.conv (fun e => by have := outB_len (l := l) (r := k) (by rw [← HN.out]; omega); rw [e] at this; simp at this; omega)
            have hlen : (outB l k).length = k := outB_len (by rw [← HN.out]; omega)
            rw [hlen] at hcv ⊢
            have g5 : ((k : Int) == 0) = false := beq_eq_false_iff_ne.2 (by omega)
            clear HBY hby hlen hjk
            go_wp2
            go_ret
            exact ⟨rfl, HB.out⟩
          · obtain ⟨q, rfl⟩ : ∃ q : Nat, p = q := ⟨p.toNat, by omega⟩
            have cq := (HH.out.below HB.out).cellAt q (by rw [← HN.out]; omega)
            have hd := HOK.out.get q
            have hst := outB_step (l := l) (r := k) (j := q) (by rw [← HN.out]; omega) (by have := HJ.out; omega)
            generalize l.getD q 0 = x at *
            have hby := HBY.out
            rw [show ((q : Int) + 1).toNat = q + 1 by omega] at hby
            have hlen : ((outB l k).take (k - (q + 1))).length = k - (q + 1) := by rw [List.length_take, outB_len (by rw [← HN.out]; omega)]; omega
            obtain ⟨F, hF⟩ : ∃ F, F = (outB l k).take (k - (q + 1)) := ⟨_, rfl⟩
            rw [← hF] at hst hby hlen
            have HSTP := Lib.hid hst
            have hown : wr.ownsRow w.heap.size 5 1 _ F.length (Lib.byteCells F) := hby
            have hF1 : F.length ≤ 10000 := by omega
            have hszw := HB.out.size
            clear hst hF HBY hby hlen
            go_wp2_with (at_builtin; refine wpList_append_own _ rfl (.tmp 26) (.tmp 33) 75 rfl w.heap.size 5 i0 (.int .u8 0) 1 1 Tryd.underlying75 hi hz0 hz1 hz2 rfl (by decide) _ _ _ rfl (hown.alloc _) ⟨wr.heap.size, 0, none⟩ 1 1 [.int .u8 ((48 : Int) + x)] rfl rfl (one_cell_at wr _ _) (fun u hu => by simp at hu; subst hu; rfl) (by unfold maxLen; omega) (by omega) (by simp; omega) ?_; intro v' w2 hown2 hgr2 _; have HZZ := Lib.hid (show _ ∧ _ from ⟨hown2, hgr2⟩); clear hown2 hgr2)
            obtain ⟨hown2, hgr2⟩ := HZZ.out
            have hby2 : Byts w2 w.heap.size v' ((outB l k).take (k - q)) := by
              rw [HSTP.out]
              refine Byts.app (m := F.length) ?_ (by omega) rfl
              rw [show (((48 + x : Nat) : Int)) = (48 : Int) + x by omega]
              exact hown2
            have hb2 : Below w.heap.size w w2 := (HB.out.alloc (by omega) _).grown hgr2 (by simp; omega) (fun i hi => (hown.lt i hi).1)
            have HBY2 := Lib.hid hby2
            have HB2 := Lib.hid hb2
            clear HZZ hown2 hgr2 hby2 hb2 hown
            go_wp2
            go_roundw
            case rel => exact ⟨(q : Int) - 1, by go_num, by omega, by omega, by rw [show ((q : Int) - 1 + 1).toNat = q by omega]; exact HBY2, HB2⟩
            case measure => simp [intOf]
end Go.Proofs.YtpdkebljacmgfaaDoor
