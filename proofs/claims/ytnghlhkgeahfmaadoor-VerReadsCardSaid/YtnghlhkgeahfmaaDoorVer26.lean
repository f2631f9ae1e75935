/- The document's answer: what any bytes say as a go.mod. -/
import Derived.Test.YtnghlhkgeahfmaaDoorVer25
import Derived.OwnWalk
namespace Go.Proofs.YtnghlhkgeahfmaaDoor
open Go.RowKit
set_option linter.unusedVariables false

/-- What stands between fr and i, and the lines from i on, say what the whole says. -/
def InvR (s : ByteArray) (fr i : Nat) (y : Rr) : Prop :=
  (i ≤ s.size ∧ endR (foldR y (partsF 10 (ls (s.extract fr i)) ((ls s).drop i))) = readL (ls s)) ∨ (i = s.size + 1 ∧ endR (some y) = readL (ls s))
theorem ext_snoc (s : ByteArray) (fr i : Nat) (h : i < s.size) (hf : fr ≤ i) (c : UInt8) (hc : (ls s).drop i = c :: (ls s).drop (i + 1)) : ls (s.extract fr (i + 1)) = ls (s.extract fr i) ++ [c] := by
  unfold ls
  rw [Lib.extract_data, Lib.extract_data]
  have e : (s.data.toList.drop fr)[i - fr]? = some c := by
    rw [List.getElem?_drop, show fr + (i - fr) = i by omega]
    have := congrArg (·[0]?) hc
    simpa using this
  rw [show i + 1 - fr = (i - fr) + 1 by omega, List.take_add_one, e]
  rfl
theorem inv_char {s : ByteArray} {fr i : Nat} {y : Rr} (hi : i < s.size) (hf : fr ≤ i) (hc : bt s i ≠ 10) (h : InvR s fr i y) : InvR s fr (i + 1) y := by
  rcases h with ⟨_, h⟩ | ⟨h, _⟩
  · obtain ⟨c, e1, e2⟩ := ls_drop s i hi
    rw [e1, partsF, if_neg (fun e => hc (by rw [← e2, e]; rfl))] at h
    exact .inl ⟨by omega, by rw [ext_snoc s fr i hi hf c e1]; exact h⟩
  · omega
theorem inv_line {s : ByteArray} {fr i : Nat} {y : Rr} (hi : (i < s.size ∧ bt s i = 10) ∨ i = s.size) (h : InvR s fr i y) :
    (∀ z, stepR y (lineWords (ls (s.extract fr i))) = some z → InvR s (i + 1) (i + 1) z) ∧ (stepR y (lineWords (ls (s.extract fr i))) = none → readL (ls s) = none) := by
  rcases h with ⟨_, h⟩ | ⟨h, _⟩
  · have key : ∃ REST, partsF 10 (ls (s.extract fr i)) ((ls s).drop i) = ls (s.extract fr i) :: REST ∧ ((i < s.size ∧ REST = partsF 10 [] ((ls s).drop (i + 1))) ∨ (i = s.size ∧ REST = [])) := by
      rcases hi with ⟨h1, h2⟩ | h1
      · obtain ⟨c, e1, e2⟩ := ls_drop s i h1
        refine ⟨_, ?_, .inl ⟨h1, rfl⟩⟩
        rw [e1, partsF, if_pos (UInt8.toNat_inj.1 (by rw [e2, h2]; rfl))]
      · refine ⟨[], ?_, .inr ⟨h1, rfl⟩⟩
        rw [h1, List.drop_eq_nil_of_le (by rw [ls_len]; exact Nat.le_refl _)]
        rfl
    obtain ⟨REST, k1, k2⟩ := key
    rw [k1, show foldR y (ls (s.extract fr i) :: REST) = (match stepR y (lineWords (ls (s.extract fr i))) with | some z => foldR z REST | none => none) from rfl] at h
    constructor
    · intro z hz
      rw [hz] at h
      rcases k2 with ⟨k3, k4⟩ | ⟨k3, k4⟩
      · refine .inl ⟨by omega, ?_⟩
        rw [show ls (s.extract (i + 1) (i + 1)) = [] by unfold ls; rw [Lib.extract_data, Nat.sub_self]; rfl, ← k4]
        exact h
      · refine .inr ⟨by omega, ?_⟩
        rw [k4] at h
        exact h
    · intro hz
      rw [hz] at h
      exact h.symm
  · rcases hi with h1 | h1 <;> omega
theorem map_mk (l : List ByteArray) : (l.map ls).map (fun x => (⟨x.toArray⟩ : ByteArray)) = l := by
  rw [List.map_map]
  conv => rhs; rw [← List.map_id l]
  rfl
theorem words_none (L : ByteArray) (hs : L.size ≤ 100000) (h : lineWords (ls L) = []) (w : World) : Calls Tryd.prog 34 #[.string L] w fun e w' => e = .returned (.slice none 0 0) ∧ Below w.heap.size w w' := by
  refine (refWords_any L hs w).mono ?_
  rintro e w' ⟨v, l, rfl, _, hl, _, hn, hb⟩
  rw [h] at hl
  have : l = [] := List.map_eq_nil_iff.1 hl
  rw [hn this]
  exact ⟨rfl, hb⟩
theorem words_row (L : ByteArray) (hs : L.size ≤ 100000) (k : List UInt8) (r : List (List UInt8)) (h : lineWords (ls L) = k :: r) (w : World) : Calls Tryd.prog 34 #[.string L] w fun e w' => ∃ g cap, e = .returned (.slice (some ⟨g, 0, none⟩) (k :: r).length cap) ∧ (∀ i x, (k :: r)[i]? = some x → w'.cell? ⟨g, i, none⟩ = some (.string ⟨x.toArray⟩)) ∧ Below w.heap.size w w' := by
  refine (refWords_any L hs w).mono ?_
  rintro e w' ⟨v, l, rfl, hrow, hl, _, _, hb⟩
  rw [h] at hl
  have hlen : l.length = (k :: r).length := by rw [← hl, List.length_map]
  rcases hrow.2 with ⟨_, h0⟩ | ⟨g, cap, cur, rfl, _, _⟩
  · rw [hlen] at h0; simp at h0
  refine ⟨g, cap, by rw [hlen], fun i x hx => ?_, hb⟩
  have hil : i < l.length := by rw [hlen]; exact (List.getElem?_eq_some_iff.1 hx).1
  rw [hrow.cellAt i (by omega)]
  rw [← hl, List.getElem?_map] at hx
  rw [List.getElem?_map]
  cases hi : l[i]? with
  | none => rw [hi] at hx; cases hx
  | some t =>
    rw [hi] at hx
    injection hx with hx
    subst hx
    rfl
theorem words_two (L : ByteArray) (hs : L.size ≤ 100000) (kb ub : ByteArray) (h : lineWords (ls L) = [ls kb, ls ub]) (w : World) : Calls Tryd.prog 34 #[.string L] w fun e w' => ∃ g cap, e = .returned (.slice (some ⟨g, 0, none⟩) 2 cap) ∧ w'.cell? ⟨g, 0, none⟩ = some (.string kb) ∧ w'.cell? ⟨g, 1, none⟩ = some (.string ub) ∧ Below w.heap.size w w' := by
  refine (words_row L hs (ls kb) [ls ub] h w).mono ?_
  rintro e w' ⟨g, cap, rfl, hc, hb⟩
  exact ⟨g, cap, rfl, hc 0 _ rfl, hc 1 _ rfl, hb⟩
theorem words_small {L : ByteArray} (hs : L.size ≤ 100000) {k u : List UInt8} (h : lineWords (ls L) = [k, u]) : (⟨u.toArray⟩ : ByteArray).size ≤ 1000000 := by
  have h1 := words_len blankB (cutNote (ls L)) [] u (by show u ∈ lineWords (ls L); rw [h]; simp)
  have h2 : (cutNote (ls L)).length ≤ (ls L).length := by
    unfold cutNote Lib.cut
    split
    · simp; omega
    · exact Nat.le_refl _
  rw [size_mk]
  rw [ls_len] at h2
  simp at h1
  omega
/-- What the document's Read tells. -/
def refV : Option (List UInt8 × Nat) → Value
  | some (p, m) => .tuple #[.string ⟨p.toArray⟩, .int .i64 (m : Nat), .int .i64 0]
  | none => .tuple #[.string ⟨#[]⟩, .int .i64 0, .int .i64 7]

set_option maxHeartbeats 4000000 in
set_option maxRecDepth 1000000 in
theorem refRead_any (s : ByteArray) (hs : s.size ≤ 1000) (w : World) : Calls Tryd.prog 18 #[.string s] w fun e w' => e = .returned (refV (readL (ls s))) ∧ Below w.heap.size w w' := by
  have HSZ := Lib.hid hs
  have f0 : (s.size : Int) ≤ 1000 := by omega
  have g1 : decide ((65536 : Int) < (s.size : Int)) = false := by simp; omega
  clear hs
  go_enter Tryd.func18, Tryd.ntmps18
  go_wp2
  clear g1
  go_loopw [5, 6, 7, 8, 9, 10, 11, 12] (fun s5 s6 s7 s8 s9 _ _ _ wr => ∃ (pb : ByteArray) (mi : Nat) (td : Bool) (fr i : Nat), s5 = .string pb ∧ s6 = .int .i64 mi ∧ s7 = .bool td ∧ s8 = .int .i64 fr ∧ s9 = .int .i64 i ∧ Below w.heap.size w wr ∧ fr ≤ i ∧ i ≤ s.size + 1 ∧ InvR s fr i ⟨ls pb, mi, td⟩)
    (fun _ _ _ _ s9 _ _ _ _ => s.size + 2 - (match s9 with | .int _ i => i.toNat | _ => 0))
  case atStart =>
    refine ⟨⟨#[]⟩, 16, false, 0, 0, rfl, rfl, rfl, rfl, rfl, Below.refl _ _, Nat.le_refl _, Nat.zero_le _, .inl ⟨Nat.zero_le _, ?_⟩⟩
    rw [readL_ref, show ls (s.extract 0 0) = [] by unfold ls; rw [Lib.extract_data, Nat.sub_self]; rfl, List.drop_zero]
  case round =>
    obtain ⟨pb, mi, td, fr, i, rfl, rfl, rfl, rfl, rfl, hbw, hfi, his, hinv⟩ := hrel
    have HB := Lib.hid hbw
    have HIS := Lib.hid his
    have HFI := Lib.hid hfi
    clear hbw
    by_cases hle : i ≤ s.size
    · have f1 : (i : Int) ≤ (s.size : Int) := by omega
      have f2 : (0 : Int) ≤ (i : Int) := by omega
      have f3 : (fr : Int) ≤ (i : Int) := by omega
      have f4 : (0 : Int) ≤ (fr : Int) := by omega
      have hex : (s.extract fr i).size ≤ 100000 := by rw [ByteArray.size_extract]; have := HSZ.out; omega
      by_cases hlt : i < s.size
      · have f5 : (i : Int) < (s.size : Int) := by omega
        have hb := bt_eq s i hlt
        have h256 : s[i].toNat < 256 := s[i].toNat_lt
        by_cases hc : bt s i = 10
        · have k0 : ((((s[i].toNat : Nat) : Int)) != 10) = false := by rw [bne_eq_false_iff_eq]; omega
          have k0' : ((((s[i].toNat : Nat) : Int)) == 10) = true := by rw [beq_iff_eq]; omega
          have HN := Lib.hid (inv_line (.inl ⟨hlt, hc⟩) hinv)
          have HN : Hid ((∀ z, stepR ⟨ls pb, mi, td⟩ (lineWords (ls (s.extract fr i))) = some z → InvR s (i + 1) (i + 1) z) ∧ (stepR ⟨ls pb, mi, td⟩ (lineWords (ls (s.extract fr i))) = none → readL (ls s) = none)) := HN
          clear hinv hb hc his hfi
          match hws : lineWords (ls (s.extract fr i)) with
          | [] =>
            have cw := words_none _ hex hws
            rw [hws] at HN
            clear hws
            go_wp2_with ((with_reducible refine (cw _).mono ?_); rintro e w1 ⟨rfl, hb⟩; have HB1 := Lib.hid (HB.out.trans (hb.mono HB.out.size)); clear hb)
            go_roundw
            case rel => exact ⟨pb, mi, td, i + 1, i + 1, rfl, rfl, rfl, by congr 1, by congr 1, HB1.out, Nat.le_refl _, by have := HIS.out; omega, HN.out.1 _ (rfl)⟩
            case measure => have := HIS.out; simp; omega

          | [k] =>
            have cw := words_row _ hex k [] hws
            rw [hws] at HN
            clear hws
            go_wp2_with ((with_reducible refine (cw _).mono ?_); rintro e w1 ⟨g, cp, rfl, hcells, hb⟩; have HB1 := Lib.hid (HB.out.trans (hb.mono HB.out.size)); have hc0 := hcells 0 _ rfl; clear hb hcells)
            refine bodyPost_ret (results_tmp3 rfl _ _ _) rfl ?_
            rw [show readL (ls s) = none from HN.out.2 (rfl)]
            exact ⟨rfl, HB1.out⟩

          | k :: k2 :: k3 :: r =>
            have cw := words_row _ hex k (k2 :: k3 :: r) hws
            rw [hws] at HN
            have n2 : (((k :: k2 :: k3 :: r).length : Int) == 0) = false := by rw [beq_eq_false_iff_ne]; simp; omega
            have n3 : (((k :: k2 :: k3 :: r).length : Int) == 2) = false := by rw [beq_eq_false_iff_ne]; simp; omega
            have n4 : (((k :: k2 :: k3 :: r).length : Int) != 2) = true := by rw [bne_iff_ne]; simp; omega
            generalize (k :: k2 :: k3 :: r).length = n at *
            clear hws
            go_wp2_with ((with_reducible refine (cw _).mono ?_); rintro e w1 ⟨g, cp, rfl, hcells, hb⟩; have HB1 := Lib.hid (HB.out.trans (hb.mono HB.out.size)); have hc0 := hcells 0 _ rfl; clear hb hcells)
            refine bodyPost_ret (results_tmp3 rfl _ _ _) rfl ?_
            rw [show readL (ls s) = none from HN.out.2 (rfl)]
            exact ⟨rfl, HB1.out⟩

          | [k, u] =>
            obtain ⟨kb, rfl⟩ : ∃ kb, ls kb = k := ⟨⟨k.toArray⟩, rfl⟩
            obtain ⟨ub, rfl⟩ : ∃ ub, ls ub = u := ⟨⟨u.toArray⟩, rfl⟩
            have cw := words_two _ hex kb ub hws
            rw [hws] at HN
            have hus : ub.size ≤ 1000000 := words_small hex hws
            clear hws
            have cp := refPath_any ub hus
            have cm := refMinor_any ub hus
            clear hus
            by_cases k1 : ls kb = moduleW
            · have e1 : (kb.toList == [109, 111, 100, 117, 108, 101]) = true := by rw [Lib.toList_data]; show (ls kb == moduleW) = true; rw [k1]; rfl
              have hs0 : stepR ⟨ls pb, mi, td⟩ [ls kb, ls ub] = (if ls pb ≠ [] ∨ pathL (ls ub) = false then none else some ⟨ls ub, mi, td⟩) := by unfold stepR; simp only [if_pos k1]
              clear k1
              cases hp : pb.toList.isEmpty
              · have hne : ls pb ≠ [] := fun e => by rw [empty_ls, e] at hp; cases hp
                rw [if_pos (.inl hne)] at hs0
                have HS0 := Lib.hid hs0
                clear hs0 hne
                go_wp2_with ((with_reducible refine (cw _).mono ?_); rintro e w1 ⟨g, cp', rfl, hc0, hc1, hb⟩; have HB1 := Lib.hid (HB.out.trans (hb.mono HB.out.size)); clear hb)
                refine bodyPost_ret (results_tmp3 rfl _ _ _) rfl ?_
                rw [show readL (ls s) = none from HN.out.2 (HS0.out)]
                exact ⟨rfl, HB1.out⟩

              · have hne : ls pb = [] := by cases hl : ls pb with | nil => rfl | cons c t => rw [empty_ls, hl] at hp; cases hp
                cases hq : pathL (ls ub)
                · rw [if_pos (.inr hq)] at hs0
                  rw [hq] at cp
                  have HS0 := Lib.hid hs0
                  clear hs0 hne
                  go_wp2_with (first | ((with_reducible refine (cw _).mono ?_); rintro e w1 ⟨g, cp', rfl, hc0, hc1, hb⟩; have HB1 := Lib.hid (HB.out.trans (hb.mono HB.out.size)); clear hb) | ((with_reducible refine (cp _).mono ?_); rintro e w2 ⟨rfl, rfl⟩))
                  refine bodyPost_ret (results_tmp3 rfl _ _ _) rfl ?_
                  rw [show readL (ls s) = none from HN.out.2 (HS0.out)]
                  exact ⟨rfl, HB1.out⟩

                · rw [if_neg (by rw [hne, hq]; simp)] at hs0
                  rw [hq] at cp
                  have HS0 := Lib.hid hs0
                  clear hs0 hne
                  go_wp2_with (first | ((with_reducible refine (cw _).mono ?_); rintro e w1 ⟨g, cp', rfl, hc0, hc1, hb⟩; have HB1 := Lib.hid (HB.out.trans (hb.mono HB.out.size)); clear hb) | ((with_reducible refine (cp _).mono ?_); rintro e w2 ⟨rfl, rfl⟩))
                  go_roundw
                  case rel => exact ⟨ub, mi, td, i + 1, i + 1, rfl, rfl, rfl, by congr 1, by congr 1, HB1.out, Nat.le_refl _, by have := HIS.out; omega, HN.out.1 _ (HS0.out)⟩
                  case measure => have := HIS.out; simp; omega

            have e1 : (kb.toList == [109, 111, 100, 117, 108, 101]) = false := by rw [Lib.toList_data]; show (ls kb == moduleW) = false; rw [beq_eq_false_iff_ne]; exact k1
            by_cases k2 : ls kb = goW
            · have e2 : (kb.toList == [103, 111]) = true := by rw [Lib.toList_data]; show (ls kb == goW) = true; rw [k2]; rfl
              have hs0 : stepR ⟨ls pb, mi, td⟩ [ls kb, ls ub] = (match minorL (ls ub) with | some n => if td then none else some ⟨ls pb, n, true⟩ | none => none) := by unfold stepR; simp only [if_neg k1, if_pos k2]; rfl
              clear k1 k2
              cases hq : minorL (ls ub) with
              | none =>
                rw [hq] at hs0 cm
                simp only at hs0
                unfold toldM at cm
                have HS0 := Lib.hid hs0
                clear hs0
                go_wp2_with (first | ((with_reducible refine (cw _).mono ?_); rintro e w1 ⟨g, cp', rfl, hc0, hc1, hb⟩; have HB1 := Lib.hid (HB.out.trans (hb.mono HB.out.size)); clear hb) | ((with_reducible refine (cm _).mono ?_); rintro e w2 ⟨rfl, rfl⟩))
                refine bodyPost_ret (results_tmp3 rfl _ _ _) rfl ?_
                rw [show readL (ls s) = none from HN.out.2 (HS0.out)]
                exact ⟨rfl, HB1.out⟩

              | some n =>
                rw [hq] at hs0 cm
                simp only at hs0
                unfold toldM at cm
                cases td
                · simp only [Bool.false_eq_true, if_false] at hs0
                  have HS0 := Lib.hid hs0
                  clear hs0
                  go_wp2_with (first | ((with_reducible refine (cw _).mono ?_); rintro e w1 ⟨g, cp', rfl, hc0, hc1, hb⟩; have HB1 := Lib.hid (HB.out.trans (hb.mono HB.out.size)); clear hb) | ((with_reducible refine (cm _).mono ?_); rintro e w2 ⟨rfl, rfl⟩))
                  go_roundw
                  case rel => exact ⟨pb, n, true, i + 1, i + 1, rfl, rfl, rfl, by congr 1, by congr 1, HB1.out, Nat.le_refl _, by have := HIS.out; omega, HN.out.1 _ (HS0.out)⟩
                  case measure => have := HIS.out; simp; omega

                · simp only [if_true] at hs0
                  have HS0 := Lib.hid hs0
                  clear hs0
                  go_wp2_with (first | ((with_reducible refine (cw _).mono ?_); rintro e w1 ⟨g, cp', rfl, hc0, hc1, hb⟩; have HB1 := Lib.hid (HB.out.trans (hb.mono HB.out.size)); clear hb) | ((with_reducible refine (cm _).mono ?_); rintro e w2 ⟨rfl, rfl⟩))
                  refine bodyPost_ret (results_tmp3 rfl _ _ _) rfl ?_
                  rw [show readL (ls s) = none from HN.out.2 (HS0.out)]
                  exact ⟨rfl, HB1.out⟩

            have e2 : (kb.toList == [103, 111]) = false := by rw [Lib.toList_data]; show (ls kb == goW) = false; rw [beq_eq_false_iff_ne]; exact k2
            by_cases k3 : ls kb = chainW
            · have e3 : (kb.toList == [116, 111, 111, 108, 99, 104, 97, 105, 110]) = true := by rw [Lib.toList_data]; show (ls kb == chainW) = true; rw [k3]; rfl
              have hs0 : stepR ⟨ls pb, mi, td⟩ [ls kb, ls ub] = some ⟨ls pb, mi, td⟩ := by unfold stepR; simp only [if_neg k1, if_neg k2, if_pos k3]
              have HS0 := Lib.hid hs0
              clear hs0 k1 k2 k3
              go_wp2_with ((with_reducible refine (cw _).mono ?_); rintro e w1 ⟨g, cp', rfl, hc0, hc1, hb⟩; have HB1 := Lib.hid (HB.out.trans (hb.mono HB.out.size)); clear hb)
              go_roundw
              case rel => exact ⟨pb, mi, td, i + 1, i + 1, rfl, rfl, rfl, by congr 1, by congr 1, HB1.out, Nat.le_refl _, by have := HIS.out; omega, HN.out.1 _ (HS0.out)⟩
              case measure => have := HIS.out; simp; omega

            · have e3 : (kb.toList == [116, 111, 111, 108, 99, 104, 97, 105, 110]) = false := by rw [Lib.toList_data]; show (ls kb == chainW) = false; rw [beq_eq_false_iff_ne]; exact k3
              have hs0 : stepR ⟨ls pb, mi, td⟩ [ls kb, ls ub] = none := by unfold stepR; simp only [if_neg k1, if_neg k2, if_neg k3]
              have HS0 := Lib.hid hs0
              clear hs0 k1 k2 k3
              go_wp2_with ((with_reducible refine (cw _).mono ?_); rintro e w1 ⟨g, cp', rfl, hc0, hc1, hb⟩; have HB1 := Lib.hid (HB.out.trans (hb.mono HB.out.size)); clear hb)
              refine bodyPost_ret (results_tmp3 rfl _ _ _) rfl ?_
              rw [show readL (ls s) = none from HN.out.2 (HS0.out)]
              exact ⟨rfl, HB1.out⟩


        · have k0 : ((((s[i].toNat : Nat) : Int)) != 10) = true := by rw [bne_iff_ne]; omega
          have k0' : ((((s[i].toNat : Nat) : Int)) == 10) = false := by rw [beq_eq_false_iff_ne]; omega
          have HN := Lib.hid (inv_char hlt hfi hc hinv)
          clear hinv hb hc his hfi
          go_wp2_with fail
          go_roundw
          case rel => exact ⟨pb, mi, td, fr, i + 1, rfl, rfl, rfl, rfl, by congr 1, HB.out, by have := HFI.out; omega, by omega, HN.out⟩
          case measure => simp; omega
      · have f5 : ¬ ((i : Int) < (s.size : Int)) := by omega
        have HN : Hid ((∀ z, stepR ⟨ls pb, mi, td⟩ (lineWords (ls (s.extract fr i))) = some z → InvR s (i + 1) (i + 1) z) ∧ (stepR ⟨ls pb, mi, td⟩ (lineWords (ls (s.extract fr i))) = none → readL (ls s) = none)) := inv_line (.inr (by omega)) hinv
        clear hinv his hfi
        match hws : lineWords (ls (s.extract fr i)) with
        | [] =>
          have cw := words_none _ hex hws
          rw [hws] at HN
          clear hws
          go_wp2_with ((with_reducible refine (cw _).mono ?_); rintro e w1 ⟨rfl, hb⟩; have HB1 := Lib.hid (HB.out.trans (hb.mono HB.out.size)); clear hb)
          go_roundw
          case rel => exact ⟨pb, mi, td, i + 1, i + 1, rfl, rfl, rfl, by congr 1, by congr 1, HB1.out, Nat.le_refl _, by have := HIS.out; omega, HN.out.1 _ (rfl)⟩
          case measure => have := HIS.out; simp; omega

        | [k] =>
          have cw := words_row _ hex k [] hws
          rw [hws] at HN
          clear hws
          go_wp2_with ((with_reducible refine (cw _).mono ?_); rintro e w1 ⟨g, cp, rfl, hcells, hb⟩; have HB1 := Lib.hid (HB.out.trans (hb.mono HB.out.size)); have hc0 := hcells 0 _ rfl; clear hb hcells)
          refine bodyPost_ret (results_tmp3 rfl _ _ _) rfl ?_
          rw [show readL (ls s) = none from HN.out.2 (rfl)]
          exact ⟨rfl, HB1.out⟩

        | k :: k2 :: k3 :: r =>
          have cw := words_row _ hex k (k2 :: k3 :: r) hws
          rw [hws] at HN
          have n2 : (((k :: k2 :: k3 :: r).length : Int) == 0) = false := by rw [beq_eq_false_iff_ne]; simp; omega
          have n3 : (((k :: k2 :: k3 :: r).length : Int) == 2) = false := by rw [beq_eq_false_iff_ne]; simp; omega
          have n4 : (((k :: k2 :: k3 :: r).length : Int) != 2) = true := by rw [bne_iff_ne]; simp; omega
          generalize (k :: k2 :: k3 :: r).length = n at *
          clear hws
          go_wp2_with ((with_reducible refine (cw _).mono ?_); rintro e w1 ⟨g, cp, rfl, hcells, hb⟩; have HB1 := Lib.hid (HB.out.trans (hb.mono HB.out.size)); have hc0 := hcells 0 _ rfl; clear hb hcells)
          refine bodyPost_ret (results_tmp3 rfl _ _ _) rfl ?_
          rw [show readL (ls s) = none from HN.out.2 (rfl)]
          exact ⟨rfl, HB1.out⟩

        | [k, u] =>
          obtain ⟨kb, rfl⟩ : ∃ kb, ls kb = k := ⟨⟨k.toArray⟩, rfl⟩
          obtain ⟨ub, rfl⟩ : ∃ ub, ls ub = u := ⟨⟨u.toArray⟩, rfl⟩
          have cw := words_two _ hex kb ub hws
          rw [hws] at HN
          have hus : ub.size ≤ 1000000 := words_small hex hws
          clear hws
          have cp := refPath_any ub hus
          have cm := refMinor_any ub hus
          clear hus
          by_cases k1 : ls kb = moduleW
          · have e1 : (kb.toList == [109, 111, 100, 117, 108, 101]) = true := by rw [Lib.toList_data]; show (ls kb == moduleW) = true; rw [k1]; rfl
            have hs0 : stepR ⟨ls pb, mi, td⟩ [ls kb, ls ub] = (if ls pb ≠ [] ∨ pathL (ls ub) = false then none else some ⟨ls ub, mi, td⟩) := by unfold stepR; simp only [if_pos k1]
            clear k1
            cases hp : pb.toList.isEmpty
            · have hne : ls pb ≠ [] := fun e => by rw [empty_ls, e] at hp; cases hp
              rw [if_pos (.inl hne)] at hs0
              have HS0 := Lib.hid hs0
              clear hs0 hne
              go_wp2_with ((with_reducible refine (cw _).mono ?_); rintro e w1 ⟨g, cp', rfl, hc0, hc1, hb⟩; have HB1 := Lib.hid (HB.out.trans (hb.mono HB.out.size)); clear hb)
              refine bodyPost_ret (results_tmp3 rfl _ _ _) rfl ?_
              rw [show readL (ls s) = none from HN.out.2 (HS0.out)]
              exact ⟨rfl, HB1.out⟩

            · have hne : ls pb = [] := by cases hl : ls pb with | nil => rfl | cons c t => rw [empty_ls, hl] at hp; cases hp
              cases hq : pathL (ls ub)
              · rw [if_pos (.inr hq)] at hs0
                rw [hq] at cp
                have HS0 := Lib.hid hs0
                clear hs0 hne
                go_wp2_with (first | ((with_reducible refine (cw _).mono ?_); rintro e w1 ⟨g, cp', rfl, hc0, hc1, hb⟩; have HB1 := Lib.hid (HB.out.trans (hb.mono HB.out.size)); clear hb) | ((with_reducible refine (cp _).mono ?_); rintro e w2 ⟨rfl, rfl⟩))
                refine bodyPost_ret (results_tmp3 rfl _ _ _) rfl ?_
                rw [show readL (ls s) = none from HN.out.2 (HS0.out)]
                exact ⟨rfl, HB1.out⟩

              · rw [if_neg (by rw [hne, hq]; simp)] at hs0
                rw [hq] at cp
                have HS0 := Lib.hid hs0
                clear hs0 hne
                go_wp2_with (first | ((with_reducible refine (cw _).mono ?_); rintro e w1 ⟨g, cp', rfl, hc0, hc1, hb⟩; have HB1 := Lib.hid (HB.out.trans (hb.mono HB.out.size)); clear hb) | ((with_reducible refine (cp _).mono ?_); rintro e w2 ⟨rfl, rfl⟩))
                go_roundw
                case rel => exact ⟨ub, mi, td, i + 1, i + 1, rfl, rfl, rfl, by congr 1, by congr 1, HB1.out, Nat.le_refl _, by have := HIS.out; omega, HN.out.1 _ (HS0.out)⟩
                case measure => have := HIS.out; simp; omega

          have e1 : (kb.toList == [109, 111, 100, 117, 108, 101]) = false := by rw [Lib.toList_data]; show (ls kb == moduleW) = false; rw [beq_eq_false_iff_ne]; exact k1
          by_cases k2 : ls kb = goW
          · have e2 : (kb.toList == [103, 111]) = true := by rw [Lib.toList_data]; show (ls kb == goW) = true; rw [k2]; rfl
            have hs0 : stepR ⟨ls pb, mi, td⟩ [ls kb, ls ub] = (match minorL (ls ub) with | some n => if td then none else some ⟨ls pb, n, true⟩ | none => none) := by unfold stepR; simp only [if_neg k1, if_pos k2]; rfl
            clear k1 k2
            cases hq : minorL (ls ub) with
            | none =>
              rw [hq] at hs0 cm
              simp only at hs0
              unfold toldM at cm
              have HS0 := Lib.hid hs0
              clear hs0
              go_wp2_with (first | ((with_reducible refine (cw _).mono ?_); rintro e w1 ⟨g, cp', rfl, hc0, hc1, hb⟩; have HB1 := Lib.hid (HB.out.trans (hb.mono HB.out.size)); clear hb) | ((with_reducible refine (cm _).mono ?_); rintro e w2 ⟨rfl, rfl⟩))
              refine bodyPost_ret (results_tmp3 rfl _ _ _) rfl ?_
              rw [show readL (ls s) = none from HN.out.2 (HS0.out)]
              exact ⟨rfl, HB1.out⟩

            | some n =>
              rw [hq] at hs0 cm
              simp only at hs0
              unfold toldM at cm
              cases td
              · simp only [Bool.false_eq_true, if_false] at hs0
                have HS0 := Lib.hid hs0
                clear hs0
                go_wp2_with (first | ((with_reducible refine (cw _).mono ?_); rintro e w1 ⟨g, cp', rfl, hc0, hc1, hb⟩; have HB1 := Lib.hid (HB.out.trans (hb.mono HB.out.size)); clear hb) | ((with_reducible refine (cm _).mono ?_); rintro e w2 ⟨rfl, rfl⟩))
                go_roundw
                case rel => exact ⟨pb, n, true, i + 1, i + 1, rfl, rfl, rfl, by congr 1, by congr 1, HB1.out, Nat.le_refl _, by have := HIS.out; omega, HN.out.1 _ (HS0.out)⟩
                case measure => have := HIS.out; simp; omega

              · simp only [if_true] at hs0
                have HS0 := Lib.hid hs0
                clear hs0
                go_wp2_with (first | ((with_reducible refine (cw _).mono ?_); rintro e w1 ⟨g, cp', rfl, hc0, hc1, hb⟩; have HB1 := Lib.hid (HB.out.trans (hb.mono HB.out.size)); clear hb) | ((with_reducible refine (cm _).mono ?_); rintro e w2 ⟨rfl, rfl⟩))
                refine bodyPost_ret (results_tmp3 rfl _ _ _) rfl ?_
                rw [show readL (ls s) = none from HN.out.2 (HS0.out)]
                exact ⟨rfl, HB1.out⟩

          have e2 : (kb.toList == [103, 111]) = false := by rw [Lib.toList_data]; show (ls kb == goW) = false; rw [beq_eq_false_iff_ne]; exact k2
          by_cases k3 : ls kb = chainW
          · have e3 : (kb.toList == [116, 111, 111, 108, 99, 104, 97, 105, 110]) = true := by rw [Lib.toList_data]; show (ls kb == chainW) = true; rw [k3]; rfl
            have hs0 : stepR ⟨ls pb, mi, td⟩ [ls kb, ls ub] = some ⟨ls pb, mi, td⟩ := by unfold stepR; simp only [if_neg k1, if_neg k2, if_pos k3]
            have HS0 := Lib.hid hs0
            clear hs0 k1 k2 k3
            go_wp2_with ((with_reducible refine (cw _).mono ?_); rintro e w1 ⟨g, cp', rfl, hc0, hc1, hb⟩; have HB1 := Lib.hid (HB.out.trans (hb.mono HB.out.size)); clear hb)
            go_roundw
            case rel => exact ⟨pb, mi, td, i + 1, i + 1, rfl, rfl, rfl, by congr 1, by congr 1, HB1.out, Nat.le_refl _, by have := HIS.out; omega, HN.out.1 _ (HS0.out)⟩
            case measure => have := HIS.out; simp; omega

          · have e3 : (kb.toList == [116, 111, 111, 108, 99, 104, 97, 105, 110]) = false := by rw [Lib.toList_data]; show (ls kb == chainW) = false; rw [beq_eq_false_iff_ne]; exact k3
            have hs0 : stepR ⟨ls pb, mi, td⟩ [ls kb, ls ub] = none := by unfold stepR; simp only [if_neg k1, if_neg k2, if_neg k3]
            have HS0 := Lib.hid hs0
            clear hs0 k1 k2 k3
            go_wp2_with ((with_reducible refine (cw _).mono ?_); rintro e w1 ⟨g, cp', rfl, hc0, hc1, hb⟩; have HB1 := Lib.hid (HB.out.trans (hb.mono HB.out.size)); clear hb)
            refine bodyPost_ret (results_tmp3 rfl _ _ _) rfl ?_
            rw [show readL (ls s) = none from HN.out.2 (HS0.out)]
            exact ⟨rfl, HB1.out⟩


    · have f1 : ¬ ((i : Int) ≤ (s.size : Int)) := by omega
      have hE : endR (some ⟨ls pb, mi, td⟩) = readL (ls s) := by
        rcases hinv with ⟨h, _⟩ | ⟨_, h⟩
        · omega
        · exact h
      have HE : Hid ((if ls pb = [] then none else some (ls pb, mi)) = readL (ls s)) := hE
      clear hinv hE hle his hfi
      cases hp : pb.toList.isEmpty
      · have hne : ls pb ≠ [] := fun e => by rw [empty_ls, e] at hp; cases hp
        have HR : Hid (readL (ls s) = some (ls pb, mi)) := by show _ = _; rw [← HE.out, if_neg hne]
        clear hne
        go_wp2_with fail
        go_ret3
        rw [HR.out]
        exact ⟨rfl, HB.out⟩
      · have hne : ls pb = [] := by cases hl : ls pb with | nil => rfl | cons c t => rw [empty_ls, hl] at hp; cases hp
        have HR : Hid (readL (ls s) = none) := by show _ = _; rw [← HE.out, if_pos hne]
        clear hne
        go_wp2_with fail
        go_ret3
        rw [HR.out]
        exact ⟨rfl, HB.out⟩
end Go.Proofs.YtnghlhkgeahfmaaDoor
