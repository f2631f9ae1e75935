/- package ver: what may stand behind a minor; a version's minor; a version's text. -/
import Derived.Test.YtojdhlmmnhjolaaDoorTag2
import Derived.Test.YtojdhlmmnhjolaaDoorIdx
namespace Go.Proofs.YtojdhlmmnhjolaaDoor
open Go.RowKit
set_option linter.unusedVariables false

def sDot : ByteArray := ⟨#[46]⟩
def sRc : ByteArray := ⟨#[114, 99]⟩
def sBeta : ByteArray := ⟨#[98, 101, 116, 97]⟩
abbrev sOne : ByteArray := ⟨#[49, 46]⟩

theorem ls_from (s : ByteArray) (k : Nat) : ls (s.extract k s.size) = (ls s).drop k := Lib.extract_to_end s k
theorem ls_to (s : ByteArray) (k : Nat) : ls (s.extract 0 k) = (ls s).take k := Lib.extract_from_zero s k
theorem empty_ls (s : ByteArray) : s.toList.isEmpty = (ls s).isEmpty := by rw [Lib.toList_data]
theorem figs_row (s : ByteArray) : figs (ls s) = (!s.toList.isEmpty && ((rowN figN s : Nat) : Int) == (s.size : Int)) := by
  unfold figs
  rw [empty_ls]
  congr 1
  rw [Bool.eq_iff_iff, beq_iff_eq, ← rowN_all]
  omega

theorem figure_enters : ∀ args W, (callFunc 52 args).run Tryd.prog W = .ok (.enter 52 args) W := fun args W => by kernel_rfl
theorem row_fig (s : ByteArray) (w : World) (hs : s.size ≤ 4294967296) : Calls Tryd.prog 51 #[.string s, .func (.func 52) #[] #[]] w fun e w' => e = .returned (.int .i64 (rowN figN s)) ∧ Below w.heap.size w w' :=
  row_any _ figN figN_big figure_enters s w hs (figure_pred w)

theorem relL_dot (l : List UInt8) (h : ([46] : List UInt8).isPrefixOf l = true) : relL l = figs (l.drop 1) := by unfold relL; rw [if_pos h]
theorem relL_rc (l : List UInt8) (h0 : ([46] : List UInt8).isPrefixOf l = false) (h : ([114, 99] : List UInt8).isPrefixOf l = true) : relL l = figs (l.drop 2) := by unfold relL; rw [if_neg (by simp [h0]), if_pos h]
theorem relL_beta (l : List UInt8) (h0 : ([46] : List UInt8).isPrefixOf l = false) (h1 : ([114, 99] : List UInt8).isPrefixOf l = false) (h : ([98, 101, 116, 97] : List UInt8).isPrefixOf l = true) : relL l = figs (l.drop 4) := by unfold relL; rw [if_neg (by simp [h0]), if_neg (by simp [h1]), if_pos h]
theorem relL_no (l : List UInt8) (h0 : ([46] : List UInt8).isPrefixOf l = false) (h1 : ([114, 99] : List UInt8).isPrefixOf l = false) (h : ([98, 101, 116, 97] : List UInt8).isPrefixOf l = false) : relL l = l.isEmpty := by unfold relL; rw [if_neg (by simp [h0]), if_neg (by simp [h1]), if_neg (by simp [h])]

set_option maxRecDepth 100000 in
theorem release_any (s : ByteArray) (hs : s.size ≤ 3000000) (w : World) : Calls Tryd.prog 54 #[.string s] w fun e w' => e = .returned (.bool (relL (ls s))) ∧ Below w.heap.size w w' := by
  have P0 := Lib.hid (hasPre_list s sDot)
  have P1 := Lib.hid (hasPre_list s sRc)
  have P2 := Lib.hid (hasPre_list s sBeta)
  have Hs := Lib.hid hs
  clear hs
  go_enter Tryd.func54, Tryd.ntmps54
  go_wp2
  have hc0 : (w.alloc (.cells #[.string sDot, .string sRc, .string sBeta] 9)).cell? ⟨w.heap.size, 0, none⟩ = some (.string sDot) := by rw [World.cell?_alloc_new]; rfl
  have hc1 : (w.alloc (.cells #[.string sDot, .string sRc, .string sBeta] 9)).cell? ⟨w.heap.size, 1, none⟩ = some (.string sRc) := by rw [World.cell?_alloc_new]; rfl
  have hc2 : (w.alloc (.cells #[.string sDot, .string sRc, .string sBeta] 9)).cell? ⟨w.heap.size, 2, none⟩ = some (.string sBeta) := by rw [World.cell?_alloc_new]; rfl
  have HB := Lib.hid ((Below.refl w.heap.size w).alloc (Nat.le_refl _) (.cells #[.string sDot, .string sRc, .string sBeta] 9))
  have hdef : (w.alloc (.cells #[.string sDot, .string sRc, .string sBeta] 9)) = (w.alloc (.cells #[.string ⟨#[46]⟩, .string ⟨#[114, 99]⟩, .string ⟨#[98, 101, 116, 97]⟩] 9)) := rfl
  rw [hdef] at hc0 hc1 hc2 HB
  clear hdef
  generalize w.alloc (.cells #[.string ⟨#[46]⟩, .string ⟨#[114, 99]⟩, .string ⟨#[98, 101, 116, 97]⟩] 9) = W0 at *
  obtain ⟨B, hBe⟩ : ∃ B, B = w.heap.size := ⟨_, rfl⟩
  rw [← hBe] at hc0 hc1 hc2 ⊢
  have HBE := Lib.hid hBe
  clear hBe
  go_loopw [4, 5, 6, 9] (fun _ _ _ v9 wr => wr = W0 ∧ ∃ i : Nat, v9 = .int .i64 i ∧ i ≤ 3 ∧ (0 < i → hasPre s sDot = false) ∧ (1 < i → hasPre s sRc = false) ∧ (2 < i → hasPre s sBeta = false)) (fun _ _ _ v9 _ => 3 - (match v9 with | .int _ i => i.toNat | _ => 0))
  case atStart => exact ⟨rfl, 0, rfl, by omega, fun h => by omega, fun h => by omega, fun h => by omega⟩
  case round =>
    obtain ⟨rfl, i, rfl, hi, q0, q1, q2⟩ := hrel
    have Q0 := Lib.hid q0
    have Q1 := Lib.hid q1
    have Q2 := Lib.hid q2
    clear q0 q1 q2
    have hcase : i = 0 ∨ i = 1 ∨ i = 2 ∨ i = 3 := by omega
    rcases hcase with rfl | rfl | rfl | rfl
    · cases hp : hasPre s sDot
      · go_wp2_with ((with_reducible refine (cutPrefix_any s sDot _).mono ?_); rintro e w' ⟨rfl, rfl⟩; rw [hp])
        go_roundw
        case rel => exact ⟨by first | exact rfl | trivial, 1, rfl, by omega, fun _ => by first | exact hp | trivial, fun h => by omega, fun h => by omega⟩
        case measure => simp
      · obtain ⟨t, ht⟩ : ∃ t, behind s sDot = t := ⟨_, rfl⟩
        have htl : ls t = (ls s).drop 1 := by rw [← ht]; unfold behind; rw [if_pos hp]; exact ls_from s _
        have HT := Lib.hid htl
        have hts : t.size ≤ 3000000 := by have := congrArg List.length htl; rw [List.length_drop, ls_len, ls_len] at this; have := Hs.out; omega
        have HTS := Lib.hid hts
        have HR : Hid (relL (ls s) = figs (ls t)) := by
          show _ = _
          rw [htl]
          exact relL_dot _ (P0.out.symm.trans hp)
        have HF := Lib.hid (figs_row t)
        clear htl hts
        cases h0 : t.toList.isEmpty
        · cases h1 : (((rowN figN t : Nat) : Int) == (t.size : Int))
          · go_wp2_with (first | ((with_reducible refine (cutPrefix_any s sDot _).mono ?_); rintro e w' ⟨rfl, rfl⟩; rw [hp, ht]) | ((with_reducible refine (row_fig t _ (Nat.le_trans HTS.out (by decide))).mono ?_); rintro e w' ⟨rfl, hb⟩; have HB2 := Lib.hid hb))
            refine bodyPost_ret (results_tmp rfl _ _ _) rfl ?_
            rw [HR.out, HF.out, h0, h1]
            exact ⟨rfl, HB.out.trans (HB2.out.mono HB.out.size)⟩
          · go_wp2_with (first | ((with_reducible refine (cutPrefix_any s sDot _).mono ?_); rintro e w' ⟨rfl, rfl⟩; rw [hp, ht]) | ((with_reducible refine (row_fig t _ (Nat.le_trans HTS.out (by decide))).mono ?_); rintro e w' ⟨rfl, hb⟩; have HB2 := Lib.hid hb))
            refine bodyPost_ret (results_tmp rfl _ _ _) rfl ?_
            rw [HR.out, HF.out, h0, h1]
            exact ⟨rfl, HB.out.trans (HB2.out.mono HB.out.size)⟩
        · go_wp2_with ((with_reducible refine (cutPrefix_any s sDot _).mono ?_); rintro e w' ⟨rfl, rfl⟩; rw [hp, ht])
          refine bodyPost_ret (results_tmp rfl _ _ _) rfl ?_
          rw [HR.out, HF.out, h0]
          exact ⟨rfl, HB.out⟩
    · cases hp : hasPre s sRc
      · go_wp2_with ((with_reducible refine (cutPrefix_any s sRc _).mono ?_); rintro e w' ⟨rfl, rfl⟩; rw [hp])
        go_roundw
        case rel => exact ⟨by first | exact rfl | trivial, 2, rfl, by omega, fun _ => by first | exact Q0.out (by omega) | trivial, fun _ => by first | exact hp | trivial, fun h => by omega⟩
        case measure => simp
      · obtain ⟨t, ht⟩ : ∃ t, behind s sRc = t := ⟨_, rfl⟩
        have htl : ls t = (ls s).drop 2 := by rw [← ht]; unfold behind; rw [if_pos hp]; exact ls_from s _
        have HT := Lib.hid htl
        have hts : t.size ≤ 3000000 := by have := congrArg List.length htl; rw [List.length_drop, ls_len, ls_len] at this; have := Hs.out; omega
        have HTS := Lib.hid hts
        have HR : Hid (relL (ls s) = figs (ls t)) := by
          show _ = _
          rw [htl]
          exact relL_rc _ (P0.out.symm.trans (Q0.out (by omega))) (P1.out.symm.trans hp)
        have HF := Lib.hid (figs_row t)
        clear htl hts
        cases h0 : t.toList.isEmpty
        · cases h1 : (((rowN figN t : Nat) : Int) == (t.size : Int))
          · go_wp2_with (first | ((with_reducible refine (cutPrefix_any s sRc _).mono ?_); rintro e w' ⟨rfl, rfl⟩; rw [hp, ht]) | ((with_reducible refine (row_fig t _ (Nat.le_trans HTS.out (by decide))).mono ?_); rintro e w' ⟨rfl, hb⟩; have HB2 := Lib.hid hb))
            refine bodyPost_ret (results_tmp rfl _ _ _) rfl ?_
            rw [HR.out, HF.out, h0, h1]
            exact ⟨rfl, HB.out.trans (HB2.out.mono HB.out.size)⟩
          · go_wp2_with (first | ((with_reducible refine (cutPrefix_any s sRc _).mono ?_); rintro e w' ⟨rfl, rfl⟩; rw [hp, ht]) | ((with_reducible refine (row_fig t _ (Nat.le_trans HTS.out (by decide))).mono ?_); rintro e w' ⟨rfl, hb⟩; have HB2 := Lib.hid hb))
            refine bodyPost_ret (results_tmp rfl _ _ _) rfl ?_
            rw [HR.out, HF.out, h0, h1]
            exact ⟨rfl, HB.out.trans (HB2.out.mono HB.out.size)⟩
        · go_wp2_with ((with_reducible refine (cutPrefix_any s sRc _).mono ?_); rintro e w' ⟨rfl, rfl⟩; rw [hp, ht])
          refine bodyPost_ret (results_tmp rfl _ _ _) rfl ?_
          rw [HR.out, HF.out, h0]
          exact ⟨rfl, HB.out⟩
    · cases hp : hasPre s sBeta
      · go_wp2_with ((with_reducible refine (cutPrefix_any s sBeta _).mono ?_); rintro e w' ⟨rfl, rfl⟩; rw [hp])
        go_roundw
        case rel => exact ⟨by first | exact rfl | trivial, 3, rfl, by omega, fun _ => by first | exact Q0.out (by omega) | trivial, fun _ => by first | exact Q1.out (by omega) | trivial, fun _ => by first | exact hp | trivial⟩
        case measure => simp
      · obtain ⟨t, ht⟩ : ∃ t, behind s sBeta = t := ⟨_, rfl⟩
        have htl : ls t = (ls s).drop 4 := by rw [← ht]; unfold behind; rw [if_pos hp]; exact ls_from s _
        have HT := Lib.hid htl
        have hts : t.size ≤ 3000000 := by have := congrArg List.length htl; rw [List.length_drop, ls_len, ls_len] at this; have := Hs.out; omega
        have HTS := Lib.hid hts
        have HR : Hid (relL (ls s) = figs (ls t)) := by
          show _ = _
          rw [htl]
          exact relL_beta _ (P0.out.symm.trans (Q0.out (by omega))) (P1.out.symm.trans (Q1.out (by omega))) (P2.out.symm.trans hp)
        have HF := Lib.hid (figs_row t)
        clear htl hts
        cases h0 : t.toList.isEmpty
        · cases h1 : (((rowN figN t : Nat) : Int) == (t.size : Int))
          · go_wp2_with (first | ((with_reducible refine (cutPrefix_any s sBeta _).mono ?_); rintro e w' ⟨rfl, rfl⟩; rw [hp, ht]) | ((with_reducible refine (row_fig t _ (Nat.le_trans HTS.out (by decide))).mono ?_); rintro e w' ⟨rfl, hb⟩; have HB2 := Lib.hid hb))
            refine bodyPost_ret (results_tmp rfl _ _ _) rfl ?_
            rw [HR.out, HF.out, h0, h1]
            exact ⟨rfl, HB.out.trans (HB2.out.mono HB.out.size)⟩
          · go_wp2_with (first | ((with_reducible refine (cutPrefix_any s sBeta _).mono ?_); rintro e w' ⟨rfl, rfl⟩; rw [hp, ht]) | ((with_reducible refine (row_fig t _ (Nat.le_trans HTS.out (by decide))).mono ?_); rintro e w' ⟨rfl, hb⟩; have HB2 := Lib.hid hb))
            refine bodyPost_ret (results_tmp rfl _ _ _) rfl ?_
            rw [HR.out, HF.out, h0, h1]
            exact ⟨rfl, HB.out.trans (HB2.out.mono HB.out.size)⟩
        · go_wp2_with ((with_reducible refine (cutPrefix_any s sBeta _).mono ?_); rintro e w' ⟨rfl, rfl⟩; rw [hp, ht])
          refine bodyPost_ret (results_tmp rfl _ _ _) rfl ?_
          rw [HR.out, HF.out, h0]
          exact ⟨rfl, HB.out⟩
    · have HR : Hid (relL (ls s) = s.toList.isEmpty) := by
        show _ = _
        rw [empty_ls]
        exact relL_no _ (P0.out.symm.trans (Q0.out (by omega))) (P1.out.symm.trans (Q1.out (by omega))) (P2.out.symm.trans (Q2.out (by omega)))
      cases h0 : s.toList.isEmpty
      all_goals
        go_wp2_with fail
        go_ret
        rw [HR.out, h0]
        exact ⟨rfl, HB.out⟩
end Go.Proofs.YtojdhlmmnhjolaaDoor
