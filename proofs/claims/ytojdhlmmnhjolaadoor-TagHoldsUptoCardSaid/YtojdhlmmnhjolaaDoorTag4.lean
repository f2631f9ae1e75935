/- package ver: a version's minor; a version's text; whether a text is a path. -/
import Derived.Test.YtojdhlmmnhjolaaDoorTag3
namespace Go.Proofs.YtojdhlmmnhjolaaDoor
open Go.RowKit
set_option linter.unusedVariables false

/-- What Minor tells. -/
def toldM : Option Nat → Value
  | some n => .tuple #[.int .i64 (n : Nat), .int .i64 0]
  | none => .tuple #[.int .i64 0, .int .i64 6]

theorem fig_take (t : ByteArray) : (ls (t.extract 0 (rowN figN t))) = (ls t).takeWhile figB := by
  rw [ls_to]
  unfold rowN
  exact (List.prefix_iff_eq_take.1 (List.takeWhile_prefix _)).symm
theorem fig_take_all (t : ByteArray) : (ls (t.extract 0 (rowN figN t))).all figB = true := by
  rw [fig_take]; exact List.all_takeWhile

theorem minorL_no (l : List UInt8) (h : ([49, 46] : List UInt8).isPrefixOf l = false) : minorL l = none := by unfold minorL; rw [if_neg (by simp [h])]
theorem minorL_worth (l : List UInt8) (h : worthL ((l.drop 2).takeWhile figB) = none) : minorL l = none := by unfold minorL; rw [h]; simp
theorem minorL_rel (l : List UInt8) (n : Nat) (h0 : ([49, 46] : List UInt8).isPrefixOf l = true) (h : worthL ((l.drop 2).takeWhile figB) = some n) : minorL l = if relL ((l.drop 2).drop ((l.drop 2).takeWhile figB).length) then some n else none := by unfold minorL; rw [if_pos h0, h]

set_option maxRecDepth 100000 in
theorem minor_any (s : ByteArray) (hs : s.size ≤ 3000000) (w : World) : Calls Tryd.prog 43 #[.string s] w fun e w' => e = .returned (toldM (minorL (ls s))) ∧ Below w.heap.size w w' := by
  have HP := Lib.hid (hasPre_list s sOne)
  obtain ⟨t, ht⟩ : ∃ t, behind s sOne = t := ⟨_, rfl⟩
  have hts : t.size ≤ 3000000 := by
    rw [← ht]; unfold behind; split
    · rw [ByteArray.size_extract]; omega
    · exact hs
  have htl : hasPre s sOne = true → ls t = (ls s).drop 2 := fun h => by rw [← ht]; unfold behind; rw [if_pos h]; exact ls_from s _
  have HTL := Lib.hid htl
  clear htl
  obtain ⟨n, hn⟩ : ∃ n, rowN figN t = n := ⟨_, rfl⟩
  have hnt : n ≤ t.size := by rw [← hn]; exact rowN_le _ _
  have HN := Lib.hid hn
  have HD := Lib.hid (fig_take t)
  have HA := Lib.hid (fig_take_all t)
  rw [hn] at HD HA
  have hrow := row_fig t
  rw [hn] at hrow
  have HS := Lib.hid hts
  have f1 : (0 : Int) ≤ (n : Int) := by omega
  have f2 : (n : Int) ≤ (t.size : Int) := by omega
  have HR := Lib.hid (fun W => release_any (t.extract n t.size) (by rw [ByteArray.size_extract]; omega) W)
  have HRL := Lib.hid (ls_from t n)
  clear hs hts hn
  have hw := worth_any (t.extract 0 n) HA.out
  rw [HD.out] at hw
  cases hp : hasPre s sOne
  · have HM : Hid (minorL (ls s) = none) := minorL_no _ (HP.out.symm.trans hp)
    cases hwv : worthL ((ls t).takeWhile figB)
    all_goals
      rw [hwv] at hw
      unfold told2 at hw
      go_enter Tryd.func43, Tryd.ntmps43
      go_wp2_with (first
        | ((with_reducible refine (cutPrefix_any s sOne _).mono ?_); rintro e w' ⟨rfl, rfl⟩; rw [hp, ht])
        | ((with_reducible refine (hrow _ (Nat.le_trans HS.out (by decide))).mono ?_); rintro e w1 ⟨rfl, hb⟩; have HB1 := Lib.hid hb; clear hb)
        | ((with_reducible refine (hw _).mono ?_); rintro e w2 ⟨rfl, hb⟩; have HB2 := Lib.hid hb; clear hb))
      go_ret2
      rw [HM.out]
      exact ⟨rfl, HB1.out.trans (HB2.out.mono HB1.out.size)⟩
  · have HTE := Lib.hid (HTL.out hp)
    cases hwv : worthL ((ls t).takeWhile figB)
    · have HM : Hid (minorL (ls s) = none) := minorL_worth _ (by rw [← HTE.out]; exact hwv)
      rw [hwv] at hw
      unfold told2 at hw
      go_enter Tryd.func43, Tryd.ntmps43
      go_wp2_with (first
        | ((with_reducible refine (cutPrefix_any s sOne _).mono ?_); rintro e w' ⟨rfl, rfl⟩; rw [hp, ht])
        | ((with_reducible refine (hrow _ (Nat.le_trans HS.out (by decide))).mono ?_); rintro e w1 ⟨rfl, hb⟩; have HB1 := Lib.hid hb; clear hb)
        | ((with_reducible refine (hw _).mono ?_); rintro e w2 ⟨rfl, hb⟩; have HB2 := Lib.hid hb; clear hb))
      go_ret2
      rw [HM.out]
      exact ⟨rfl, HB1.out.trans (HB2.out.mono HB1.out.size)⟩
    · rename_i m
      have HM : Hid (minorL (ls s) = if relL (ls (t.extract n t.size)) then some m else none) := by
        show _ = _
        rw [HRL.out, minorL_rel _ m (HP.out.symm.trans hp) (by rw [← HTE.out]; exact hwv), ← HTE.out]
        have : n = ((ls t).takeWhile figB).length := HN.out.symm
        rw [← this]
      rw [hwv] at hw
      unfold told2 at hw
      have hr := HR.out
      cases hrl : relL (ls (t.extract n t.size))
      all_goals
        rw [hrl] at hr HM
        go_enter Tryd.func43, Tryd.ntmps43
        go_wp2_with (first
          | ((with_reducible refine (cutPrefix_any s sOne _).mono ?_); rintro e w' ⟨rfl, rfl⟩; rw [hp, ht])
          | ((with_reducible refine (hrow _ (Nat.le_trans HS.out (by decide))).mono ?_); rintro e w1 ⟨rfl, hb⟩; have HB1 := Lib.hid hb; clear hb)
          | ((with_reducible refine (hw _).mono ?_); rintro e w2 ⟨rfl, hb⟩; have HB2 := Lib.hid hb; clear hb)
          | ((with_reducible refine (hr _).mono ?_); rintro e w3 ⟨rfl, hb⟩; have HB3 := Lib.hid hb; clear hb))
        go_ret2
        rw [HM.out]
        have hb2 := HB1.out.trans (HB2.out.mono HB1.out.size)
        exact ⟨rfl, hb2.trans (HB3.out.mono hb2.size)⟩

/-- A version's text. -/
def textL (m : Nat) : ByteArray := ⟨(49 :: 46 :: Lib.decDigits m).toArray⟩
def textV (m : Int) : ByteArray := if m < 0 ∨ 99 < m then ByteArray.empty else textL m.toNat

theorem text_any (m : Int) (h0 : -9223372036854775808 ≤ m) (h1 : m ≤ 9223372036854775807) (w : World) : Calls Tryd.prog 44 #[.int .i64 m] w fun e w' => e = .returned (.string (textV m)) ∧ Below w.heap.size w w' := by
  by_cases a : m < 0
  · have e : textV m = ⟨#[]⟩ := by unfold textV; rw [if_pos (.inl a)]; rfl
    rw [e]
    go_enter Tryd.func44, Tryd.ntmps44
    go_wp2
    go_ret
    exact ⟨rfl, Below.refl _ _⟩
  by_cases b : 99 < m
  · have e : textV m = ⟨#[]⟩ := by unfold textV; rw [if_pos (.inr b)]; rfl
    rw [e]
    go_enter Tryd.func44, Tryd.ntmps44
    go_wp2
    go_ret
    exact ⟨rfl, Below.refl _ _⟩
  · obtain ⟨k, rfl⟩ : ∃ k : Nat, m = k := ⟨m.toNat, by omega⟩
    have e : textV (k : Int) = textL k := by unfold textV; rw [if_neg (by omega)]; rfl
    rw [e]
    have hi := Go.Proofs.Tryd.strconv_Itoa_small k (by omega)
    have hl : (Lib.decDigits k).length ≤ 2 := by
      rw [Lib.decDigits]
      split
      · simp
      · rw [Lib.decDigits, dif_pos (by omega)]; simp
    have KA := fun w => run_string_add_sum (P := Tryd.prog) w ⟨#[49, 46]⟩ ⟨(Lib.decDigits k).toArray⟩ (by show 2 + (Lib.decDigits k).toArray.size ≤ _; rw [List.size_toArray]; omega)
    have hD : Hid ((⟨#[49, 46]⟩ : ByteArray) ++ ⟨(Lib.decDigits k).toArray⟩ = textL k) := by
      show _ = _
      apply ByteArray.ext
      show _ = (49 :: 46 :: Lib.decDigits k).toArray
      simp
    clear hl
    have g1 : decide ((k : Int) < 0) = false := by simp
    have g2 : decide ((99 : Int) < (k : Int)) = false := by simp; omega
    generalize textL k = T at *
    generalize Lib.decDigits k = D at *
    clear a b h0 h1
    go_enter Tryd.func44, Tryd.ntmps44
    go_wp2_with ((with_reducible refine (hi _).mono ?_); rintro e w' ⟨rfl, rfl⟩)
    go_ret
    refine ⟨?_, Below.refl _ _⟩
    rw [← hD.out]
    rfl
end Go.Proofs.YtojdhlmmnhjolaaDoor
