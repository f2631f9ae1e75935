/- package tag: a tag's version. -/
import Derived.Test.YtojdhlmmnhjolaaDoorTag12
import Derived.Test.YtojdhlmmnhjolaaDoorTag4
namespace Go.Proofs.YtojdhlmmnhjolaaDoor
open Go.RowKit
set_option linter.unusedVariables false

theorem figB_le {c : UInt8} (h : figB c = true) : c.toNat - 48 ≤ 9 := by
  have h : figN c.toNat = true := h
  unfold figN at h
  simp at h
  omega
theorem worthL_le : ∀ {l : List UInt8} {n : Nat}, l.all figB = true → worthL l = some n → n ≤ 99
  | [], n, _, h => by cases h
  | [c], n, ha, h => by
    rw [worthL] at h
    injection h with h
    have := figB_le (by simpa using ha : figB c = true)
    omega
  | [c, d], n, ha, h => by
    rw [worthL] at h
    split at h
    · cases h
    · injection h with h
      simp only [List.all_cons, List.all_nil, Bool.and_true, Bool.and_eq_true] at ha
      have := figB_le ha.1
      have := figB_le ha.2
      omega
  | _ :: _ :: _ :: _, n, _, h => by cases h
theorem minorL_le {l : List UInt8} {n : Nat} (h : minorL l = some n) : n ≤ 99 := by
  unfold minorL at h
  split at h
  · split at h
    · rename_i m hm
      split at h
      · injection h with h
        subst h
        exact worthL_le List.all_takeWhile hm
      · cases h
    · cases h
  · cases h
def versM (t : ByteArray) : Int := versionL Lib.decDigits (ls t)
theorem versM_no {t : ByteArray} (h : hasPre t ⟨#[103, 111]⟩ = false) : versM t = -1 := by
  rw [hasPre_list] at h
  unfold versM versionL
  exact if_neg (by show ¬ (ls ⟨#[103, 111]⟩).isPrefixOf (ls t) = true; rw [h]; decide)
theorem versM_go {t : ByteArray} (h : hasPre t ⟨#[103, 111]⟩ = true) : versM t = match minorL (ls (behind t ⟨#[103, 111]⟩)) with
  | some n => if (textV n).toList = (behind t ⟨#[103, 111]⟩).toList then (n : Int) else -1
  | none => -1 := by
  have e : ls (behind t ⟨#[103, 111]⟩) = (ls t).drop 2 := by
    unfold behind
    rw [if_pos h]
    exact ls_from t 2
  rw [hasPre_list] at h
  rw [Lib.toList_data, show (behind t ⟨#[103, 111]⟩).data.toList = (ls t).drop 2 from e, e]
  unfold versM versionL
  rw [if_pos h]
  cases hm : minorL ((ls t).drop 2) with
  | none => rfl
  | some n =>
    have hn := minorL_le hm
    dsimp only
    rw [Lib.toList_data, show textV n = textL n by unfold textV; rw [if_neg (by omega)]; rfl]
    rfl

set_option maxRecDepth 100000 in
theorem version_any (t : ByteArray) (ht : t.size ≤ 3000000) (w : World) : Calls Tryd.prog 32 #[.string t] w fun e w' => e = .returned (.int .i64 (versM t)) ∧ Below w.heap.size w w' := by
  have c1 := cutPrefix_any t ⟨#[103, 111]⟩
  have hbs : (behind t ⟨#[103, 111]⟩).size ≤ 3000000 := by
    unfold behind
    split
    · rw [ByteArray.size_extract]; omega
    · exact ht
  have c2 := minor_any (behind t ⟨#[103, 111]⟩) hbs
  cases hp : hasPre t ⟨#[103, 111]⟩ with
  | false =>
    rw [versM_no hp]
    rw [hp] at c1
    generalize behind t ⟨#[103, 111]⟩ = u at *
    clear c2 hp
    go_enter Tryd.func32, Tryd.ntmps32
    go_wp2_with ((with_reducible refine (c1 _).mono ?_); rintro e w1 ⟨rfl, rfl⟩)
    go_ret
    exact ⟨rfl, Below.refl _ _⟩
  | true =>
    rw [versM_go hp]
    rw [hp] at c1
    generalize behind t ⟨#[103, 111]⟩ = u at *
    clear hp
    cases hm : minorL (ls u) with
    | none =>
      rw [hm] at c2
      unfold toldM at c2
      clear hm
      go_enter Tryd.func32, Tryd.ntmps32
      go_wp2_with (first | ((with_reducible refine (c1 _).mono ?_); rintro e w1 ⟨rfl, rfl⟩) | ((with_reducible refine (c2 _).mono ?_); rintro e w2 ⟨rfl, hb2⟩))
      go_ret
      exact ⟨rfl, hb2⟩
    | some n =>
      rw [hm] at c2
      unfold toldM at c2
      have hn := minorL_le hm
      have c3 := text_any n (by omega) (by omega)
      clear hm
      dsimp only
      by_cases he : (textV n).toList = u.toList
      · have he' : ((textV n).toList == u.toList) = true := beq_iff_eq.2 he
        rw [if_pos he]
        generalize textV n = tv at *
        go_enter Tryd.func32, Tryd.ntmps32
        go_wp2_with (first | ((with_reducible refine (c1 _).mono ?_); rintro e w1 ⟨rfl, rfl⟩) | ((with_reducible refine (c2 _).mono ?_); rintro e w2 ⟨rfl, hb2⟩; have HB2 := Lib.hid hb2; clear hb2) | ((with_reducible refine (c3 _).mono ?_); rintro e w3 ⟨rfl, hb3⟩; have HB3 := Lib.hid hb3; clear hb3))
        go_ret
        exact ⟨rfl, HB2.out.trans (HB3.out.mono HB2.out.size)⟩
      · have he' : ((textV n).toList == u.toList) = false := beq_eq_false_iff_ne.2 he
        rw [if_neg he]
        generalize textV n = tv at *
        go_enter Tryd.func32, Tryd.ntmps32
        go_wp2_with (first | ((with_reducible refine (c1 _).mono ?_); rintro e w1 ⟨rfl, rfl⟩) | ((with_reducible refine (c2 _).mono ?_); rintro e w2 ⟨rfl, hb2⟩; have HB2 := Lib.hid hb2; clear hb2) | ((with_reducible refine (c3 _).mono ?_); rintro e w3 ⟨rfl, hb3⟩; have HB3 := Lib.hid hb3; clear hb3))
        go_ret
        exact ⟨rfl, HB2.out.trans (HB3.out.mono HB2.out.size)⟩
end Go.Proofs.YtojdhlmmnhjolaaDoor
