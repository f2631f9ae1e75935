/- demoticlaw09: BigRests. -/
import Derived.Test.YtpdkebljacmgfaaDoorBig21
namespace Go.Proofs.YtpdkebljacmgfaaDoor
open Go.RowKit
set_option linter.unusedVariables false

/-- A number's text begins with - just if it is below 0. -/
theorem first_sign {s : ByteArray} {z : Int} (h : s.data.toList = Lib.itoa z) : 0 < s.size ∧ (s.toList == []) = false ∧ ∀ h0 : 0 < s.size, (((s[0].toNat : Nat) : Int) == 45) = decide (z < 0) := by
  have hlen : s.data.toList.length = s.size := by simp
  have hne : s.data.toList ≠ [] := by
    rw [h]
    unfold Lib.itoa
    split
    · simp
    · exact dec_ne _
  have h0 : 0 < s.size := by
    rcases Nat.eq_zero_or_pos s.size with h' | h'
    · exact absurd (List.eq_nil_of_length_eq_zero (by omega)) hne
    · exact h'
  refine ⟨h0, ?_, fun h1 => ?_⟩
  · rw [Lib.toList_data]; exact beq_eq_false_iff_ne.2 hne
  · have hb := bt_list s 0 h1
    have hbe := bt_eq s 0 h1
    rw [← hbe]
    have hh : s.data.toList.head? = some (UInt8.ofNat (bt s 0)) := by
      rw [List.head?_eq_getElem?, hb]
    have hlt := bt_lt s 0
    rw [h] at hh
    unfold Lib.itoa at hh
    by_cases hz : z < 0
    · rw [if_pos hz] at hh
      have := congrArg UInt8.toNat (Option.some.inj hh)
      rw [decide_eq_true hz]
      simp at this
      have h45 : (45 : UInt8).toNat = 45 := rfl
      exact beq_iff_eq.2 (by omega)
    · rw [if_neg hz] at hh
      rw [decide_eq_false hz]
      refine beq_eq_false_iff_ne.2 fun hc => ?_
      have : bt s 0 = 45 := by omega
      rw [this] at hh
      exact dec_no_sign _ hh

set_option maxRecDepth 100000 in
theorem unsigned_any (s : ByteArray) (z : Int) (h : s.data.toList = Lib.itoa z) (w : World) : Calls Tryd.prog 25 #[.string s] w fun e w' => ∃ u : ByteArray, e = .returned (.string u) ∧ u.data.toList = Lib.decDigits z.natAbs ∧ w = w' := by
  obtain ⟨h0, h1, h2⟩ := first_sign h
  have h3 := h2 h0
  have h4 : (s.toList != []) = true := by rw [bne, h1]; rfl
  have h5 : s.toList.isEmpty = false := by
    cases e : s.toList with
    | nil => rw [e] at h1; cases h1
    | cons _ _ => rfl
  by_cases hz : z < 0
  · have HU : Hid ((s.extract 1 s.size).data.toList = Lib.decDigits z.natAbs) := Lib.hid (by
      rw [Lib.extract_to_end, h]
      unfold Lib.itoa
      rw [if_pos hz]
      rfl)
    rw [decide_eq_true hz] at h3
    clear h h2 hz
    go_enter Tryd.func25, Tryd.ntmps25
    go_wp2
    go_ret
    exact ⟨_, rfl, HU.out, rfl⟩
  · have HU : Hid (s.data.toList = Lib.decDigits z.natAbs) := Lib.hid (by
      rw [h]
      unfold Lib.itoa
      rw [if_neg hz]
      congr 1
      omega)
    rw [decide_eq_false hz] at h3
    clear h h2 hz
    go_enter Tryd.func25, Tryd.ntmps25
    go_wp2
    go_ret
    exact ⟨_, rfl, HU.out, rfl⟩

theorem rest_none {a b : List UInt8} (h : readZ a = none ∨ readZ b = none ∨ readZ b = some 0) : diviP (fun x y : Int => x.tmod y) a b = ([], 1) := by
  unfold diviP
  by_cases hb : b = [48]
  · rw [if_pos hb]
  · rw [if_neg hb]
    unfold reckP
    rcases h with h | h | h
    · rw [h]
    · rw [h]; cases readZ a <;> rfl
    · exact absurd ((itoa_read h).1.trans nought_text.symm) hb

set_option maxHeartbeats 4000000 in
set_option maxRecDepth 1000000 in
theorem rests_walk (s t : ByteArray) (w : World) (htab : Tab w) : Calls Tryd.prog 10 #[.string s, .string t] w fun e w' => e = .returned (.bool true) ∧ Below w.heap.size w w' := by
  have R := Lib.hid (Rest_any s t w htab)
  have HT := Lib.hid htab
  clear htab
  by_cases hall : readZ s.data.toList = none ∨ readZ t.data.toList = none ∨ readZ t.data.toList = some 0
  · have hv := rest_none hall
    rw [hv] at R
    clear hall hv
    go_enter Tryd.func10, Tryd.ntmps10
    go_wp2_with fail
    refine R.out.mono ?_
    rintro e w1 ⟨rfl, hb⟩
    have HB1 := Lib.hid hb
    clear hb
    go_wp2_with fail
    refine (awake_any w1 (HT.out.below HB1.out)).mono ?_
    rintro e w3 ⟨rfl, hb⟩
    have HB3 := Lib.hid (HB1.out.trans (hb.mono HB1.out.size))
    clear hb
    go_wp2
    go_ret
    exact ⟨rfl, HB3.out⟩
  · obtain ⟨x, hx⟩ : ∃ x, readZ s.data.toList = some x := by
      cases h : readZ s.data.toList with
      | none => exact absurd (.inl h) hall
      | some x => exact ⟨x, rfl⟩
    obtain ⟨y, hy⟩ : ∃ y, readZ t.data.toList = some y := by
      cases h : readZ t.data.toList with
      | none => exact absurd (.inr (.inl h)) hall
      | some y => exact ⟨y, rfl⟩
    have hy0 : y ≠ 0 := fun h => hall (.inr (.inr (by rw [hy, h])))
    obtain ⟨hs, hxl⟩ := itoa_read hx
    obtain ⟨ht, hyl⟩ := itoa_read hy
    obtain ⟨z, hz⟩ : ∃ z, z = x.tmod y := ⟨_, rfl⟩
    have hzlt : z.natAbs < y.natAbs := by
      rw [hz, Int.natAbs_tmod]
      exact Nat.mod_lt _ (by omega)
    have hsg : z ≠ 0 → decide (z < 0) = decide (x < 0) := fun h => by
      have key : (z < 0 ↔ x < 0) := by
        by_cases hx0 : 0 ≤ x
        · have := Int.tmod_nonneg y hx0
          omega
        · have h1 : (-x).tmod y = -(x.tmod y) := Int.neg_tmod _ _
          have h2 := Int.tmod_nonneg y (show 0 ≤ -x by omega)
          omega
      rw [Bool.eq_iff_iff, decide_eq_true_eq, decide_eq_true_eq]
      exact key
    obtain ⟨r, hr⟩ := text_of z
    obtain ⟨f0, f1, f2⟩ := first_sign hr
    obtain ⟨g0, g1, g2⟩ := first_sign hs
    have f3 := f2 f0
    have g3 := g2 g0
    have HRD := Lib.hid (fun w1 e (he : ReckEnds w (diviP (fun x y : Int => x.tmod y) s.data.toList t.data.toList) e w1) => ends_div (u := r) he hx hy hy0 hz.symm (by omega) hr)
    have A1 := Lib.hid (fun W => unsigned_any r z hr W)
    have A2 := Lib.hid (fun W => unsigned_any t y ht W)
    have hrt : (r.toList == [48]) = decide (z = 0) := by
      rw [Lib.toList_data, hr, Bool.eq_iff_iff, beq_iff_eq, decide_eq_true_eq, nought_text]
      exact ⟨itoa_inj, fun h => by rw [h]⟩
    have hcases : ((r.toList == [48]) = true) ∨ ((r.toList == [48]) = false ∧ ∃ b : Bool, (((r[0].toNat : Nat) : Int) == 45) = b ∧ (((s[0].toNat : Nat) : Int) == 45) = b) := by
      by_cases h : z = 0
      · exact .inl (by rw [hrt]; exact decide_eq_true h)
      · exact .inr ⟨by rw [hrt]; exact decide_eq_false h, _, f3, by rw [g3, hsg h]⟩
    have HLT := Lib.hid hzlt
    have HYL := Lib.hid hyl
    clear hx hy hs ht hz hzlt hsg hr f1 f2 f3 g1 g2 g3 hrt hxl hyl hall
    rcases hcases with e0 | ⟨e0, b, e1, e2⟩
    all_goals
      go_enter Tryd.func10, Tryd.ntmps10
      go_wp2_with fail
      refine R.out.mono ?_
      intro e w1 he
      obtain ⟨rfl, hb⟩ := HRD.out w1 e he
      have HB1 := Lib.hid hb
      clear hb he R HRD
      go_wp2_with fail
      refine (A1.out w1).mono ?_
      rintro e w2 ⟨u1, rfl, hu1, rfl⟩
      have HU1 := Lib.hid hu1
      clear hu1
      go_wp2_with fail
      refine (A2.out w1).mono ?_
      rintro e w2 ⟨u2, rfl, hu2, rfl⟩
      have hu1 := HU1.out
      have HU2 := Lib.hid hu2
      have hcm : cmpP u1.data.toList u2.data.toList = -1 := by
        have i1 : u1.data.toList = Lib.itoa (z.natAbs : Nat) := by rw [hu1]; unfold Lib.itoa; rw [if_neg (by omega), Int.toNat_natCast]
        have i2 : u2.data.toList = Lib.itoa (y.natAbs : Nat) := by rw [hu2]; unfold Lib.itoa; rw [if_neg (by omega), Int.toNat_natCast]
        rw [cmp_some (read_back i1 (by have := HLT.out; have := HYL.out; omega)) (read_back i2 (by have := HYL.out; omega)), ordI_lt (by have := HLT.out; omega)]
      have CMP : ∀ q : Kept w1, Calls Tryd.prog 23 #[.string u1, .string u2] q.W fun e w'' => e = .returned (.int .i64 (-1)) ∧ ∃ y : Kept w1, w'' = y.W := fun q => kept_call (by have := Compare_any u1 u2 q.W; rw [hcm] at this; exact this)
      have AW : ∀ q : Kept w1, Calls Tryd.prog 17 #[] q.W fun e w'' => e = .returned (.bool true) ∧ ∃ y : Kept w1, w'' = y.W := fun q => kept_call (awake_any q.W ((HT.out.below HB1.out).below q.h))
      clear hu1 hu2 HU1 HU2 hcm A1 A2 HLT HYL hy0
      go_wp2_with fail
      refine wp_region_kept (by kernel_rfl) (by kernel_rfl) ?_
      repeat (go_big_quiet_step ((first | (go_at_call 23; exact CMP _) | (go_at_call 17; exact AW _))))
      refine wpQuiet_nil ?_
      rintro _ ⟨q, rfl⟩
      have HB9 := Lib.hid (HB1.out.trans (q.h.mono HB1.out.size))
      clear CMP AW
      go_wp2
      go_ret
      exact ⟨rfl, HB9.out⟩
end Go.Proofs.YtpdkebljacmgfaaDoor
