/- demoticref09: a quotient and a rest, walked. -/
import Derived.Test.YtpdkebljacmgfaaDoorRef9f
namespace Go.Proofs.YtpdkebljacmgfaaDoor
open Go.RowKit
set_option linter.unusedVariables false

theorem pair_same {a b c d : ByteArray} (h : a = b) (h2 : c = d) : Ending.returned (.tuple #[.string a, .string c]) = Ending.returned (.tuple #[.string b, .string d]) := by rw [h, h2]
set_option maxHeartbeats 4000000 in
set_option maxRecDepth 100000 in
theorem refDivide_any (s t : ByteArray) (n m : Nat) (hs : s.data.toList = Lib.decDigits n) (ht : t.data.toList = Lib.decDigits m) (hm : m ≠ 0) (h1 : s.size ≤ 900) (h2 : t.size ≤ 900) (w : World) :
    Calls Tryd.prog 56 #[.string s, .string t] w fun e w' => e = .returned (.tuple #[.string ⟨(Lib.decDigits (n / m)).toArray⟩, .string ⟨(Lib.decDigits (n % m)).toArray⟩]) ∧ Below w.heap.size w w' := by
  have HS := Lib.hid hs
  have HT := Lib.hid ht
  have HM := Lib.hid hm
  have hs0 : 0 < s.size := by rw [text_size hs]; exact Lib.nDigits_pos n
  have HST : Hid (DivAt s.data.toList m 0 ⟨#[]⟩ ⟨#[48]⟩) := Lib.hid (DivAt.start _ _)
  clear hs ht hm
  go_enter Tryd.func56, Tryd.ntmps56
  go_wp2
  go_loopw [6, 7, 8, 9] (fun uv rv iv _ wr => ∃ (k : Nat) (u r : ByteArray), uv = .string u ∧ rv = .string r ∧ iv = .int .i64 k ∧ k ≤ s.size ∧ Hid (DivAt s.data.toList m k u r) ∧ Hid (Below w.heap.size w wr)) (fun _ _ iv _ _ => s.size - (intOf iv).toNat)
  case atStart => exact ⟨0, _, _, rfl, rfl, rfl, Nat.zero_le _, HST, Lib.hid (Below.refl _ _)⟩
  case round =>
    clear HST
    obtain ⟨k, u, r, rfl, rfl, rfl, hk, HD, HB⟩ := hrel
    by_cases hlt : k < s.size
    · have hus : u.size = k := HD.out.len
      obtain ⟨R, hR⟩ : ∃ R, R = numL (s.data.toList.take k) % m := ⟨_, rfl⟩
      have hRm : R < m := by rw [hR]; exact Nat.mod_lt _ (by have := HM.out; omega)
      have hr : r.data.toList = Lib.decDigits R := by rw [hR]; exact HD.out.rst
      have hbyte : 48 ≤ bt s k ∧ bt s k ≤ 57 := by
        have h3 := dec_all n
        rw [← HS.out] at h3
        have h4 := List.all_eq_true.1 h3 _ (List.mem_of_getElem? (bt_list s k hlt))
        have h5 := of_decide_eq_true h4
        rwa [u8_of (bt_lt s k)] at h5
      obtain ⟨d, hd⟩ : ∃ d, bt s k = 48 + d := ⟨bt s k - 48, by omega⟩
      have hd10 : d < 10 := by omega
      obtain ⟨x, hx⟩ : ∃ x, x = s.extract k (k + 1) := ⟨_, rfl⟩
      have hx1 : x.data.toList = [UInt8.ofNat (48 + d)] := by rw [hx, ext_one s hlt, hd]
      have hxs : x.size = 1 := by have := congrArg List.length hx1; simpa using this
      have hmore := more_rest hr hd10 hx1
      obtain ⟨T, hT⟩ : ∃ T, T = R * 10 + d := ⟨_, rfl⟩
      have hTm : T < 10 * m := by omega
      have hrs : r.size ≤ 900 := by
        rw [text_size hr]
        refine Nat.le_trans ?_ (Nat.le_trans (Nat.le_of_eq (text_size HT.out).symm) h2)
        rcases Nat.lt_or_ge (Lib.nDigits m) (Lib.nDigits R) with h | h
        · have := nd_mono h; omega
        · exact h
      have hnought := nought_list r R hr
      have HNUM : Hid (numL (s.data.toList.take (k + 1)) = numL (s.data.toList.take k) * 10 + d) := Lib.hid (by rw [take_num hlt, hd]; congr 1; omega)
      have HTR : Hid (T = numL (s.data.toList.take k) % m * 10 + d) := Lib.hid (by rw [← hR]; exact hT)
      rw [← hT] at hmore
      clear hR hr hbyte hd hx1 hRm
      have hcase : ∃ X : ByteArray, Hid (X.data.toList = Lib.decDigits T) ∧ X.size ≤ 901 ∧ (((r.toList == [48]) = true ∧ (Op.stringOp .add ⟨#[]⟩ x).run Tryd.prog wr = .ok (.string X) wr) ∨ ((r.toList == [48]) = false ∧ (Op.stringOp .add r x).run Tryd.prog wr = .ok (.string X) wr)) := by
        by_cases h0 : R = 0
        · exact ⟨(⟨#[]⟩ : ByteArray) ++ x, Lib.hid (by rw [ByteArray.data_append, Array.toList_append]; exact hmore.1 h0), by rw [ByteArray.size_append]; show 0 + _ ≤ _; omega, .inl ⟨by rw [hnought, decide_eq_true h0], run_string_add_sum (P := Tryd.prog) wr ⟨#[]⟩ x (by show 0 + _ ≤ _; omega)⟩⟩
        · exact ⟨r ++ x, Lib.hid (hmore.2 h0), by rw [ByteArray.size_append]; omega, .inr ⟨by rw [hnought, decide_eq_false h0], run_string_add_sum (P := Tryd.prog) wr r x (by omega)⟩⟩
      clear hmore hT hnought
      subst hx
      obtain ⟨X, HX, hXs, hcase⟩ := hcase
      have hnn := no_nought HX.out
      have HDX := Lib.hid hd10
      clear hd10
      rcases hcase with ⟨q1, q2⟩ | ⟨q1, q2⟩
      all_goals
        rcases hnn with g1 | ⟨g1, g2, g3⟩
        all_goals
          go_wp2
          go_loopw [7, 9] (fun yv cv wq => ∃ (c : Nat) (y : ByteArray), yv = .string y ∧ cv = .int .i64 c ∧ c ≤ 9 ∧ Hid (c * m ≤ T) ∧ Hid (y.data.toList = Lib.decDigits (T - c * m)) ∧ y.size ≤ 901 ∧ Hid (Below w.heap.size w wq)) (fun _ cv _ => 10 - (intOf cv).toNat)
          case atStart => exact ⟨0, X, rfl, rfl, by omega, Lib.hid (by omega), Lib.hid (by rw [Nat.zero_mul, Nat.sub_zero]; exact HX.out), hXs, HB⟩
          case round =>
            obtain ⟨c, y, rfl, rfl, hc, HC, HY, hys, HBQ⟩ := hrel
            have CB := Lib.hid (refBelow_any y t (T - c * m) m HY.out HT.out wr)
            by_cases hb : T - c * m < m
            · rw [decide_eq_true hb] at CB
              have HBB := Lib.hid hb
              have ht1 := tenD_one c (by omega)
              obtain ⟨U, hU⟩ : ∃ U, U = u ++ tenD.extract c (c + 1) := ⟨_, rfl⟩
              have KA : ∀ W, (Op.stringOp .add u ((⟨#[48, 49, 50, 51, 52, 53, 54, 55, 56, 57]⟩ : ByteArray).extract c (c + 1))).run Tryd.prog W = .ok (.string U) W := fun W => by
                have := run_string_add_sum (P := Tryd.prog) W u (tenD.extract c (c + 1)) (by omega)
                rw [← hU] at this
                exact this
              have HDD : Hid (DivAt s.data.toList m (k + 1) U y) := Lib.hid (HD.out.step HM.out HNUM.out HTR.out HC.out HBB.out (by omega) HY.out (by rw [hU, ByteArray.data_append, Array.toList_append, ht1.1]))
              clear hb ht1 hU g1 q1 q2
              go_wp2_with fail
              refine CB.out.mono ?_
              rintro _ _ ⟨rfl, rfl⟩
              go_wp2
              go_roundw
              case rel => exact ⟨k + 1, U, y, rfl, rfl, by go_num, by omega, HDD, HBQ⟩
              case measure => simp [intOf]; omega
            · rw [decide_eq_false hb] at CB
              have HBB := Lib.hid hb
              have hc8 : c + 1 ≤ 9 := by
                have h9 : (9 : Nat) * m ≤ T ∨ c < 9 := by
                  by_cases h : c = 9
                  · subst h; exact .inl HC.out
                  · exact .inr (by omega)
                rcases h9 with h | h
                · rcases Nat.lt_or_ge c 9 with h' | h'
                  · omega
                  · have : c = 9 := by omega
                    subst this
                    omega
                · omega
              have CT := Lib.hid (refTake_any y t (T - c * m) m HY.out HT.out (by omega) (by omega) (by omega) wr)
              have HC2 : Hid ((c + 1) * m ≤ T) := Lib.hid (by rw [Nat.succ_mul]; have := HC.out; omega)
              have HE : Hid (T - c * m - m = T - (c + 1) * m) := Lib.hid (by rw [Nat.succ_mul]; omega)
              have hsz : (⟨(Lib.decDigits (T - c * m - m)).toArray⟩ : ByteArray).size ≤ 901 := by
                rw [text_size (n := T - c * m - m) rfl]
                refine Nat.le_trans ?_ hys
                rw [text_size HY.out]
                rcases Nat.lt_or_ge (Lib.nDigits (T - c * m)) (Lib.nDigits (T - c * m - m)) with h | h
                · have := nd_mono h; omega
                · exact h
              clear hb g1 q1 q2
              go_wp2_with fail
              refine CB.out.mono ?_
              rintro _ _ ⟨rfl, rfl⟩
              go_wp2_with fail
              refine CT.out.mono ?_
              rintro _ w3 ⟨rfl, hbw⟩
              have HB3 := Lib.hid (HBQ.out.trans (hbw.mono HBQ.out.size))
              clear hbw CT
              go_wp2
              go_roundw
              case rel => exact ⟨c + 1, _, rfl, by go_num, hc8, HC2, Lib.hid (by rw [← HE.out]), hsz, HB3⟩
              case measure => simp [intOf]; omega
    · obtain rfl : k = s.size := by omega
      have hq : numL u.data.toList = n / m := by
        rw [HD.out.quo, List.take_of_length_le (by simp), HS.out, numL_dec]
      have HR : Hid (r = ⟨(Lib.decDigits (n % m)).toArray⟩) := Lib.hid (bytes_of (by rw [HD.out.rst, List.take_of_length_le (by simp), HS.out, numL_dec]))
      have HST2 : Hid (u.data.toList.all figB = true ∧ numL u.data.toList = n / m) := Lib.hid ⟨HD.out.fig, hq⟩
      have hus : u.size = s.size := HD.out.len
      clear hq HD
      go_wp2
      go_loop [6] (fun uv => ∃ u : ByteArray, uv = .string u ∧ 1 ≤ u.size ∧ u.size ≤ s.size ∧ Hid (u.data.toList.all figB = true ∧ numL u.data.toList = n / m)) (fun uv => match uv with | .string u => u.size | _ => 0)
      case atStart => exact ⟨u, rfl, by omega, by omega, HST2⟩
      case round =>
        clear HST2 hus
        obtain ⟨v, rfl, hv1, hv2, HV⟩ := hrel
        rcases strip_case hv1 HV.out.1 HV.out.2 with ⟨g1, ⟨g2, g3⟩, g4, g5, g6, g7⟩ | ⟨e1, e2⟩
        · have HV2 := Lib.hid (And.intro g6 g7)
          clear g6 g7
          go_wp2
          go_round
          case rel => exact ⟨_, rfl, g4, by omega, HV2⟩
          case measure => exact g5
        · have HE1 := Lib.hid e1
          clear e1
          rcases e2 with g1 | ⟨g1, g2, g3⟩
          all_goals
            go_wp2
            go_ret2
            exact ⟨pair_same HE1.out HR.out, HB.out⟩
end Go.Proofs.YtpdkebljacmgfaaDoor
