/- demoticref09: a quotient and a rest. -/
import Derived.Test.YtpdkebljacmgfaaDoorRef9e
namespace Go.Proofs.YtpdkebljacmgfaaDoor
open Go.RowKit
set_option linter.unusedVariables false

/-- So far divided: the first k figures. -/
structure DivAt (L : List UInt8) (m k : Nat) (u r : ByteArray) : Prop where
  len : u.size = k
  fig : u.data.toList.all figB = true
  quo : numL u.data.toList = numL (L.take k) / m
  rst : r.data.toList = Lib.decDigits (numL (L.take k) % m)
theorem DivAt.start (L : List UInt8) (m : Nat) : DivAt L m 0 ⟨#[]⟩ ⟨#[48]⟩ := ⟨rfl, rfl, by
  rw [List.take_zero, show numL [] = 0 from rfl, Nat.zero_div], by
  rw [List.take_zero, show numL [] = 0 from rfl, Nat.zero_mod]
  exact (Lib.decDigits_one (show (0 : Nat) < 10 by omega)).symm⟩
theorem DivAt.step {L : List UInt8} {m k T c d : Nat} {u r u' y : ByteArray} (h : DivAt L m k u r) (hm : m ≠ 0) (hn : numL (L.take (k + 1)) = numL (L.take k) * 10 + d) (hT : T = numL (L.take k) % m * 10 + d) (hle : c * m ≤ T) (hlt : T - c * m < m) (hc : c < 10) (hy : y.data.toList = Lib.decDigits (T - c * m)) (hu : u'.data.toList = u.data.toList ++ [UInt8.ofNat (48 + c)]) : DivAt L m (k + 1) u' y := by
  have hA := Nat.div_add_mod (numL (L.take k)) m
  have e : numL (L.take (k + 1)) = (T - c * m) + m * (numL (L.take k) / m * 10 + c) := by
    rw [hn, Nat.mul_add, Nat.mul_comm m c, ← Nat.mul_assoc]
    omega
  have hc48 : (UInt8.ofNat (48 + c)).toNat = 48 + c := u8_of (by omega)
  refine ⟨?_, ?_, ?_, ?_⟩
  · have := congrArg List.length hu
    rw [List.length_append] at this
    simp at this
    rw [this, h.len]
  · rw [hu, List.all_append, h.fig, Bool.true_and]
    simp [figB]
    omega
  · rw [hu, numL_snoc, h.quo, e, Nat.add_mul_div_left _ _ (by omega), Nat.div_eq_of_lt hlt, hc48]
    omega
  · rw [hy, e, Nat.add_mul_mod_self_left, Nat.mod_eq_of_lt hlt]
theorem take_num {s : ByteArray} {k : Nat} (hk : k < s.size) : numL (s.data.toList.take (k + 1)) = numL (s.data.toList.take k) * 10 + (bt s k - 48) := by
  rw [List.take_succ_eq_append_getElem (by simpa using hk), numL_snoc]
  have h1 := bt_list s k hk
  rw [List.getElem?_eq_getElem (by simpa using hk)] at h1
  rw [Option.some.inj h1, u8_of (bt_lt s k)]
theorem ext_one (s : ByteArray) {k : Nat} (hk : k < s.size) : (s.extract k (k + 1)).data.toList = [UInt8.ofNat (bt s k)] := by
  have h1 := bt_list s k hk
  rw [ByteArray.data_extract, Array.toList_extract, List.extract_eq_take_drop]
  rw [List.drop_eq_getElem_cons (by simpa using hk)]
  rw [List.getElem?_eq_getElem (by simpa using hk)] at h1
  rw [Option.some.inj h1, show k + 1 - k = 1 by omega]
  rfl
/-- A figure more behind what was left. -/
theorem more_rest {R d : Nat} {r x : ByteArray} (hr : r.data.toList = Lib.decDigits R) (hd : d < 10) (hx : x.data.toList = [UInt8.ofNat (48 + d)]) : (R = 0 → x.data.toList = Lib.decDigits (R * 10 + d)) ∧ (R ≠ 0 → (r ++ x).data.toList = Lib.decDigits (R * 10 + d)) := by
  constructor
  · intro h
    rw [hx, h, Nat.zero_mul, Nat.zero_add, Lib.decDigits_one hd]
  · intro h
    rw [ByteArray.data_append, Array.toList_append, hr, hx, dec_big (u := R * 10 + d) (by omega), show (R * 10 + d) / 10 = R by omega, show (R * 10 + d) % 10 = d by omega]
/-- What is left has no nought ahead. -/
theorem no_nought {X : ByteArray} {T : Nat} (h : X.data.toList = Lib.decDigits T) : decide ((1 : Int) < (X.size : Int)) = false ∨ (decide ((1 : Int) < (X.size : Int)) = true ∧ ∃ h0 : 0 < X.size, (((X[0].toNat : Nat) : Int) == 48) = false) := by
  have hz := text_size h
  have h0 := Lib.nDigits_pos T
  by_cases h1 : 1 < X.size
  · refine .inr ⟨decide_eq_true (by omega), by omega, ?_⟩
    have hT : T ≠ 0 := fun e => by
      subst e
      have := Lib.decDigits_one (show (0 : Nat) < 10 by omega)
      have := congrArg List.length this
      rw [Lib.decDigits_length] at this
      simp at this
      omega
    have h2 := dec_head T hT
    rw [← h, List.head?_eq_getElem?, bt_list X 0 (by omega)] at h2
    refine beq_eq_false_iff_ne.2 fun hc => h2 ?_
    rw [← bt_eq X 0 (by omega)] at hc
    rw [show bt X 0 = 48 by omega]
    rfl
  · exact .inl (decide_eq_false (by omega))
def tenD : ByteArray := ⟨#[48, 49, 50, 51, 52, 53, 54, 55, 56, 57]⟩
theorem tenD_one : ∀ c, c < 10 → (tenD.extract c (c + 1)).data.toList = [UInt8.ofNat (48 + c)] ∧ (tenD.extract c (c + 1)).size = 1 := by decide +kernel

/-- Figures, and noughts ahead of them. -/
theorem strip_case {u : ByteArray} {Q : Nat} (h1 : 1 ≤ u.size) (hf : u.data.toList.all figB = true) (hq : numL u.data.toList = Q) :
    (decide ((1 : Int) < (u.size : Int)) = true ∧ (∃ h0 : 0 < u.size, (((u[0].toNat : Nat) : Int) == 48) = true) ∧ 1 ≤ (u.extract 1 u.size).size ∧ (u.extract 1 u.size).size < u.size ∧ (u.extract 1 u.size).data.toList.all figB = true ∧ numL (u.extract 1 u.size).data.toList = Q) ∨
    (u = ⟨(Lib.decDigits Q).toArray⟩ ∧ (decide ((1 : Int) < (u.size : Int)) = false ∨ (decide ((1 : Int) < (u.size : Int)) = true ∧ ∃ h0 : 0 < u.size, (((u[0].toNat : Nat) : Int) == 48) = false))) := by
  have hb := bt_eq u 0 (by omega)
  have hlt := bt_lt u 0
  have hl := bt_list u 0 (by omega)
  have he := Lib.extract_to_end u 1
  have hlen : u.data.toList.length = u.size := by simp
  cases hu : u.data.toList with
  | nil => rw [hu] at hlen; simp at hlen; omega
  | cons a l =>
    rw [hu] at hl he hf hq hlen
    have ha : a = UInt8.ofNat (bt u 0) := by simpa using hl
    rw [List.drop_succ_cons, List.drop_zero] at he
    rw [List.all_cons, Bool.and_eq_true] at hf
    by_cases hc : 1 < u.size ∧ bt u 0 = 48
    · refine .inl ⟨decide_eq_true (by omega), ⟨by omega, by rw [← hb, hc.2]; rfl⟩, ?_, ?_, ?_, ?_⟩
      · rw [ByteArray.size_extract]; omega
      · rw [ByteArray.size_extract]; omega
      · rw [he]; exact hf.2
      · rw [he, ← hq, numL_cons, ha, hc.2]
        simp
    · refine .inr ⟨?_, ?_⟩
      · rw [← hq, ← bytes_of (s := u)]
        rw [hu]
        refine (dec_num _ ?_).symm
        unfold plainL
        rw [List.all_cons, hf.1, hf.2]
        by_cases h2 : 1 < u.size
        · have : a ≠ 48 := fun e => hc ⟨h2, by rw [e] at ha; have := congrArg UInt8.toNat ha; rw [u8_of hlt] at this; exact this.symm⟩
          simp [this]
        · have : l = [] := List.eq_nil_of_length_eq_zero (by simp at hlen; omega)
          subst this
          by_cases h3 : a = 48
          · subst h3; rfl
          · simp [h3]
      · by_cases h2 : 1 < u.size
        · exact .inr ⟨decide_eq_true (by omega), by omega, beq_eq_false_iff_ne.2 (by rw [← hb]; omega)⟩
        · exact .inl (decide_eq_false (by omega))
end Go.Proofs.YtpdkebljacmgfaaDoor
