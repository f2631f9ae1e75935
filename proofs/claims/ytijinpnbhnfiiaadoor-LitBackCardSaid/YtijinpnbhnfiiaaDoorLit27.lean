/- A text written plainly means it; a plain number is it: pure. -/
import Derived.Test.YtijinpnbhnfiiaaDoorLit24
import Derived.Test.YtijinpnbhnfiiaaDoorLitQ
import Derived.Test.YtijinpnbhnfiiaaDoorLit20
namespace Go.Proofs.YtijinpnbhnfiiaaDoor
open Go.RowKit
set_option linter.unusedVariables false

/-! ### What Quote writes of a byte -/
def qL (c : Nat) : List UInt8 := (quotedB c).data.toList
def qOk (c : Nat) : Bool := match qL c with
  | [b] => b.toNat == c && decide (32 ≤ c) && decide (c ≤ 126) && !(c == 34) && !(c == 92)
  | [a, k] => a.toNat == 92 && decide (k.toNat < 128) && strokeR (k.toNat : Int) == some (c : Int)
  | [a, x, h, k] => a.toNat == 92 && x.toNat == 120 && decide (h.toNat < 128) && decide (k.toNat < 128) && digW (h.toNat : Int) 16 == ((c / 16 : Nat) : Int) && digW (k.toNat : Int) 16 == ((c % 16 : Nat) : Int)
  | _ => false
theorem qOk_all (c : Nat) (h : c < 256) : qOk c = true ∧ ∀ b ∈ qL c, 32 ≤ b.toNat ∧ b.toNat ≤ 126 := by
  have h1 : ∀ k : Fin 256, qOk k.val = true := by decide +kernel
  have h2 : ∀ k : Fin 256, (qL k.val).all (fun b => decide (32 ≤ b.toNat) && decide (b.toNat ≤ 126)) = true := by decide +kernel
  refine ⟨h1 ⟨c, h⟩, fun b hb => ?_⟩
  have := List.all_eq_true.1 (h2 ⟨c, h⟩) b hb
  simpa using this
theorem encode_one (c : Nat) (h : c < 128) : Lib.encodeRune (c : Int) = [UInt8.ofNat c] := by
  have : ∀ k : Fin 128, Lib.encodeRune ((k.val : Nat) : Int) = [UInt8.ofNat k.val] := by decide +kernel
  exact this ⟨c, h⟩
theorem stroke_x : strokeR 120 = none := by decide

theorem parts_step (t : ByteArray) (c : Nat) (hc : c < 256) (A C : List UInt8) (h : t.data.toList = A ++ (qL c ++ C)) (k : Nat) (l : List UInt8) : partsF t (k + 1) A.length l = partsF t k (A.length + (qL c).length) (l ++ [UInt8.ofNat c]) := by
  have hs := seg_bt t A (qL c) C h
  have hz : t.size = A.length + ((qL c).length + C.length) := by
    have := congrArg List.length h
    rw [List.length_append, List.length_append] at this
    exact this
  have hok := (qOk_all c hc).1
  unfold qOk at hok
  generalize hq : qL c = q at *
  match q, hok with
  | [b], hok =>
    simp only [Bool.and_eq_true, beq_iff_eq, decide_eq_true_eq, Bool.not_eq_true', beq_eq_false_iff_ne] at hok
    obtain ⟨⟨⟨⟨h1, h2⟩, h3⟩, h4⟩, h5⟩ := hok
    have b0 := hs 0 b rfl
    rw [Nat.add_zero, h1] at b0
    obtain ⟨e1, e2⟩ := sig_1 t A.length (by omega)
    rw [partsF, if_pos (by simp at hz; omega), e1, e2, b0, if_neg (by omega), if_neg (by omega), encode_one c (by omega)]
    rfl
  | [a, x], hok =>
    simp only [Bool.and_eq_true, beq_iff_eq, decide_eq_true_eq] at hok
    obtain ⟨⟨h1, h2⟩, h3⟩ := hok
    have b0 := hs 0 a rfl
    have b1 := hs 1 x rfl
    rw [Nat.add_zero, h1] at b0
    obtain ⟨e1, e2⟩ := sig_1 t A.length (by omega)
    obtain ⟨f1, f2⟩ := sig_1 t (A.length + 1) (by omega)
    have hst : strokeP t (A.length + 1) l = some (A.length + 1 + 1, l ++ [UInt8.ofNat c]) := by
      unfold strokeP signP
      rw [if_pos (by simp at hz; omega)]
      dsimp only
      unfold strokeB
      rw [f1, f2, b1, h3]
      dsimp only
      unfold b8
      rw [show ((c : Int) % 256).toNat = c by omega]
    rw [partsF, if_pos (by simp at hz; omega), e1, e2, b0, if_neg (by omega), if_pos rfl, hst]
    rfl
  | [a, x, y, z], hok =>
    simp only [Bool.and_eq_true, beq_iff_eq, decide_eq_true_eq] at hok
    obtain ⟨⟨⟨⟨⟨h1, h2⟩, h3⟩, h4⟩, h5⟩, h6⟩ := hok
    have b0 := hs 0 a rfl
    have b1 := hs 1 x rfl
    have b2 := hs 2 y rfl
    have b3 := hs 3 z rfl
    rw [Nat.add_zero, h1] at b0
    rw [h2] at b1
    have hz' : t.size = A.length + (4 + C.length) := by simpa using hz
    obtain ⟨e1, e2⟩ := sig_1 t A.length (by omega)
    obtain ⟨f1, f2⟩ := sig_1 t (A.length + 1) (by omega)
    have hu : (t.extract (A.length + 1 + 1) (A.length + 1 + 1 + 2)).size = 2 := by rw [ext_size _ _ _ (by omega)]; omega
    have u0 := bt_ext t (A.length + 1 + 1) (A.length + 1 + 1 + 2) 0 (by omega) (by omega)
    have u1 := bt_ext t (A.length + 1 + 1) (A.length + 1 + 1 + 2) 1 (by omega) (by omega)
    rw [show A.length + 1 + 1 + 0 = A.length + 2 by omega, b2] at u0
    rw [show A.length + 1 + 1 + 1 = A.length + 3 by omega, b3] at u1
    have hd : digF (t.extract (A.length + 1 + 1) (A.length + 1 + 1 + 2)) 16 2 0 0 = some (c : Int) := by
      generalize t.extract (A.length + 1 + 1) (A.length + 1 + 1 + 2) = u at *
      obtain ⟨g1, g2⟩ := sig_1 u 0 (by omega)
      obtain ⟨g3, g4⟩ := sig_1 u 1 (by omega)
      rw [digF, if_pos (by omega), g1, g2, u0, show ((16 : Nat) : Int) = 16 from rfl, h5, if_pos (by omega), digF, if_pos (by omega), Nat.zero_add, g3, g4, u1, show ((16 : Nat) : Int) = 16 from rfl, h6, if_pos (by omega), digF]
      congr 1
      omega
    have hst : strokeP t (A.length + 1) l = some (A.length + 1 + 1 + 2, l ++ [UInt8.ofNat c]) := by
      unfold strokeP signP
      rw [if_pos (by omega)]
      dsimp only
      unfold strokeB
      rw [f1, f2, b1, show ((120 : Nat) : Int) = 120 from rfl, stroke_x]
      dsimp only
      rw [if_pos rfl]
      unfold digitsP
      rw [if_pos (by omega), hd]
      show some (A.length + 1 + 1 + 2, l ++ [b8 c]) = _
      unfold b8
      rw [show ((c : Int) % 256).toNat = c by omega]
    rw [partsF, if_pos (by omega), e1, e2, b0, if_neg (by omega), if_pos rfl, hst]
    rfl

theorem qL_pos (c : Nat) (h : c < 256) : 0 < (qL c).length := by
  have := (qOk_all c h).1
  unfold qOk at this
  split at this
  all_goals first
    | (rename_i e; rw [e]; simp)
    | cases this
theorem parts_all (t : ByteArray) : ∀ (rest A l : List UInt8) k, t.data.toList = A ++ rest.flatMap (fun c => qL c.toNat) → t.size ≤ A.length + k → partsF t k A.length l = some (l ++ rest)
  | [], A, l, k, h, hk => by
    have hz : t.size = A.length := by
      have := congrArg List.length h
      simpa using this
    rw [List.append_nil]
    cases k with
    | zero => rfl
    | succ k => rw [partsF, if_neg (by omega)]
  | c :: rest, A, l, k, h, hk => by
    rw [List.flatMap_cons] at h
    have hp := qL_pos c.toNat c.toNat_lt
    have hz : t.size = A.length + ((qL c.toNat).length + (rest.flatMap (fun c => qL c.toNat)).length) := by
      have := congrArg List.length h
      rw [List.length_append, List.length_append] at this
      exact this
    obtain ⟨k, rfl⟩ : ∃ k', k = k' + 1 := ⟨k - 1, by omega⟩
    rw [parts_step t c.toNat c.toNat_lt A _ h k l]
    have := parts_all t rest (A ++ qL c.toNat) (l ++ [UInt8.ofNat c.toNat]) k (by rw [h, List.append_assoc]) (by rw [List.length_append]; omega)
    rw [List.length_append] at this
    rw [this]
    simp

theorem quoteM_eq (s : ByteArray) : quoteM s = s.data.toList.flatMap fun c => qL c.toNat := rfl
theorem quoteB_list (s : ByteArray) : (quoteB s).data.toList = 34 :: (quoteM s ++ [34]) := by rw [quoteB_flat]
theorem quoteB_ok (s : ByteArray) (i : Nat) (hi : i < (quoteB s).size) : 32 ≤ bt (quoteB s) i ∧ bt (quoteB s) i ≤ 126 := by
  have h1 := bt_list (quoteB s) i hi
  have h2 := List.mem_of_getElem? h1
  rw [quoteB_list] at h2
  have hlt := bt_lt (quoteB s) i
  have e : (UInt8.ofNat (bt (quoteB s) i)).toNat = bt (quoteB s) i := by simp; omega
  rw [← e]
  rcases List.mem_cons.1 h2 with h | h
  · rw [h]; decide
  · rcases List.mem_append.1 h with h | h
    · rw [quoteM_eq] at h
      obtain ⟨c, _, hc⟩ := List.mem_flatMap.1 h
      exact (qOk_all c.toNat c.toNat_lt).2 _ hc
    · rw [List.mem_singleton.1 h]; decide

/-- What is written plainly means what was written. -/
theorem quote_back (s : ByteArray) (h : s.size ≤ 2000) : txtR (quoteB s) = (s, 0) := by
  have hz := quoteB_size s
  have hle := quoteB_le s h
  have b0 : bt (quoteB s) 0 = 34 := bt_of_list _ 0 34 (by rw [quoteB_list]; rfl)
  have bl : bt (quoteB s) ((quoteB s).size - 1) = 34 := by
    refine bt_of_list _ _ 34 ?_
    rw [quoteB_list, hz, show (quoteM s).length + 2 - 1 = (quoteM s).length + 1 by omega, List.getElem?_cons_succ, List.getElem?_append_right (Nat.le_refl _), Nat.sub_self]
    rfl
  have hv := valid_low (quoteB s) (fun i hi => by have := quoteB_ok s i hi; omega) (quoteB s).size 0 (Nat.zero_le _) (by omega)
  have hw : wrongR (quoteB s) < 0 := by
    obtain ⟨f, hf, hw⟩ := hv
    unfold wrongR
    rw [wrongF_more _ _ f 0 (by omega) hf, hw]
    omega
  have hin : ((quoteB s).extract 1 ((quoteB s).size - 1)).data.toList = quoteM s := by
    rw [ByteArray.data_extract, Array.toList_extract, quoteB_list, List.extract_eq_take_drop, hz]
    show List.take ((quoteM s).length + 2 - 1 - 1) (quoteM s ++ [34]) = _
    rw [show (quoteM s).length + 2 - 1 - 1 = (quoteM s).length by omega, List.take_left]
  have hp := parts_all ((quoteB s).extract 1 ((quoteB s).size - 1)) s.data.toList [] [] ((quoteB s).extract 1 ((quoteB s).size - 1)).size (by rw [hin]; rfl) (by simp)
  have hP : partsP ((quoteB s).extract 1 ((quoteB s).size - 1)) = some s := by
    unfold partsP
    have hp' : partsF ((quoteB s).extract 1 ((quoteB s).size - 1)) ((quoteB s).extract 1 ((quoteB s).size - 1)).size 0 [] = some s.data.toList := hp
    rw [hp']
    rfl
  unfold txtR
  rw [if_neg (by omega)]
  unfold textP
  rw [if_pos ⟨by omega, by omega, hw⟩, if_pos b0, hP]
  rfl

/-! ### Plain numbers -/
theorem plainF_bytes (s : ByteArray) : ∀ k p, plainF s k p = true → s.size ≤ p + k → ∀ i, p ≤ i → i < s.size → 48 ≤ bt s i ∧ bt s i ≤ 57
  | 0, p, h, hk, i, h1, h2 => by omega
  | k + 1, p, h, hk, i, h1, h2 => by
    rw [plainF, if_pos (by omega)] at h
    split at h
    · cases h
    · rename_i hc
      rcases sign_kind s p with ⟨e1, e2, e3⟩ | ⟨e1, e2, e3⟩
      · rw [e1] at h
        by_cases hi : i = p
        · subst hi; omega
        · exact plainF_bytes s k (p + 1) h (by omega) i (by omega) h2
      · omega
theorem plain_bytes (s : ByteArray) (h : plainB s = true) : 0 < s.size ∧ s.size ≤ 200 ∧ (bt s 0 = 48 → s.size = 1) ∧ ∀ i, i < s.size → 48 ≤ bt s i ∧ bt s i ≤ 57 := by
  unfold plainB at h
  split at h
  · cases h
  · rename_i hc
    refine ⟨by omega, by omega, fun h0 => by omega, fun i hi => plainF_bytes s s.size 0 h (by omega) i (Nat.zero_le _) hi⟩

/-- The worths of the figures ahead of p, the last one first. -/
def figsL (s : ByteArray) : Nat → List Nat
  | 0 => []
  | p + 1 => (bt s p - 48) :: figsL s p
theorem figsL_len (s : ByteArray) : ∀ p, (figsL s p).length = p
  | 0 => rfl
  | p + 1 => by rw [figsL, List.length_cons, figsL_len s p]
theorem figsL_lt (s : ByteArray) (h : ∀ i, i < s.size → 48 ≤ bt s i ∧ bt s i ≤ 57) : ∀ p, p ≤ s.size → ∀ x ∈ figsL s p, x < 10
  | 0, hp, x, hx => by cases hx
  | p + 1, hp, x, hx => by
    rw [figsL] at hx
    rcases List.mem_cons.1 hx with e | hx
    · have := h p (by omega); omega
    · exact figsL_lt s h p (by omega) x hx
theorem figsL_nz (s : ByteArray) (h : ∀ i, i < s.size → 48 ≤ bt s i ∧ bt s i ≤ 57) (h0 : bt s 0 ≠ 48) : ∀ p, p ≤ s.size → NZ (figsL s p)
  | 0, hp => NZ.nil
  | p + 1, hp => by
    rw [figsL]
    refine (figsL_nz s h h0 p (by omega)).cons fun e => ?_
    have : p = 0 := by
      have := figsL_len s p
      rw [e] at this
      exact this.symm
    subst this
    have := h 0 (by omega)
    omega
/-- One figure more. -/
theorem growN_push : ∀ (l : List Nat) (m : Nat), (∀ x ∈ l, x < 10) → NZ l → l ≠ [] → m < 10 → growN 10 l m = m :: l
  | [], m, h1, h2, h3, h4 => absurd rfl h3
  | f :: l, m, h1, h2, h3, h4 => by
    rw [growN, show (m + f * 10) % 10 = m by omega, show (m + f * 10) / 10 = f by omega]
    have hf := h1 f (List.mem_cons_self ..)
    by_cases hl : l = []
    · subst hl
      have hf0 : f ≠ 0 := h2 (by simp)
      show m :: tailN f f = _
      obtain ⟨k, rfl⟩ : ∃ k, f = k + 1 := ⟨f - 1, by omega⟩
      rw [tailN, if_neg (by omega), Nat.mod_eq_of_lt (by omega), Nat.div_eq_of_lt (by omega)]
      cases k with
      | zero => rfl
      | succ k => rw [tailN, if_pos rfl]
    · rw [growN_push l f (fun x hx => h1 x (List.mem_cons_of_mem _ hx)) h2.tail hl hf]
theorem tailN_one (m : Nat) (h0 : m ≠ 0) (h : m < 10) : tailN m m = [m] := by
  obtain ⟨k, rfl⟩ : ∃ k, m = k + 1 := ⟨m - 1, by omega⟩
  rw [tailN, if_neg h0, Nat.mod_eq_of_lt h, Nat.div_eq_of_lt h]
  cases k with
  | zero => rfl
  | succ k => rw [tailN, if_pos rfl]

theorem digW_fig (c : Nat) (h : 48 ≤ c ∧ c ≤ 57) : digW (c : Int) ((10 : Nat) : Int) = ((c - 48 : Nat) : Int) := by
  unfold digW
  rw [if_pos (by omega)]
  omega
theorem numF_plain (s : ByteArray) (h : ∀ i, i < s.size → 48 ≤ bt s i ∧ bt s i ≤ 57) (h0 : bt s 0 ≠ 48) : ∀ k p a, p ≤ s.size → s.size ≤ p + k → (p = 0 ∨ (48 ≤ a ∧ a ≤ 57)) → 0 < s.size →
    ∃ b : Int, 48 ≤ b ∧ b ≤ 57 ∧ numF s 10 k p a (figsL s p) = some (b, figsL s s.size)
  | 0, p, a, hp, hk, ha, hz => by
    obtain rfl : p = s.size := by omega
    rcases ha with e | ⟨h1, h2⟩
    · omega
    · exact ⟨a, h1, h2, rfl⟩
  | k + 1, p, a, hp, hk, ha, hz => by
    by_cases hlt : p < s.size
    · have hb := h p hlt
      obtain ⟨e1, e2⟩ := sig_1 s p (by omega)
      obtain ⟨b, h1, h2, h3⟩ := numF_plain s h h0 k (p + 1) (bt s p : Int) (by omega) (by omega) (.inr (by omega)) hz
      refine ⟨b, h1, h2, ?_⟩
      have hd := digW_fig (bt s p) hb
      rw [numF, if_pos hlt, e1, e2, if_neg (by omega), hd, if_pos (by omega), Int.toNat_natCast]
      rw [show growN 10 (figsL s p) (bt s p - 48) = figsL s (p + 1) from ?_]
      · exact h3
      · rw [figsL]
        by_cases hp0 : p = 0
        · subst hp0
          exact tailN_one _ (by omega) (by omega)
        · exact growN_push _ _ (figsL_lt s h p (by omega)) (figsL_nz s h h0 p (by omega)) (fun e => by have := figsL_len s p; rw [e] at this; exact hp0 this.symm) (by omega)
    · obtain rfl : p = s.size := by omega
      rcases ha with e | ⟨h1, h2⟩
      · omega
      · exact ⟨a, h1, h2, by rw [numF, if_neg hlt]⟩

theorem figsL_rev (s : ByteArray) (h : ∀ i, i < s.size → 48 ≤ bt s i ∧ bt s i ≤ 57) : ∀ p, p ≤ s.size → (figsL s p).reverse.map (fun d => UInt8.ofNat (48 + d)) = s.data.toList.take p
  | 0, hp => rfl
  | p + 1, hp => by
    have hb := h p (by omega)
    have hlt : p < s.data.toList.length := by show p < s.size; omega
    rw [figsL, List.reverse_cons, List.map_append, figsL_rev s h p (by omega), List.take_succ_eq_append_getElem hlt]
    congr 1
    have h1 := bt_list s p (by omega)
    rw [List.getElem?_eq_getElem hlt] at h1
    rw [Option.some.inj h1]
    show [UInt8.ofNat (48 + (bt s p - 48))] = _
    rw [show 48 + (bt s p - 48) = bt s p by omega]

/-- A plain number means itself. -/
theorem plain_back (s : ByteArray) (h : plainB s = true) : numR s = (s, 0) := by
  obtain ⟨h0, h2, h1, hb⟩ := plain_bytes s h
  have hsp : splitN s = (10, 0) := by
    unfold splitN
    rw [if_pos]
    by_cases e : bt s 0 = 48
    · left; have := h1 e; omega
    · exact .inr e
  by_cases e : bt s 0 = 48
  · have hz := h1 e
    have : s = ⟨#[48]⟩ := ba_ext _ _ (by rw [hz]; rfl) (fun i hi => by
      obtain rfl : i = 0 := by omega
      rw [e]; rfl)
    rw [this]
    decide +kernel
  · obtain ⟨b, g1, g2, g3⟩ := numF_plain s hb e s.size 0 95 (Nat.zero_le _) (by omega) (.inl rfl) h0
    unfold numR
    rw [if_neg (by omega)]
    unfold numberP
    rw [hsp]
    dsimp only
    rw [if_pos rfl, ext_self, show figsL s 0 = [] from rfl] at *
    rw [show numF s 10 s.size 0 95 [] = some (b, figsL s s.size) from g3]
    have hw : writtenB (figsL s s.size) = s := by
      unfold writtenB
      rw [if_neg (by rw [figsL_len]; omega)]
      apply ByteArray.ext
      apply Array.ext'
      show writtenL (figsL s s.size) = _
      unfold writtenL
      rw [figsL_rev s hb s.size (Nat.le_refl _)]
      exact List.take_of_length_le (by show s.size ≤ s.size; omega)
    show meantV (if s.size = 0 ∨ b = 95 then none else some (writtenB (figsL s s.size))) = _
    rw [if_neg (by omega), hw]
    rfl
end Go.Proofs.YtijinpnbhnfiiaaDoor
