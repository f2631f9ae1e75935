/- Whole numbers as figures: pure. -/
import Derived.Test.YtpdkebljacmgfaaDoorBigP
namespace Go.Proofs.YtpdkebljacmgfaaDoor
open Go.Lib
set_option linter.unusedVariables false

/-! ### Figures of a digit, with noughts ahead -/
def padN : Nat → Nat → List UInt8
  | 0, _ => []
  | k + 1, d => padN k (d / 10) ++ [UInt8.ofNat (48 + d % 10)]
theorem dec_big {u : Nat} (h : ¬ u < 10) : decDigits u = decDigits (u / 10) ++ [UInt8.ofNat (48 + u % 10)] := by rw [decDigits, dif_neg h]
theorem dec_pad : ∀ (k n d : Nat), 0 < n → d < 10 ^ k → decDigits (n * 10 ^ k + d) = decDigits n ++ padN k d
  | 0, n, d, hn, hd => by
    have : d = 0 := by simpa using hd
    subst this
    simp [padN]
  | k + 1, n, d, hn, hd => by
    have hp : 1 ≤ 10 ^ k := Nat.one_le_pow _ _ (by decide)
    rw [Nat.pow_succ] at hd ⊢
    have hm : 10 ^ k ≤ n * 10 ^ k := Nat.le_mul_of_pos_left _ hn
    have e0 : n * (10 ^ k * 10) = (n * 10 ^ k) * 10 := by rw [Nat.mul_assoc]
    rw [e0, dec_big (by omega), show (n * 10 ^ k * 10 + d) / 10 = n * 10 ^ k + d / 10 by omega, show (n * 10 ^ k * 10 + d) % 10 = d % 10 by omega, dec_pad k n (d / 10) hn (by omega), padN, List.append_assoc]
theorem pad_zero : ∀ k, padN k 0 = List.replicate k 48
  | 0 => rfl
  | k + 1 => by
    rw [padN, show 0 / 10 = 0 from rfl, pad_zero k, List.replicate_succ']
    rfl
theorem pad_eq : ∀ (k d : Nat), d < 10 ^ (k + 1) → nDigits d ≤ k + 1 ∧ padN (k + 1) d = List.replicate (k + 1 - nDigits d) 48 ++ decDigits d
  | 0, d, h => by
    have h : d < 10 := by simpa using h
    rw [nDigits_small h, decDigits_one h, padN, padN, Nat.mod_eq_of_lt h]
    simp
  | k + 1, d, h => by
    rw [padN]
    by_cases h1 : d < 10
    · rw [nDigits_small h1, decDigits_one h1, show d / 10 = 0 by omega, pad_zero, Nat.mod_eq_of_lt h1]
      exact ⟨by omega, rfl⟩
    · obtain ⟨e1, e2⟩ := pad_eq k (d / 10) (by rw [Nat.pow_succ] at h; omega)
      rw [nDigits_big h1, dec_big h1, e2, List.append_assoc, show k + 1 + 1 - (nDigits (d / 10) + 1) = k + 1 - nDigits (d / 10) by omega]
      exact ⟨by omega, rfl⟩
/-- The figures of the i highest digits of a row. -/
def figsTop (l : List Nat) (i : Nat) : List UInt8 := if i = 0 then [] else decDigits (val (l.drop (l.length - i)))
theorem figs_first (l : List Nat) (h : 0 < l.length) : figsTop l 1 = decDigits (l.getD (l.length - 1) 0) := by
  unfold figsTop
  rw [if_neg (by omega), List.drop_eq_getElem_cons (by omega), List.drop_of_length_le (by omega), List.getD_eq_getElem?_getD, List.getElem?_eq_getElem (by omega)]
  simp [val]
theorem val_top {l : List Nat} (ht : Top l) (i : Nat) (h1 : 1 ≤ i) (h2 : i ≤ l.length) : 0 < val (l.drop (l.length - i)) := by
  obtain ⟨k, hk⟩ : ∃ k, l.length = k + 1 := ⟨l.length - 1, by omega⟩
  have h := ht k hk
  have g := val_ge (l.drop (l.length - i)) (i - 1)
  have e : (l.drop (l.length - i)).getD (i - 1) 0 = l.getD k 0 := by
    rw [List.getD_eq_getElem?_getD, List.getElem?_drop, List.getD_eq_getElem?_getD, show l.length - i + (i - 1) = k by omega]
  rw [e] at g
  have := Nat.mul_le_mul (pw_pos (i - 1)) (Nat.pos_of_ne_zero h)
  omega
theorem figs_next {l : List Nat} (hd : Dgs l) (ht : Top l) (i : Nat) (h1 : 1 ≤ i) (h2 : i < l.length) :
    nDigits (l.getD (l.length - 1 - i) 0) ≤ 9 ∧ figsTop l (i + 1) = figsTop l i ++ (List.replicate (9 - nDigits (l.getD (l.length - 1 - i) 0)) 48 ++ decDigits (l.getD (l.length - 1 - i) 0)) := by
  have hdig := hd.get (l.length - 1 - i)
  have hv := val_top ht i h1 (by omega)
  obtain ⟨e1, e2⟩ := pad_eq 8 (l.getD (l.length - 1 - i) 0) (by simpa using hdig)
  refine ⟨e1, ?_⟩
  rw [← e2]
  unfold figsTop
  rw [if_neg (by omega), if_neg (by omega), show l.length - (i + 1) = l.length - 1 - i by omega, List.drop_eq_getElem_cons (by omega), show l.length - 1 - i + 1 = l.length - i by omega, val]
  have e3 : l[l.length - 1 - i]'(by omega) = l.getD (l.length - 1 - i) 0 := by rw [List.getD_eq_getElem?_getD, List.getElem?_eq_getElem (by omega)]; rfl
  rw [e3, ← dec_pad 9 _ _ hv (by simpa using hdig)]
  congr 1
  show _ = val (l.drop (l.length - i)) * 1000000000 + _
  omega
theorem figs_all (l : List Nat) (h : 0 < l.length) : figsTop l l.length = decDigits (val l) := by
  unfold figsTop
  rw [if_neg (by omega), Nat.sub_self, List.drop_zero]

/-! ### Figures read -/
def figB (c : UInt8) : Bool := decide (48 ≤ c.toNat ∧ c.toNat ≤ 57)
def numL (l : List UInt8) : Nat := l.foldl (fun n c => n * 10 + (c.toNat - 48)) 0
theorem numL_snoc (l : List UInt8) (c : UInt8) : numL (l ++ [c]) = numL l * 10 + (c.toNat - 48) := by unfold numL; rw [List.foldl_append]; rfl
/-- Plain figures. -/
def plainL (l : List UInt8) : Bool := !l.isEmpty && l.all figB && (l.head? != some 48 || l == [48])
theorem u8_of {n : Nat} (h : n < 256) : (UInt8.ofNat n).toNat = n := by simp; omega
theorem numL_dec (n : Nat) : numL (decDigits n) = n := by
  induction n using Nat.strongRecOn with
  | _ n ih =>
    by_cases h : n < 10
    · rw [decDigits_one h]; show 0 * 10 + _ = _; rw [u8_of (by omega)]; omega
    · rw [dec_big h, numL_snoc, ih (n / 10) (by omega), u8_of (by omega)]; omega
theorem dec_ne (n : Nat) : decDigits n ≠ [] := fun h => by
  have h1 := decDigits_length n
  have h2 := nDigits_pos n
  rw [h] at h1
  simp at h1
  omega
theorem dec_all (n : Nat) : (decDigits n).all figB = true := by
  induction n using Nat.strongRecOn with
  | _ n ih =>
    by_cases h : n < 10
    · rw [decDigits_one h]; unfold figB; rw [List.all_cons, u8_of (by omega)]; simp; omega
    · rw [dec_big h, List.all_append, ih (n / 10) (by omega)]; unfold figB; rw [List.all_cons, u8_of (by omega)]; simp; omega
theorem head_app (l m : List UInt8) (h : l ≠ []) : (l ++ m).head? = l.head? := by
  cases l with
  | nil => exact absurd rfl h
  | cons x l => rfl
theorem dec_head (n : Nat) (h : n ≠ 0) : (decDigits n).head? ≠ some 48 := by
  induction n using Nat.strongRecOn with
  | _ n ih =>
    by_cases h1 : n < 10
    · rw [decDigits_one h1]
      intro hc
      have := congrArg UInt8.toNat (Option.some.inj hc)
      rw [u8_of (by omega)] at this
      have : (48 : UInt8).toNat = 48 := rfl
      omega
    · rw [dec_big h1, head_app _ _ (dec_ne _)]
      exact ih (n / 10) (by omega) (by omega)
theorem dec_plain (n : Nat) : plainL (decDigits n) = true := by
  unfold plainL
  rw [dec_all]
  have h1 : (decDigits n).isEmpty = false := by
    cases e : decDigits n with
    | nil => exact absurd e (dec_ne n)
    | cons _ _ => rfl
  rw [h1]
  by_cases h : n = 0
  · subst h; rw [decDigits_one (by omega)]; rfl
  · have := dec_head n h
    simp [this]
/-- What has no nought ahead is a number's figures. -/
theorem dec_num : ∀ (l : List UInt8), plainL l = true → decDigits (numL l) = l := by
  intro l
  have key : ∀ k (l : List UInt8), l.length = k → l ≠ [] → l.all figB = true → (l.head? ≠ some 48 ∨ l = [48]) → decDigits (numL l) = l ∧ (l ≠ [48] → 0 < numL l) := by
    intro k
    induction k with
    | zero => intro l hl hne; exact absurd (List.eq_nil_of_length_eq_zero hl) hne
    | succ k ih =>
      intro l hl hne ha hh
      obtain ⟨m, c, rfl⟩ : ∃ m c, l = m ++ [c] := ⟨l.dropLast, l.getLast hne, (List.dropLast_concat_getLast hne).symm⟩
      rw [List.all_append, Bool.and_eq_true] at ha
      have hc : 48 ≤ c.toNat ∧ c.toNat ≤ 57 := by have := ha.2; unfold figB at this; simpa using this
      have hcc : UInt8.ofNat c.toNat = c := UInt8.ofNat_toNat
      rw [numL_snoc]
      cases m with
      | nil =>
        show decDigits (0 * 10 + _) = [c] ∧ _
        rw [decDigits_one (by omega), show 48 + (0 * 10 + (c.toNat - 48)) = c.toNat by omega, hcc]
        refine ⟨rfl, fun hn => ?_⟩
        have : c.toNat ≠ 48 := fun h => hn (by rw [← hcc, h]; rfl)
        show 0 < 0 * 10 + _
        omega
      | cons x m =>
        have hx : x ≠ 48 := fun e => by
          subst e
          rcases hh with hh | hh
          · exact hh rfl
          · simp at hh
        obtain ⟨e1, e2⟩ := ih (x :: m) (by simpa using hl) (by simp) ha.1 (.inl (by simp [hx]))
        have e2 := e2 (fun e => hx (by simpa using (List.cons.inj e).1))
        refine ⟨?_, fun _ => by omega⟩
        rw [dec_big (by omega), show (numL (x :: m) * 10 + (c.toNat - 48)) / 10 = numL (x :: m) by omega, show 48 + (numL (x :: m) * 10 + (c.toNat - 48)) % 10 = c.toNat by omega, e1, hcc]
  intro h
  unfold plainL at h
  simp only [Bool.and_eq_true, Bool.or_eq_true, Bool.not_eq_true', bne_iff_ne, beq_iff_eq] at h
  exact (key l.length l rfl (fun e => by rw [e] at h; simp at h) h.1.2 h.2).1
theorem plain_iff (l : List UInt8) : plainL l = true ↔ ∃ n, l = decDigits n := ⟨fun h => ⟨numL l, (dec_num l h).symm⟩, fun ⟨n, h⟩ => h ▸ dec_plain n⟩
theorem dec_inj {a b : Nat} (h : decDigits a = decDigits b) : a = b := by have := congrArg numL h; rwa [numL_dec, numL_dec] at this

/-! ### Lengths and orders -/
theorem nd_le {n k : Nat} (h : n < 10 ^ (k + 1)) : nDigits n ≤ k + 1 := (pad_eq k n h).1
theorem nd_ge {n k : Nat} (h : 10 ^ k ≤ n) : k + 1 ≤ nDigits n := by
  have := lt_pow_nDigits n
  rcases Nat.lt_or_ge k (nDigits n) with h' | h'
  · exact h'
  · have := Nat.pow_le_pow_right (n := 10) (by decide) h'
    omega
theorem num_lt (l : List UInt8) (h : l.all figB = true) : numL l < 10 ^ l.length := by
  have key : ∀ k (l : List UInt8), l.length = k → l.all figB = true → numL l < 10 ^ k := by
    intro k
    induction k with
    | zero => intro l hl _; rw [List.eq_nil_of_length_eq_zero hl]; decide
    | succ k ih =>
      intro l hl ha
      have hne : l ≠ [] := fun e => by subst e; cases hl
      obtain ⟨m, c, rfl⟩ : ∃ m c, l = m ++ [c] := ⟨l.dropLast, l.getLast hne, (List.dropLast_concat_getLast hne).symm⟩
      rw [List.all_append, Bool.and_eq_true] at ha
      have hc : 48 ≤ c.toNat ∧ c.toNat ≤ 57 := by have := ha.2; unfold figB at this; simpa using this
      have := ih m (by simpa using hl) ha.1
      rw [numL_snoc, Nat.pow_succ]
      omega
  exact key _ l rfl h
theorem numL_app (l m : List UInt8) : numL (l ++ m) = numL l * 10 ^ m.length + numL m := by
  have key : ∀ k (m : List UInt8), m.length = k → numL (l ++ m) = numL l * 10 ^ k + numL m := by
    intro k
    induction k with
    | zero => intro m hm; rw [List.eq_nil_of_length_eq_zero hm, List.append_nil]; simp [numL]
    | succ k ih =>
      intro m hm
      have hne : m ≠ [] := fun e => by subst e; cases hm
      obtain ⟨p, c, rfl⟩ : ∃ p c, m = p ++ [c] := ⟨m.dropLast, m.getLast hne, (List.dropLast_concat_getLast hne).symm⟩
      rw [← List.append_assoc, numL_snoc, numL_snoc, ih p (by simpa using hm), Nat.pow_succ, Nat.add_mul, Nat.mul_assoc]
      omega
  exact key _ m rfl
theorem numL_cons (c : UInt8) (l : List UInt8) : numL (c :: l) = (c.toNat - 48) * 10 ^ l.length + numL l := by
  have := numL_app [c] l
  rw [List.singleton_append] at this
  rw [this]
  congr 2
  show 0 * 10 + _ = _
  omega
/-- Figures of one length stand in their order. -/
theorem lex_num : ∀ (l m : List UInt8), l.length = m.length → l.all figB = true → m.all figB = true → (l < m ↔ numL l < numL m)
  | [], [], _, _, _ => by simp [numL]
  | [], y :: m, h, _, _ => by simp at h
  | x :: l, [], h, _, _ => by simp at h
  | x :: l, y :: m, h, hl, hm => by
    rw [List.all_cons, Bool.and_eq_true] at hl hm
    have hx : 48 ≤ x.toNat ∧ x.toNat ≤ 57 := by have := hl.1; unfold figB at this; simpa using this
    have hy : 48 ≤ y.toNat ∧ y.toNat ≤ 57 := by have := hm.1; unfold figB at this; simpa using this
    have hlen : l.length = m.length := by simpa using h
    have ih := lex_num l m hlen hl.2 hm.2
    have b1 := num_lt l hl.2
    have b2 := num_lt m hm.2
    rw [numL_cons, numL_cons, ← hlen]
    rw [← hlen] at b2
    have hcons : (x :: l < y :: m) ↔ (x < y ∨ x = y ∧ l < m) := List.cons_lt_cons_iff
    rw [hcons, ih, UInt8.lt_iff_toNat_lt, ← UInt8.toNat_inj]
    rcases Nat.lt_trichotomy x.toNat y.toNat with g | g | g
    · have := Nat.mul_le_mul_right (10 ^ l.length) (show x.toNat - 48 + 1 ≤ y.toNat - 48 by omega)
      rw [Nat.add_mul, Nat.one_mul] at this
      exact ⟨fun _ => by omega, fun _ => .inl g⟩
    · rw [g]
      exact ⟨fun h => by omega, fun h => .inr ⟨rfl, by omega⟩⟩
    · have := Nat.mul_le_mul_right (10 ^ l.length) (show y.toNat - 48 + 1 ≤ x.toNat - 48 by omega)
      rw [Nat.add_mul, Nat.one_mul] at this
      exact ⟨fun h => by omega, fun h => by omega⟩
/-- The limit. -/
def limN : Nat := 13407807929942597099574024998205846127479365820592393377723561443721764030073546976801874298166903427690031858186486050853753882811946569946433649006084096
theorem limN_pow : limN = 2 ^ 512 := by decide +kernel
theorem lim_len : nDigits limN = 155 := nDigits_unique 154 limN (by decide +kernel) (by decide +kernel)
/-- Is what figures say wide? -/
theorem wide_iff (n : Nat) : (if nDigits n ≠ 155 then 155 < nDigits n else ¬ decDigits n < decDigits limN) ↔ limN ≤ n := by
  by_cases h : nDigits n = 155
  · rw [if_neg (by simpa using h), lex_num _ _ (by rw [decDigits_length, decDigits_length, h, lim_len]) (dec_all _) (dec_all _), numL_dec, numL_dec]
    omega
  · rw [if_pos h]
    constructor
    · intro h1
      rcases Nat.lt_or_ge n limN with h2 | h2
      · have : nDigits n ≤ 154 + 1 := nd_le (Nat.lt_trans h2 (by decide +kernel))
        omega
      · exact h2
    · intro h1
      have : 154 + 1 ≤ nDigits n := nd_ge (Nat.le_trans (by decide +kernel) h1)
      omega

/-! ### Numbers -/
/-- What figures with a sign mean, if they are a number within the limit. -/
def readZ (l : List UInt8) : Option Int :=
  if l.head? = some 45 then
    if plainL (l.drop 1) && decide (numL (l.drop 1) ≠ 0) && decide (numL (l.drop 1) < limN) then some (-(numL (l.drop 1) : Int)) else none
  else if plainL l && decide (numL l < limN) then some (numL l : Int) else none
theorem dec_no_sign (n : Nat) : (decDigits n).head? ≠ some 45 := fun h => by
  have h1 := dec_all n
  cases e : decDigits n with
  | nil => rw [e] at h; cases h
  | cons c l =>
    rw [e] at h h1
    rw [Option.some.inj h, List.all_cons] at h1
    exact absurd h1 (by simp [figB])
theorem readZ_itoa (z : Int) : readZ (itoa z) = if z.natAbs < limN then some z else none := by
  unfold itoa
  by_cases h : z < 0
  · rw [if_pos h]
    unfold readZ
    rw [if_pos (show (45 :: decDigits z.natAbs).head? = some 45 from rfl), List.drop_succ_cons, List.drop_zero, dec_plain, numL_dec, Bool.true_and, decide_eq_true (by omega), Bool.true_and]
    by_cases h2 : z.natAbs < limN
    · rw [if_pos h2, if_pos (decide_eq_true h2)]; congr 1; omega
    · rw [if_neg h2, if_neg (by simpa using h2)]
  · rw [if_neg h]
    unfold readZ
    rw [if_neg (dec_no_sign _), dec_plain, numL_dec, Bool.true_and]
    by_cases h2 : z.natAbs < limN
    · rw [if_pos h2, if_pos (by rw [decide_eq_true_eq]; omega)]; congr 1; omega
    · rw [if_neg h2, if_neg (by rw [decide_eq_true_eq]; omega)]
theorem itoa_read {l : List UInt8} {z : Int} (h : readZ l = some z) : l = itoa z ∧ z.natAbs < limN := by
  unfold readZ at h
  split at h
  · rename_i h1
    split at h
    · rename_i h2
      simp only [Bool.and_eq_true, decide_eq_true_eq] at h2
      obtain ⟨⟨h2, h3⟩, h4⟩ := h2
      have e := Option.some.inj h
      subst e
      refine ⟨?_, by omega⟩
      unfold itoa
      rw [if_pos (by omega), show (-(numL (l.drop 1) : Int)).natAbs = numL (l.drop 1) by omega, dec_num _ h2]
      cases l with
      | nil => cases h1
      | cons c l => rw [Option.some.inj h1]; rfl
    · cases h
  · split at h
    · rename_i h2
      simp only [Bool.and_eq_true, decide_eq_true_eq] at h2
      have e := Option.some.inj h
      subst e
      refine ⟨?_, by omega⟩
      unfold itoa
      rw [if_neg (by omega), Int.toNat_natCast, dec_num _ h2.1]
    · cases h
theorem itoa_inj {a b : Int} (h : itoa a = itoa b) : a = b := by
  unfold itoa at h
  split at h <;> split at h
  · have := dec_inj (List.cons.inj h).2; omega
  · have := dec_no_sign b.toNat; rw [← h] at this; exact absurd rfl this
  · have := dec_no_sign a.toNat; rw [h] at this; exact absurd rfl this
  · have := dec_inj h; omega
theorem itoa_len (z : Int) (h : z.natAbs < limN) : (itoa z).length ≤ 156 ∧ 1 ≤ (itoa z).length := by
  have key : ∀ n : Nat, n < limN → (decDigits n).length ≤ 155 ∧ 1 ≤ (decDigits n).length := fun n hn => by
    rw [decDigits_length]
    exact ⟨nd_le (k := 154) (Nat.lt_trans hn (by decide +kernel)), nDigits_pos n⟩
  unfold itoa
  split
  · have := key z.natAbs h
    rw [List.length_cons]; omega
  · have := key z.toNat (by omega)
    omega
end Go.Proofs.YtpdkebljacmgfaaDoor
