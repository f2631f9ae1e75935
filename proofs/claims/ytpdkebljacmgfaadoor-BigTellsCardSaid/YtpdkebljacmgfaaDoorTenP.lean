/- Whole numbers as rows of figures, the lowest one first: pure. -/
import Derived.Test.YtpdkebljacmgfaaDoorBigT
import Derived.Test.YtpdkebljacmgfaaDoorBase
namespace Go.Proofs.YtpdkebljacmgfaaDoor.Ten
open Go.Lib
set_option linter.unusedVariables false

/-- What digits are worth. -/
def val : List Nat → Nat
  | [] => 0
  | d :: r => d + 10 * val r
def pw (k : Nat) : Nat := 10 ^ k
theorem pw_zero : pw 0 = 1 := rfl
theorem pw_succ (k : Nat) : pw (k + 1) = 10 * pw k := by unfold pw; rw [Nat.pow_succ, Nat.mul_comm]
theorem pw_add (a b : Nat) : pw (a + b) = pw a * pw b := Nat.pow_add _ _ _
theorem pw_pos (k : Nat) : 1 ≤ pw k := Nat.one_le_pow _ _ (by decide)
theorem pw_le {a b : Nat} (h : a ≤ b) : pw a ≤ pw b := Nat.pow_le_pow_right (by decide) h
/-- Are all below the base? -/
def Dgs (l : List Nat) : Prop := ∀ d ∈ l, d < 10
theorem Dgs.nil : Dgs [] := fun _ h => by cases h
theorem Dgs.head {d : Nat} {r : List Nat} (h : Dgs (d :: r)) : d < 10 := h d (by simp)
theorem Dgs.tail {d : Nat} {r : List Nat} (h : Dgs (d :: r)) : Dgs r := fun x hx => h x (by simp [hx])
theorem Dgs.get {l : List Nat} (h : Dgs l) (i : Nat) : l.getD i 0 < 10 := by
  rw [List.getD_eq_getElem?_getD]
  rcases Nat.lt_or_ge i l.length with hi | hi
  · rw [List.getElem?_eq_getElem hi]; exact h _ (List.getElem_mem hi)
  · rw [List.getElem?_eq_none hi]; decide
theorem Dgs.set {l : List Nat} (h : Dgs l) (i : Nat) {x : Nat} (hx : x < 10) : Dgs (l.set i x) := fun d hd => by
  rcases List.mem_or_eq_of_mem_set hd with h' | rfl
  · exact h d h'
  · exact hx
theorem Dgs.take {l : List Nat} (h : Dgs l) (k : Nat) : Dgs (l.take k) := fun d hd => h d (List.mem_of_mem_take hd)
theorem Dgs.drop {l : List Nat} (h : Dgs l) (k : Nat) : Dgs (l.drop k) := fun d hd => h d (List.mem_of_mem_drop hd)
theorem Dgs.app {l m : List Nat} (h : Dgs l) (h' : Dgs m) : Dgs (l ++ m) := fun d hd => by
  rcases List.mem_append.1 hd with h1 | h1
  · exact h d h1
  · exact h' d h1
theorem Dgs.rep (n : Nat) : Dgs (List.replicate n 0) := fun d hd => by rw [(List.mem_replicate.1 hd).2]; decide

theorem val_app : ∀ (l m : List Nat), val (l ++ m) = val l + pw l.length * val m
  | [], m => by simp [val, pw]
  | d :: r, m => by
    rw [List.cons_append, val, val, val_app r m, List.length_cons, pw_succ, Nat.mul_add, Nat.mul_assoc]
    omega
theorem val_lt : ∀ {l : List Nat}, Dgs l → val l < pw l.length
  | [], _ => by decide
  | d :: r, h => by
    have := val_lt h.tail
    have := h.head
    rw [val, List.length_cons, pw_succ]
    omega
theorem val_zeros : ∀ {l : List Nat}, (∀ d ∈ l, d = 0) → val l = 0
  | [], _ => rfl
  | d :: r, h => by
    rw [val, val_zeros (fun x hx => h x (by simp [hx])), h d (by simp)]
theorem val_rep (n : Nat) : val (List.replicate n 0) = 0 := val_zeros (fun d hd => (List.mem_replicate.1 hd).2)
theorem val_split (l : List Nat) (k : Nat) (hk : k ≤ l.length) : val l = val (l.take k) + pw k * val (l.drop k) := by
  conv => lhs; rw [← List.take_append_drop k l]
  rw [val_app, List.length_take, Nat.min_eq_left hk]
theorem val_take (l : List Nat) (k : Nat) : val (l.take (k + 1)) = val (l.take k) + pw k * l.getD k 0 := by
  rw [List.getD_eq_getElem?_getD]
  rcases Nat.lt_or_ge k l.length with h | h
  · rw [List.take_succ_eq_append_getElem h, val_app, List.length_take, Nat.min_eq_left (by omega), List.getElem?_eq_getElem h]
    simp [val]
  · rw [List.take_of_length_le (by omega), List.take_of_length_le h, List.getElem?_eq_none h]
    simp
theorem val_take_le (l : List Nat) (k : Nat) : val (l.take k) ≤ val l := by
  rcases Nat.lt_or_ge k l.length with h | h
  · rw [val_split l k (by omega)]; omega
  · rw [List.take_of_length_le h]; exact Nat.le_refl _
theorem val_set : ∀ (l : List Nat) (i y : Nat), i < l.length → val (l.set i y) + pw i * l.getD i 0 = val l + pw i * y
  | [], i, y, h => by simp at h
  | d :: r, 0, y, h => by simp [val, pw]; omega
  | d :: r, i + 1, y, h => by
    have e := val_set r i y (by simpa using h)
    simp only [List.set_cons_succ, val, List.getD_cons_succ, pw_succ, Nat.mul_assoc]
    omega
theorem get_set (l : List Nat) (i j y : Nat) : (l.set i y).getD j 0 = if i = j ∧ j < l.length then y else l.getD j 0 := by
  simp only [List.getD_eq_getElem?_getD, List.getElem?_set]
  by_cases h : i = j
  · subst h
    by_cases h2 : i < l.length
    · simp [h2]
    · simp [h2]
  · simp [h]
/-- A digit is a part of what it stands in. -/
theorem val_ge (l : List Nat) (k : Nat) : pw k * l.getD k 0 ≤ val l := by
  have := val_take l k
  have := val_take_le l (k + 1)
  omega
theorem val_high {l : List Nat} {k : Nat} (hk : k ≤ l.length) (h : val l < pw k) : val (l.take k) = val l ∧ val (l.drop k) = 0 := by
  have e := val_split l k hk
  have h0 : val (l.drop k) = 0 := by
    rcases Nat.eq_zero_or_pos (val (l.drop k)) with h' | h'
    · exact h'
    · have := Nat.mul_le_mul_left (pw k) h'
      omega
  rw [h0, Nat.mul_zero, Nat.add_zero] at e
  exact ⟨e.symm, h0⟩
theorem val_get_zero {l : List Nat} {k i : Nat} (hi : k ≤ i) (h : val l < pw k) : l.getD i 0 = 0 := by
  have h1 := val_ge l i
  have h2 := pw_le hi
  rcases Nat.eq_zero_or_pos (l.getD i 0) with h' | h'
  · exact h'
  · have := Nat.mul_le_mul_left (pw i) h'
    omega

/-- A number's digits. -/
def dgs (n : Nat) : List Nat := if h : n = 0 then [] else n % 10 :: dgs (n / 10)
termination_by n
decreasing_by omega
theorem dgs_zero : dgs 0 = [] := by rw [dgs, dif_pos rfl]
theorem dgs_pos {n : Nat} (h : n ≠ 0) : dgs n = n % 10 :: dgs (n / 10) := by rw [dgs, dif_neg h]
theorem val_dgs (n : Nat) : val (dgs n) = n := by
  induction n using Nat.strongRecOn with
  | _ n ih =>
    by_cases h : n = 0
    · subst h; rw [dgs_zero]; rfl
    · rw [dgs_pos h, val, ih (n / 10) (by omega)]; omega
theorem dgs_ok (n : Nat) : Dgs (dgs n) := by
  induction n using Nat.strongRecOn with
  | _ n ih =>
    by_cases h : n = 0
    · subst h; rw [dgs_zero]; exact Dgs.nil
    · rw [dgs_pos h]
      intro d hd
      rcases List.mem_cons.1 hd with rfl | hd
      · omega
      · exact ih _ (by omega) d hd
/-- The highest digit is not 0. -/
def Top (l : List Nat) : Prop := ∀ k, l.length = k + 1 → l.getD k 0 ≠ 0
theorem dgs_top (n : Nat) : Top (dgs n) := by
  induction n using Nat.strongRecOn with
  | _ n ih =>
    by_cases h : n = 0
    · subst h; rw [dgs_zero]; intro k hk; simp at hk
    · have i := ih (n / 10) (by omega)
      rw [dgs_pos h]
      intro k hk
      cases k with
      | zero =>
        have : (dgs (n / 10)).length = 0 := by simpa using hk
        have e := val_dgs (n / 10)
        rw [List.eq_nil_of_length_eq_zero this] at e
        have : n / 10 = 0 := e.symm
        show n % 10 ≠ 0
        omega
      | succ k =>
        rw [List.getD_cons_succ]
        exact i k (by simpa using hk)
theorem dgs_val : ∀ {l : List Nat}, Dgs l → Top l → dgs (val l) = l
  | [], _, _ => dgs_zero
  | d :: r, h, ht => by
    have hd := h.head
    have htr : Top r := fun k hk => by
      have := ht (k + 1) (by simp [hk])
      rwa [List.getD_cons_succ] at this
    have e := dgs_val h.tail htr
    have h0 : val (d :: r) ≠ 0 := by
      rw [val]
      cases r with
      | nil =>
        have := ht 0 rfl
        simp at this
        omega
      | cons x r =>
        intro hc
        have : val (x :: r) = 0 := by omega
        rw [this, dgs_zero] at e
        cases e
    rw [dgs_pos h0, val, show (d + 10 * val r) % 10 = d by omega, show (d + 10 * val r) / 10 = val r by omega, e]
theorem lt_dgs (n : Nat) : n < pw (dgs n).length := by
  have := val_lt (dgs_ok n)
  rwa [val_dgs] at this
theorem dgs_le {n k : Nat} (h : (dgs n).length = k + 1) : pw k ≤ n := by
  have h1 := dgs_top n k h
  have h2 := val_ge (dgs n) k
  rw [val_dgs] at h2
  have := Nat.mul_le_mul_left (pw k) (Nat.pos_of_ne_zero h1)
  omega
theorem pw_lt {a b : Nat} (h : pw a < pw b) : a < b := by
  rcases Nat.lt_or_ge a b with h' | h'
  · exact h'
  · have := pw_le h'; omega
theorem dgs_len {n k : Nat} (h : n < pw k) : (dgs n).length ≤ k := by
  cases e : (dgs n).length with
  | zero => omega
  | succ m =>
    have := dgs_le e
    have := pw_lt (Nat.lt_of_le_of_lt this h)
    omega
theorem dgs_mono {a b : Nat} (h : a ≤ b) : (dgs a).length ≤ (dgs b).length := dgs_len (Nat.lt_of_le_of_lt h (lt_dgs b))
theorem dgs_nil {n : Nat} (h : (dgs n).length = 0) : n = 0 := by
  have := val_dgs n
  rw [List.eq_nil_of_length_eq_zero h] at this
  exact this.symm
/-- What is left when digits 0 at the high end are cut off. -/
theorem cut_dgs {l : List Nat} {k : Nat} (h : Dgs l) (hk : k ≤ l.length) (ht : k = 0 ∨ l.getD (k - 1) 0 ≠ 0) (hz : ∀ i, k ≤ i → l.getD i 0 = 0) : l.take k = dgs (val l) := by
  have e := val_split l k hk
  have h0 : val (l.drop k) = 0 := val_zeros fun d hd => by
    obtain ⟨i, hi, rfl⟩ := List.getElem_of_mem hd
    have := hz (k + i) (by omega)
    rw [List.getElem_drop]
    rw [List.getD_eq_getElem?_getD, List.getElem?_eq_getElem (by rw [List.length_drop] at hi; omega)] at this
    exact this
  rw [h0, Nat.mul_zero, Nat.add_zero] at e
  rw [e]
  refine (dgs_val (h.take k) fun j hj => ?_).symm
  rw [List.length_take, Nat.min_eq_left hk] at hj
  subst hj
  rcases ht with h' | h'
  · omega
  · rw [List.getD_eq_getElem?_getD, List.getElem?_take_of_lt (by omega), ← List.getD_eq_getElem?_getD]
    exact h'
/-- At one digit alone they part. -/
theorem val_order {l m : List Nat} {p : Nat} (hl : Dgs l) (hm : Dgs m) (hlen : l.length = m.length) (hp : p < l.length) (hd : l.drop (p + 1) = m.drop (p + 1)) (hlt : l.getD p 0 < m.getD p 0) : val l < val m := by
  have e1 := val_split l (p + 1) (by omega)
  have e2 := val_split m (p + 1) (by omega)
  rw [val_take] at e1 e2
  rw [hd] at e1
  have b1 := val_lt (hl.take p)
  rw [List.length_take, Nat.min_eq_left (by omega)] at b1
  have := Nat.mul_le_mul_left (pw p) (show l.getD p 0 + 1 ≤ m.getD p 0 from hlt)
  rw [Nat.mul_add, Nat.mul_one] at this
  omega

/-! ### A sum -/
structure PlusAt (a b l : List Nat) (n k c : Nat) : Prop where
  len : l.length = n
  ok : Dgs l
  carry : c ≤ 1
  sum : val (l.take k) + pw k * c = val (a.take k) + val (b.take k)
theorem PlusAt.start (a b : List Nat) (n : Nat) : PlusAt a b (List.replicate n 0) n 0 0 := ⟨by simp, Dgs.rep n, by omega, by simp [val]⟩
theorem mod_div (V d k : Nat) : V + pw k * (d % 10) + pw (k + 1) * (d / 10) = V + pw k * d := by
  have e : pw k * (d % 10) + pw (k + 1) * (d / 10) = pw k * d := by
    rw [pw_succ, Nat.mul_comm 10, Nat.mul_assoc, ← Nat.mul_add]
    congr 1
    omega
  omega
theorem take_set (l : List Nat) (k x : Nat) (h : k < l.length) : val ((l.set k x).take (k + 1)) = val (l.take k) + pw k * x := by
  rw [val_take, get_set, if_pos ⟨rfl, h⟩]
  congr 2
  rw [List.take_set, List.set_eq_of_length_le (by simp; omega)]
theorem PlusAt.step {a b l : List Nat} {n k c : Nat} (h : PlusAt a b l n k c) (ha : Dgs a) (hb : Dgs b) (hk : k < n) : PlusAt a b (l.set k ((a.getD k 0 + b.getD k 0 + c) % 10)) n (k + 1) ((a.getD k 0 + b.getD k 0 + c) / 10) := by
  have h1 := ha.get k
  have h2 := hb.get k
  have h3 := h.carry
  refine ⟨by simp [h.len], h.ok.set k (by omega), by omega, ?_⟩
  rw [take_set l k _ (by rw [h.len]; exact hk), mod_div, val_take, val_take]
  have := h.sum
  rw [Nat.mul_add, Nat.mul_add]
  omega
theorem PlusAt.fin {a b l : List Nat} {n c : Nat} (h : PlusAt a b l n n c) (ha : Dgs a) (hb : Dgs b) (hn : n = max a.length b.length + 1) : val l = val a + val b := by
  have e := h.sum
  rw [List.take_of_length_le (by rw [h.len]; exact Nat.le_refl _), List.take_of_length_le (by omega), List.take_of_length_le (by omega)] at e
  have h1 := val_lt ha
  have h2 := val_lt hb
  have h3 := pw_le (show a.length ≤ max a.length b.length by omega)
  have h4 := pw_le (show b.length ≤ max a.length b.length by omega)
  have h5 := pw_succ (max a.length b.length)
  rw [← hn] at h5
  have h6 := h.carry
  rcases (show c = 0 ∨ c = 1 by omega) with rfl | rfl
  · omega
  · rw [Nat.mul_one] at e
    omega

/-! ### A difference -/
structure TakeAt (old less l : List Nat) (k c : Nat) : Prop where
  len : l.length = old.length
  ok : Dgs l
  lent : c ≤ 1
  diff : val (l.take k) + val (less.take k) = val (old.take k) + pw k * c
  rest : ∀ i, k ≤ i → l.getD i 0 = old.getD i 0
theorem TakeAt.start {old : List Nat} (h : Dgs old) (less : List Nat) : TakeAt old less old 0 0 := ⟨rfl, h, by omega, by simp [val], fun _ _ => rfl⟩
theorem TakeAt.step {old less l : List Nat} {k c : Nat} (h : TakeAt old less l k c) (hl : Dgs less) (hk : k < l.length) :
    TakeAt old less (l.set k ((10 + l.getD k 0 - less.getD k 0 - c) % 10)) (k + 1) (1 - (10 + l.getD k 0 - less.getD k 0 - c) / 10) := by
  have h1 := h.ok.get k
  have h2 := hl.get k
  have h3 := h.lent
  have h4 := h.rest k (Nat.le_refl _)
  refine ⟨by simp [h.len], h.ok.set k (by omega), by omega, ?_, fun i hi => ?_⟩
  · rw [take_set l k _ hk, val_take, val_take, ← h4]
    have e := h.diff
    generalize l.getD k 0 = x at *
    generalize less.getD k 0 = y at *
    obtain ⟨d, hd⟩ : ∃ d, d = 10 + x - y - c := ⟨_, rfl⟩
    rw [← hd]
    have e2 : d % 10 + y + c = x + 10 * (1 - d / 10) := by omega
    have e3 := congrArg (pw k * ·) e2
    simp only [Nat.mul_add] at e3
    rw [pw_succ, Nat.mul_assoc, Nat.mul_left_comm 10]
    omega
  · rw [get_set, if_neg (by omega)]
    exact h.rest i (by omega)
theorem TakeAt.fin {old less l : List Nat} {c : Nat} (h : TakeAt old less l l.length c) (ho : Dgs old) (hle : val less ≤ val old) : val l + val less = val old := by
  have e := h.diff
  have hb := val_lt ho
  have hbl := val_lt h.ok
  rw [h.len] at hbl
  rw [List.take_of_length_le (Nat.le_refl _), h.len, List.take_of_length_le (Nat.le_refl _)] at e
  have hl : val (less.take old.length) = val less := by
    rcases Nat.lt_or_ge old.length less.length with h' | h'
    · exact (val_high (by omega) (by omega)).1
    · rw [List.take_of_length_le h']
  rw [hl] at e
  have := h.lent
  rcases (show c = 0 ∨ c = 1 by omega) with rfl | rfl
  · omega
  · rw [Nat.mul_one] at e
    omega

/-! ### A product -/
structure TimesIn (r0 b l : List Nat) (low x k c : Nat) : Prop where
  len : l.length = r0.length
  ok : Dgs l
  carry : c < 10
  prod : val l + pw (low + k) * c = val r0 + pw low * (x * val (b.take k))
  rest : ∀ i, low + k ≤ i → l.getD i 0 = r0.getD i 0
theorem TimesIn.start {r0 : List Nat} (b : List Nat) (low x : Nat) (h : Dgs r0) : TimesIn r0 b r0 low x 0 0 := ⟨rfl, h, by omega, by simp [val], fun _ _ => rfl⟩
theorem digit_bound {l x y c : Nat} (hl : l < 10) (hx : x < 10) (hy : y < 10) (hc : c < 10) : x * y ≤ 81 ∧ l + x * y + c ≤ 99 ∧ (l + x * y + c) / 10 < 10 := by
  have := Nat.mul_le_mul (show x ≤ 9 by omega) (show y ≤ 9 by omega)
  omega
theorem TimesIn.step {r0 b l : List Nat} {low x k c : Nat} (h : TimesIn r0 b l low x k c) (hx : x < 10) (hb : Dgs b) (hk : low + k < l.length) :
    TimesIn r0 b (l.set (low + k) ((l.getD (low + k) 0 + x * b.getD k 0 + c) % 10)) low x (k + 1) ((l.getD (low + k) 0 + x * b.getD k 0 + c) / 10) := by
  have hd := digit_bound (h.ok.get (low + k)) hx (hb.get k) h.carry
  refine ⟨by simp [h.len], h.ok.set _ (by omega), hd.2.2, ?_, fun i hi => ?_⟩
  · have e := h.prod
    have s := val_set l (low + k) ((l.getD (low + k) 0 + x * b.getD k 0 + c) % 10) hk
    have m := mod_div 0 (l.getD (low + k) 0 + x * b.getD k 0 + c) (low + k)
    rw [val_take, Nat.mul_add x, Nat.mul_add (pw low), ← Nat.add_assoc low]
    have e2 : pw low * (x * (pw k * b.getD k 0)) = pw (low + k) * (x * b.getD k 0) := by rw [pw_add, Nat.mul_left_comm x, ← Nat.mul_assoc]
    rw [e2]
    generalize (l.getD (low + k) 0 + x * b.getD k 0 + c) % 10 = q at *
    rw [Nat.mul_add, Nat.mul_add] at m
    omega
  · rw [get_set, if_neg (by omega)]
    exact h.rest i (by omega)
/-- The product so far. -/
structure TimesAt (a b l : List Nat) (low : Nat) : Prop where
  len : l.length = a.length + b.length
  ok : Dgs l
  prod : val l = val (a.take low) * val b
  rest : ∀ i, low + b.length ≤ i → l.getD i 0 = 0
theorem TimesAt.start (a b : List Nat) : TimesAt a b (List.replicate (a.length + b.length) 0) 0 := ⟨by simp, Dgs.rep _, by rw [val_rep]; simp [val], fun i _ => by
  rw [List.getD_eq_getElem?_getD, List.getElem?_replicate]; split <;> rfl⟩
theorem TimesAt.step {a b r0 l : List Nat} {low c : Nat} (h : TimesAt a b r0 low) (hl : low < a.length) (hi : TimesIn r0 b l low (a.getD low 0) b.length c) : TimesAt a b (l.set (low + b.length) c) (low + 1) := by
  refine ⟨by simp [hi.len, h.len], hi.ok.set _ hi.carry, ?_, fun i hj => ?_⟩
  · have s := val_set l (low + b.length) c (by rw [hi.len, h.len]; omega)
    have z : l.getD (low + b.length) 0 = 0 := (hi.rest _ (Nat.le_refl _)).trans (h.rest _ (Nat.le_refl _))
    have e := hi.prod
    rw [List.take_of_length_le (Nat.le_refl _)] at e
    rw [z, Nat.mul_zero, Nat.add_zero] at s
    rw [s, e, h.prod, val_take, Nat.add_mul, Nat.mul_assoc]
  · rw [get_set, if_neg (by omega), hi.rest i (by omega), h.rest i (by omega)]
theorem TimesAt.fin {a b l : List Nat} (h : TimesAt a b l a.length) : val l = val a * val b := by
  have := h.prod
  rwa [List.take_of_length_le (Nat.le_refl _)] at this


theorem get_dgs (n : Nat) : ∀ i, (dgs n).getD i 0 = n / 10 ^ i % 10 := by
  induction n using Nat.strongRecOn with
  | _ n ih =>
    intro i
    by_cases h : n = 0
    · subst h
      rw [dgs_zero]
      simp
    · rw [dgs_pos h]
      cases i with
      | zero => simp
      | succ i =>
        rw [List.getD_cons_succ, ih (n / 10) (by omega) i, Nat.pow_succ, Nat.mul_comm, ← Nat.div_div_eq_div_mul]
theorem dgs_short (n : Nat) : (dgs n).length ≤ nDigits n := dgs_len (by unfold pw; exact lt_pow_nDigits n)
/-- The figure of a place, in a text. -/
theorem text_get {s : ByteArray} {n : Nat} (hs : s.data.toList = decDigits n) (i : Nat) (hi : i < s.size) : bt s (s.size - 1 - i) = 48 + (dgs n).getD i 0 := by
  have hl : s.data.toList.length = s.size := by simp
  rw [hs, decDigits_length] at hl
  have hb := bt_list s (s.size - 1 - i) (by omega)
  rw [hs, decDigits_eq, List.getElem?_map, List.getElem?_range (by omega)] at hb
  have h1 := congrArg UInt8.toNat (Option.some.inj hb)
  have hlt := bt_lt s (s.size - 1 - i)
  rw [get_dgs]
  dsimp only at h1
  rw [show nDigits n - 1 - (s.size - 1 - i) = i by omega] at h1
  have h2 : (UInt8.ofNat (bt s (s.size - 1 - i))).toNat = bt s (s.size - 1 - i) := by simp; omega
  rw [h2] at h1
  rw [← h1]
  unfold dg
  have : n / 10 ^ i % 10 < 10 := Nat.mod_lt _ (by decide)
  simp
  omega
theorem get_high {n i : Nat} (h : nDigits n ≤ i) : (dgs n).getD i 0 = 0 := by
  have := dgs_short n
  rw [List.getD_eq_getElem?_getD, List.getElem?_eq_none (by omega)]
  rfl

/-! ### A sum, figure behind figure -/
structure AddAt (a b l : List Nat) (k c : Nat) : Prop where
  len : l.length = k
  ok : Dgs l
  carry : c ≤ 1
  sum : val l + pw k * c = val (a.take k) + val (b.take k)
theorem AddAt.start (a b : List Nat) : AddAt a b [] 0 0 := ⟨rfl, Dgs.nil, by omega, by simp [val]⟩
theorem AddAt.step {a b l : List Nat} {k c : Nat} (h : AddAt a b l k c) (ha : Dgs a) (hb : Dgs b) : AddAt a b (l ++ [(a.getD k 0 + b.getD k 0 + c) % 10]) (k + 1) ((a.getD k 0 + b.getD k 0 + c) / 10) := by
  have h1 := ha.get k
  have h2 := hb.get k
  have h3 := h.carry
  refine ⟨by simp [h.len], h.ok.app (by intro d hd; simp at hd; subst hd; omega), by omega, ?_⟩
  rw [val_app, h.len, show val [(a.getD k 0 + b.getD k 0 + c) % 10] = (a.getD k 0 + b.getD k 0 + c) % 10 by simp [val], mod_div, val_take, val_take, Nat.mul_add, Nat.mul_add]
  have := h.sum
  omega
theorem AddAt.fin {n m : Nat} {l : List Nat} {k c : Nat} (h : AddAt (dgs n) (dgs m) l k c) (h1 : nDigits n + 1 ≤ k) (h2 : nDigits m + 1 ≤ k) : val l = n + m := by
  have e := h.sum
  have d1 := dgs_short n
  have d2 := dgs_short m
  rw [List.take_of_length_le (by omega), List.take_of_length_le (by omega), val_dgs, val_dgs] at e
  obtain ⟨j, rfl⟩ : ∃ j, k = j + 1 := ⟨k - 1, by omega⟩
  have b1 : n < pw j := Nat.lt_of_lt_of_le (lt_pow_nDigits n) (Nat.pow_le_pow_right (by decide) (by omega))
  have b2 : m < pw j := Nat.lt_of_lt_of_le (lt_pow_nDigits m) (Nat.pow_le_pow_right (by decide) (by omega))
  have h5 := pw_succ j
  have h6 := h.carry
  rcases (show c = 0 ∨ c = 1 by omega) with rfl | rfl
  · omega
  · rw [Nat.mul_one] at e
    omega

/-! ### A difference, figure behind figure -/
structure SubAt (a b l : List Nat) (k c : Nat) : Prop where
  len : l.length = k
  ok : Dgs l
  lent : c ≤ 1
  diff : val l + val (b.take k) = val (a.take k) + pw k * c
theorem SubAt.start (a b : List Nat) : SubAt a b [] 0 0 := ⟨rfl, Dgs.nil, by omega, by simp [val]⟩
theorem SubAt.step {a b l : List Nat} {k c d c' : Nat} (h : SubAt a b l k c) (hd : d < 10) (hc : c' ≤ 1) (he : d + b.getD k 0 + c = a.getD k 0 + 10 * c') : SubAt a b (l ++ [d]) (k + 1) c' := by
  refine ⟨by simp [h.len], h.ok.app (by intro x hx; simp at hx; subst hx; exact hd), hc, ?_⟩
  rw [val_app, h.len, show val [d] = d by simp [val], val_take, val_take, pw_succ, Nat.mul_assoc, Nat.mul_left_comm 10]
  have e3 := congrArg (pw k * ·) he
  simp only [Nat.mul_add] at e3
  have := h.diff
  omega
theorem SubAt.fin {n m : Nat} {l : List Nat} {k c : Nat} (h : SubAt (dgs n) (dgs m) l k c) (h1 : nDigits n ≤ k) (hle : m ≤ n) : val l = n - m := by
  have e := h.diff
  have d1 := dgs_short n
  have b1 : n < pw k := Nat.lt_of_lt_of_le (lt_pow_nDigits n) (Nat.pow_le_pow_right (by decide) h1)
  have d2 := dgs_len (Nat.lt_of_le_of_lt hle b1)
  have bl := val_lt h.ok
  rw [h.len] at bl
  rw [List.take_of_length_le (by omega), List.take_of_length_le (by omega), val_dgs, val_dgs] at e
  have h6 := h.lent
  rcases (show c = 0 ∨ c = 1 by omega) with rfl | rfl
  · omega
  · rw [Nat.mul_one] at e
    omega

/-! ### Figures written -/
theorem num_rev : ∀ l : List Nat, Dgs l → numL (l.reverse.map fun d => UInt8.ofNat (48 + d)) = val l
  | [], _ => rfl
  | d :: r, h => by
    have hd := h.head
    rw [List.reverse_cons, List.map_append, List.map_cons, List.map_nil, numL_snoc, num_rev r h.tail, u8_of (by omega), val]
    omega
/-- How many figures stay: one at least. -/
def keepN (l : List Nat) : Nat → Nat
  | 0 => 0
  | 1 => 1
  | k + 2 => if l.getD (k + 1) 0 = 0 then keepN l (k + 1) else k + 2
theorem keepN_le (l : List Nat) : ∀ k, keepN l k ≤ k
  | 0 => Nat.le_refl _
  | 1 => Nat.le_refl _
  | k + 2 => by rw [keepN]; split; exact Nat.le_succ_of_le (keepN_le l (k + 1)); exact Nat.le_refl _
theorem keepN_top (l : List Nat) : ∀ k, 1 ≤ k → (keepN l k = 1 ∨ (2 ≤ keepN l k ∧ l.getD (keepN l k - 1) 0 ≠ 0))
  | 1, _ => .inl rfl
  | k + 2, _ => by
    rw [keepN]
    split
    · exact keepN_top l (k + 1) (by omega)
    · rename_i h; exact .inr ⟨by omega, h⟩
theorem keepN_zero (l : List Nat) : ∀ k i, keepN l k ≤ i → i < k → l.getD i 0 = 0
  | 0, i, _, h => by omega
  | 1, i, h0, h => by rw [keepN] at h0; omega
  | k + 2, i, h, hi => by
    rw [keepN] at h
    split at h
    · rename_i h0
      rcases Nat.lt_or_ge i (k + 1) with h' | h'
      · exact keepN_zero l (k + 1) i h h'
      · rw [show i = k + 1 by omega]; exact h0
    · omega
theorem figs_kept {l : List Nat} (h : Dgs l) (h1 : 1 ≤ l.length) : ((l.take (keepN l l.length)).reverse.map fun d => UInt8.ofNat (48 + d)) = decDigits (val l) := by
  have hk := keepN_le l l.length
  have hv : val (l.take (keepN l l.length)) = val l := by
    have e := val_split l _ hk
    have h0 : val (l.drop (keepN l l.length)) = 0 := val_zeros fun d hd => by
      obtain ⟨i, hi, rfl⟩ := List.getElem_of_mem hd
      rw [List.length_drop] at hi
      have := keepN_zero l l.length (keepN l l.length + i) (by omega) (by omega)
      rw [List.getElem_drop]
      rw [List.getD_eq_getElem?_getD, List.getElem?_eq_getElem (by omega)] at this
      exact this
    rw [h0, Nat.mul_zero, Nat.add_zero] at e
    exact e.symm
  have hn := num_rev _ (h.take (keepN l l.length))
  rw [hv] at hn
  rw [← hn]
  refine (dec_num _ ?_).symm
  have hk1 : 1 ≤ keepN l l.length := by rcases keepN_top l l.length h1 with e | e <;> omega
  have hlen : (l.take (keepN l l.length)).length = keepN l l.length := by rw [List.length_take]; omega
  have hall : ((l.take (keepN l l.length)).reverse.map fun d => UInt8.ofNat (48 + d)).all figB = true := by
    rw [List.all_map, List.all_eq_true]
    intro d hd
    have := (h.take (keepN l l.length)) d (List.mem_reverse.1 hd)
    show figB (UInt8.ofNat (48 + d)) = true
    unfold figB
    rw [u8_of (by omega)]
    simp
    omega
  unfold plainL
  rw [hall]
  obtain ⟨m, d, e⟩ : ∃ m d, l.take (keepN l l.length) = m ++ [d] := by
    have hne : l.take (keepN l l.length) ≠ [] := fun e => by rw [e] at hlen; simp at hlen; omega
    exact ⟨_, _, (List.dropLast_concat_getLast hne).symm⟩
  have hm : m.length + 1 = keepN l l.length := by rw [← hlen, e]; simp
  have hd : l.getD (keepN l l.length - 1) 0 = d := by
    have : (l.take (keepN l l.length))[keepN l l.length - 1]? = some d := by rw [e, List.getElem?_append_right (by omega)]; simp [show keepN l l.length - 1 - m.length = 0 by omega]
    rw [List.getElem?_take_of_lt (by omega)] at this
    rw [List.getD_eq_getElem?_getD, this]
    rfl
  have hd10 : d < 10 := by rw [← hd]; exact h.get _
  rw [e, List.reverse_append, List.reverse_singleton, List.singleton_append, List.map_cons]
  rcases keepN_top l l.length h1 with e1 | ⟨e1, e2⟩
  · have : m = [] := List.eq_nil_of_length_eq_zero (by omega)
    subst this
    by_cases h0 : d = 0
    · subst h0; rfl
    · have : UInt8.ofNat (48 + d) ≠ 48 := fun hc => by
        have := congrArg UInt8.toNat hc
        rw [u8_of (by omega)] at this
        have h48 : (48 : UInt8).toNat = 48 := rfl
        omega
      generalize UInt8.ofNat (48 + d) = c at this
      simp [this]
  · rw [hd] at e2
    have : UInt8.ofNat (48 + d) ≠ 48 := fun hc => by
      have := congrArg UInt8.toNat hc
      rw [u8_of (by omega)] at this
      have h48 : (48 : UInt8).toNat = 48 := rfl
      omega
    generalize UInt8.ofNat (48 + d) = c at this
    simp [this]
end Go.Proofs.YtpdkebljacmgfaaDoor.Ten
