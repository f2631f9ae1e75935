/- Whole numbers as rows of digits in the base 10^9, the lowest one first: pure. -/
import Derived.Lib.ItoaNum
namespace Go.Proofs.YtpdkebljacmgfaaDoor
set_option linter.unusedVariables false

/-- What digits are worth. -/
def val : List Nat → Nat
  | [] => 0
  | d :: r => d + 1000000000 * val r
def pw (k : Nat) : Nat := 1000000000 ^ k
theorem pw_zero : pw 0 = 1 := rfl
theorem pw_succ (k : Nat) : pw (k + 1) = 1000000000 * pw k := by unfold pw; rw [Nat.pow_succ, Nat.mul_comm]
theorem pw_add (a b : Nat) : pw (a + b) = pw a * pw b := Nat.pow_add _ _ _
theorem pw_pos (k : Nat) : 1 ≤ pw k := Nat.one_le_pow _ _ (by decide)
theorem pw_le {a b : Nat} (h : a ≤ b) : pw a ≤ pw b := Nat.pow_le_pow_right (by decide) h
/-- Are all below the base? -/
def Dgs (l : List Nat) : Prop := ∀ d ∈ l, d < 1000000000
theorem Dgs.nil : Dgs [] := fun _ h => by cases h
theorem Dgs.head {d : Nat} {r : List Nat} (h : Dgs (d :: r)) : d < 1000000000 := h d (by simp)
theorem Dgs.tail {d : Nat} {r : List Nat} (h : Dgs (d :: r)) : Dgs r := fun x hx => h x (by simp [hx])
theorem Dgs.get {l : List Nat} (h : Dgs l) (i : Nat) : l.getD i 0 < 1000000000 := by
  rw [List.getD_eq_getElem?_getD]
  rcases Nat.lt_or_ge i l.length with hi | hi
  · rw [List.getElem?_eq_getElem hi]; exact h _ (List.getElem_mem hi)
  · rw [List.getElem?_eq_none hi]; decide
theorem Dgs.set {l : List Nat} (h : Dgs l) (i : Nat) {x : Nat} (hx : x < 1000000000) : Dgs (l.set i x) := fun d hd => by
  rcases List.mem_or_eq_of_mem_set hd with h' | rfl
  · exact h d h'
  · exact hx
theorem Dgs.take {l : List Nat} (h : Dgs l) (k : Nat) : Dgs (l.take k) := fun d hd => h d (List.mem_of_mem_take hd)
theorem Dgs.drop {l : List Nat} (h : Dgs l) (k : Nat) : Dgs (l.drop k) := fun d hd => h d (List.mem_of_mem_drop hd)
theorem Dgs.app {l m : List Nat} (h : Dgs l) (h' : Dgs m) : Dgs (l ++ m) := fun d hd => by
  rcases List.mem_append.1 hd with h1 | h1
  · exact h d h1
  · exact h' d h1
theorem Dgs.rep (n : Nat) : Dgs (List.replicate n 0) := fun d hd => by rw [(List.mem_replicate.1 hd).2]; decide

theorem val_app : ∀ (l m : List Nat), val (l ++ m) = val l + pw l.length * val m
  | [], m => by simp [val, pw]
  | d :: r, m => by
    rw [List.cons_append, val, val, val_app r m, List.length_cons, pw_succ, Nat.mul_add, Nat.mul_assoc]
    omega
theorem val_lt : ∀ {l : List Nat}, Dgs l → val l < pw l.length
  | [], _ => by decide
  | d :: r, h => by
    have := val_lt h.tail
    have := h.head
    rw [val, List.length_cons, pw_succ]
    omega
theorem val_zeros : ∀ {l : List Nat}, (∀ d ∈ l, d = 0) → val l = 0
  | [], _ => rfl
  | d :: r, h => by
    rw [val, val_zeros (fun x hx => h x (by simp [hx])), h d (by simp)]
theorem val_rep (n : Nat) : val (List.replicate n 0) = 0 := val_zeros (fun d hd => (List.mem_replicate.1 hd).2)
theorem val_split (l : List Nat) (k : Nat) (hk : k ≤ l.length) : val l = val (l.take k) + pw k * val (l.drop k) := by
  conv => lhs; rw [← List.take_append_drop k l]
  rw [val_app, List.length_take, Nat.min_eq_left hk]
theorem val_take (l : List Nat) (k : Nat) : val (l.take (k + 1)) = val (l.take k) + pw k * l.getD k 0 := by
  rw [List.getD_eq_getElem?_getD]
  rcases Nat.lt_or_ge k l.length with h | h
  · rw [List.take_succ_eq_append_getElem h, val_app, List.length_take, Nat.min_eq_left (by omega), List.getElem?_eq_getElem h]
    simp [val]
  · rw [List.take_of_length_le (by omega), List.take_of_length_le h, List.getElem?_eq_none h]
    simp
theorem val_take_le (l : List Nat) (k : Nat) : val (l.take k) ≤ val l := by
  rcases Nat.lt_or_ge k l.length with h | h
  · rw [val_split l k (by omega)]; omega
  · rw [List.take_of_length_le h]; exact Nat.le_refl _
theorem val_set : ∀ (l : List Nat) (i y : Nat), i < l.length → val (l.set i y) + pw i * l.getD i 0 = val l + pw i * y
  | [], i, y, h => by simp at h
  | d :: r, 0, y, h => by simp [val, pw]; omega
  | d :: r, i + 1, y, h => by
    have e := val_set r i y (by simpa using h)
    simp only [List.set_cons_succ, val, List.getD_cons_succ, pw_succ, Nat.mul_assoc]
    omega
theorem get_set (l : List Nat) (i j y : Nat) : (l.set i y).getD j 0 = if i = j ∧ j < l.length then y else l.getD j 0 := by
  simp only [List.getD_eq_getElem?_getD, List.getElem?_set]
  by_cases h : i = j
  · subst h
    by_cases h2 : i < l.length
    · simp [h2]
    · simp [h2]
  · simp [h]
/-- A digit is a part of what it stands in. -/
theorem val_ge (l : List Nat) (k : Nat) : pw k * l.getD k 0 ≤ val l := by
  have := val_take l k
  have := val_take_le l (k + 1)
  omega
theorem val_high {l : List Nat} {k : Nat} (hk : k ≤ l.length) (h : val l < pw k) : val (l.take k) = val l ∧ val (l.drop k) = 0 := by
  have e := val_split l k hk
  have h0 : val (l.drop k) = 0 := by
    rcases Nat.eq_zero_or_pos (val (l.drop k)) with h' | h'
    · exact h'
    · have := Nat.mul_le_mul_left (pw k) h'
      omega
  rw [h0, Nat.mul_zero, Nat.add_zero] at e
  exact ⟨e.symm, h0⟩
theorem val_get_zero {l : List Nat} {k i : Nat} (hi : k ≤ i) (h : val l < pw k) : l.getD i 0 = 0 := by
  have h1 := val_ge l i
  have h2 := pw_le hi
  rcases Nat.eq_zero_or_pos (l.getD i 0) with h' | h'
  · exact h'
  · have := Nat.mul_le_mul_left (pw i) h'
    omega

/-- A number's digits. -/
def dgs (n : Nat) : List Nat := if h : n = 0 then [] else n % 1000000000 :: dgs (n / 1000000000)
termination_by n
decreasing_by omega
theorem dgs_zero : dgs 0 = [] := by rw [dgs, dif_pos rfl]
theorem dgs_pos {n : Nat} (h : n ≠ 0) : dgs n = n % 1000000000 :: dgs (n / 1000000000) := by rw [dgs, dif_neg h]
theorem val_dgs (n : Nat) : val (dgs n) = n := by
  induction n using Nat.strongRecOn with
  | _ n ih =>
    by_cases h : n = 0
    · subst h; rw [dgs_zero]; rfl
    · rw [dgs_pos h, val, ih (n / 1000000000) (by omega)]; omega
theorem dgs_ok (n : Nat) : Dgs (dgs n) := by
  induction n using Nat.strongRecOn with
  | _ n ih =>
    by_cases h : n = 0
    · subst h; rw [dgs_zero]; exact Dgs.nil
    · rw [dgs_pos h]
      intro d hd
      rcases List.mem_cons.1 hd with rfl | hd
      · omega
      · exact ih _ (by omega) d hd
/-- The highest digit is not 0. -/
def Top (l : List Nat) : Prop := ∀ k, l.length = k + 1 → l.getD k 0 ≠ 0
theorem dgs_top (n : Nat) : Top (dgs n) := by
  induction n using Nat.strongRecOn with
  | _ n ih =>
    by_cases h : n = 0
    · subst h; rw [dgs_zero]; intro k hk; simp at hk
    · have i := ih (n / 1000000000) (by omega)
      rw [dgs_pos h]
      intro k hk
      cases k with
      | zero =>
        have : (dgs (n / 1000000000)).length = 0 := by simpa using hk
        have e := val_dgs (n / 1000000000)
        rw [List.eq_nil_of_length_eq_zero this] at e
        have : n / 1000000000 = 0 := e.symm
        show n % 1000000000 ≠ 0
        omega
      | succ k =>
        rw [List.getD_cons_succ]
        exact i k (by simpa using hk)
theorem dgs_val : ∀ {l : List Nat}, Dgs l → Top l → dgs (val l) = l
  | [], _, _ => dgs_zero
  | d :: r, h, ht => by
    have hd := h.head
    have htr : Top r := fun k hk => by
      have := ht (k + 1) (by simp [hk])
      rwa [List.getD_cons_succ] at this
    have e := dgs_val h.tail htr
    have h0 : val (d :: r) ≠ 0 := by
      rw [val]
      cases r with
      | nil =>
        have := ht 0 rfl
        simp at this
        omega
      | cons x r =>
        intro hc
        have : val (x :: r) = 0 := by omega
        rw [this, dgs_zero] at e
        cases e
    rw [dgs_pos h0, val, show (d + 1000000000 * val r) % 1000000000 = d by omega, show (d + 1000000000 * val r) / 1000000000 = val r by omega, e]
theorem lt_dgs (n : Nat) : n < pw (dgs n).length := by
  have := val_lt (dgs_ok n)
  rwa [val_dgs] at this
theorem dgs_le {n k : Nat} (h : (dgs n).length = k + 1) : pw k ≤ n := by
  have h1 := dgs_top n k h
  have h2 := val_ge (dgs n) k
  rw [val_dgs] at h2
  have := Nat.mul_le_mul_left (pw k) (Nat.pos_of_ne_zero h1)
  omega
theorem pw_lt {a b : Nat} (h : pw a < pw b) : a < b := by
  rcases Nat.lt_or_ge a b with h' | h'
  · exact h'
  · have := pw_le h'; omega
theorem dgs_len {n k : Nat} (h : n < pw k) : (dgs n).length ≤ k := by
  cases e : (dgs n).length with
  | zero => omega
  | succ m =>
    have := dgs_le e
    have := pw_lt (Nat.lt_of_le_of_lt this h)
    omega
theorem dgs_mono {a b : Nat} (h : a ≤ b) : (dgs a).length ≤ (dgs b).length := dgs_len (Nat.lt_of_le_of_lt h (lt_dgs b))
theorem dgs_nil {n : Nat} (h : (dgs n).length = 0) : n = 0 := by
  have := val_dgs n
  rw [List.eq_nil_of_length_eq_zero h] at this
  exact this.symm
/-- What is left when digits 0 at the high end are cut off. -/
theorem cut_dgs {l : List Nat} {k : Nat} (h : Dgs l) (hk : k ≤ l.length) (ht : k = 0 ∨ l.getD (k - 1) 0 ≠ 0) (hz : ∀ i, k ≤ i → l.getD i 0 = 0) : l.take k = dgs (val l) := by
  have e := val_split l k hk
  have h0 : val (l.drop k) = 0 := val_zeros fun d hd => by
    obtain ⟨i, hi, rfl⟩ := List.getElem_of_mem hd
    have := hz (k + i) (by omega)
    rw [List.getElem_drop]
    rw [List.getD_eq_getElem?_getD, List.getElem?_eq_getElem (by rw [List.length_drop] at hi; omega)] at this
    exact this
  rw [h0, Nat.mul_zero, Nat.add_zero] at e
  rw [e]
  refine (dgs_val (h.take k) fun j hj => ?_).symm
  rw [List.length_take, Nat.min_eq_left hk] at hj
  subst hj
  rcases ht with h' | h'
  · omega
  · rw [List.getD_eq_getElem?_getD, List.getElem?_take_of_lt (by omega), ← List.getD_eq_getElem?_getD]
    exact h'
/-- At one digit alone they part. -/
theorem val_order {l m : List Nat} {p : Nat} (hl : Dgs l) (hm : Dgs m) (hlen : l.length = m.length) (hp : p < l.length) (hd : l.drop (p + 1) = m.drop (p + 1)) (hlt : l.getD p 0 < m.getD p 0) : val l < val m := by
  have e1 := val_split l (p + 1) (by omega)
  have e2 := val_split m (p + 1) (by omega)
  rw [val_take] at e1 e2
  rw [hd] at e1
  have b1 := val_lt (hl.take p)
  rw [List.length_take, Nat.min_eq_left (by omega)] at b1
  have := Nat.mul_le_mul_left (pw p) (show l.getD p 0 + 1 ≤ m.getD p 0 from hlt)
  rw [Nat.mul_add, Nat.mul_one] at this
  omega

/-! ### A sum -/
structure PlusAt (a b l : List Nat) (n k c : Nat) : Prop where
  len : l.length = n
  ok : Dgs l
  carry : c ≤ 1
  sum : val (l.take k) + pw k * c = val (a.take k) + val (b.take k)
theorem PlusAt.start (a b : List Nat) (n : Nat) : PlusAt a b (List.replicate n 0) n 0 0 := ⟨by simp, Dgs.rep n, by omega, by simp [val]⟩
theorem mod_div (V d k : Nat) : V + pw k * (d % 1000000000) + pw (k + 1) * (d / 1000000000) = V + pw k * d := by
  have e : pw k * (d % 1000000000) + pw (k + 1) * (d / 1000000000) = pw k * d := by
    rw [pw_succ, Nat.mul_comm 1000000000, Nat.mul_assoc, ← Nat.mul_add]
    congr 1
    omega
  omega
theorem take_set (l : List Nat) (k x : Nat) (h : k < l.length) : val ((l.set k x).take (k + 1)) = val (l.take k) + pw k * x := by
  rw [val_take, get_set, if_pos ⟨rfl, h⟩]
  congr 2
  rw [List.take_set, List.set_eq_of_length_le (by simp; omega)]
theorem PlusAt.step {a b l : List Nat} {n k c : Nat} (h : PlusAt a b l n k c) (ha : Dgs a) (hb : Dgs b) (hk : k < n) : PlusAt a b (l.set k ((a.getD k 0 + b.getD k 0 + c) % 1000000000)) n (k + 1) ((a.getD k 0 + b.getD k 0 + c) / 1000000000) := by
  have h1 := ha.get k
  have h2 := hb.get k
  have h3 := h.carry
  refine ⟨by simp [h.len], h.ok.set k (by omega), by omega, ?_⟩
  rw [take_set l k _ (by rw [h.len]; exact hk), mod_div, val_take, val_take]
  have := h.sum
  rw [Nat.mul_add, Nat.mul_add]
  omega
theorem PlusAt.fin {a b l : List Nat} {n c : Nat} (h : PlusAt a b l n n c) (ha : Dgs a) (hb : Dgs b) (hn : n = max a.length b.length + 1) : val l = val a + val b := by
  have e := h.sum
  rw [List.take_of_length_le (by rw [h.len]; exact Nat.le_refl _), List.take_of_length_le (by omega), List.take_of_length_le (by omega)] at e
  have h1 := val_lt ha
  have h2 := val_lt hb
  have h3 := pw_le (show a.length ≤ max a.length b.length by omega)
  have h4 := pw_le (show b.length ≤ max a.length b.length by omega)
  have h5 := pw_succ (max a.length b.length)
  rw [← hn] at h5
  have h6 := h.carry
  rcases (show c = 0 ∨ c = 1 by omega) with rfl | rfl
  · omega
  · rw [Nat.mul_one] at e
    omega

/-! ### A difference -/
structure TakeAt (old less l : List Nat) (k c : Nat) : Prop where
  len : l.length = old.length
  ok : Dgs l
  lent : c ≤ 1
  diff : val (l.take k) + val (less.take k) = val (old.take k) + pw k * c
  rest : ∀ i, k ≤ i → l.getD i 0 = old.getD i 0
theorem TakeAt.start {old : List Nat} (h : Dgs old) (less : List Nat) : TakeAt old less old 0 0 := ⟨rfl, h, by omega, by simp [val], fun _ _ => rfl⟩
theorem TakeAt.step {old less l : List Nat} {k c : Nat} (h : TakeAt old less l k c) (hl : Dgs less) (hk : k < l.length) :
    TakeAt old less (l.set k ((1000000000 + l.getD k 0 - less.getD k 0 - c) % 1000000000)) (k + 1) (1 - (1000000000 + l.getD k 0 - less.getD k 0 - c) / 1000000000) := by
  have h1 := h.ok.get k
  have h2 := hl.get k
  have h3 := h.lent
  have h4 := h.rest k (Nat.le_refl _)
  refine ⟨by simp [h.len], h.ok.set k (by omega), by omega, ?_, fun i hi => ?_⟩
  · rw [take_set l k _ hk, val_take, val_take, ← h4]
    have e := h.diff
    generalize l.getD k 0 = x at *
    generalize less.getD k 0 = y at *
    obtain ⟨d, hd⟩ : ∃ d, d = 1000000000 + x - y - c := ⟨_, rfl⟩
    rw [← hd]
    have e2 : d % 1000000000 + y + c = x + 1000000000 * (1 - d / 1000000000) := by omega
    have e3 := congrArg (pw k * ·) e2
    simp only [Nat.mul_add] at e3
    rw [pw_succ, Nat.mul_assoc, Nat.mul_left_comm 1000000000]
    omega
  · rw [get_set, if_neg (by omega)]
    exact h.rest i (by omega)
theorem TakeAt.fin {old less l : List Nat} {c : Nat} (h : TakeAt old less l l.length c) (ho : Dgs old) (hle : val less ≤ val old) : val l + val less = val old := by
  have e := h.diff
  have hb := val_lt ho
  have hbl := val_lt h.ok
  rw [h.len] at hbl
  rw [List.take_of_length_le (Nat.le_refl _), h.len, List.take_of_length_le (Nat.le_refl _)] at e
  have hl : val (less.take old.length) = val less := by
    rcases Nat.lt_or_ge old.length less.length with h' | h'
    · exact (val_high (by omega) (by omega)).1
    · rw [List.take_of_length_le h']
  rw [hl] at e
  have := h.lent
  rcases (show c = 0 ∨ c = 1 by omega) with rfl | rfl
  · omega
  · rw [Nat.mul_one] at e
    omega

/-! ### A product -/
structure TimesIn (r0 b l : List Nat) (low x k c : Nat) : Prop where
  len : l.length = r0.length
  ok : Dgs l
  carry : c < 1000000000
  prod : val l + pw (low + k) * c = val r0 + pw low * (x * val (b.take k))
  rest : ∀ i, low + k ≤ i → l.getD i 0 = r0.getD i 0
theorem TimesIn.start {r0 : List Nat} (b : List Nat) (low x : Nat) (h : Dgs r0) : TimesIn r0 b r0 low x 0 0 := ⟨rfl, h, by omega, by simp [val], fun _ _ => rfl⟩
theorem digit_bound {l x y c : Nat} (hl : l < 1000000000) (hx : x < 1000000000) (hy : y < 1000000000) (hc : c < 1000000000) : x * y ≤ 999999998000000001 ∧ l + x * y + c ≤ 999999999999999999 ∧ (l + x * y + c) / 1000000000 < 1000000000 := by
  have := Nat.mul_le_mul (show x ≤ 999999999 by omega) (show y ≤ 999999999 by omega)
  omega
theorem TimesIn.step {r0 b l : List Nat} {low x k c : Nat} (h : TimesIn r0 b l low x k c) (hx : x < 1000000000) (hb : Dgs b) (hk : low + k < l.length) :
    TimesIn r0 b (l.set (low + k) ((l.getD (low + k) 0 + x * b.getD k 0 + c) % 1000000000)) low x (k + 1) ((l.getD (low + k) 0 + x * b.getD k 0 + c) / 1000000000) := by
  have hd := digit_bound (h.ok.get (low + k)) hx (hb.get k) h.carry
  refine ⟨by simp [h.len], h.ok.set _ (by omega), hd.2.2, ?_, fun i hi => ?_⟩
  · have e := h.prod
    have s := val_set l (low + k) ((l.getD (low + k) 0 + x * b.getD k 0 + c) % 1000000000) hk
    have m := mod_div 0 (l.getD (low + k) 0 + x * b.getD k 0 + c) (low + k)
    rw [val_take, Nat.mul_add x, Nat.mul_add (pw low), ← Nat.add_assoc low]
    have e2 : pw low * (x * (pw k * b.getD k 0)) = pw (low + k) * (x * b.getD k 0) := by rw [pw_add, Nat.mul_left_comm x, ← Nat.mul_assoc]
    rw [e2]
    generalize (l.getD (low + k) 0 + x * b.getD k 0 + c) % 1000000000 = q at *
    rw [Nat.mul_add, Nat.mul_add] at m
    omega
  · rw [get_set, if_neg (by omega)]
    exact h.rest i (by omega)
/-- The product so far. -/
structure TimesAt (a b l : List Nat) (low : Nat) : Prop where
  len : l.length = a.length + b.length
  ok : Dgs l
  prod : val l = val (a.take low) * val b
  rest : ∀ i, low + b.length ≤ i → l.getD i 0 = 0
theorem TimesAt.start (a b : List Nat) : TimesAt a b (List.replicate (a.length + b.length) 0) 0 := ⟨by simp, Dgs.rep _, by rw [val_rep]; simp [val], fun i _ => by
  rw [List.getD_eq_getElem?_getD, List.getElem?_replicate]; split <;> rfl⟩
theorem TimesAt.step {a b r0 l : List Nat} {low c : Nat} (h : TimesAt a b r0 low) (hl : low < a.length) (hi : TimesIn r0 b l low (a.getD low 0) b.length c) : TimesAt a b (l.set (low + b.length) c) (low + 1) := by
  refine ⟨by simp [hi.len, h.len], hi.ok.set _ hi.carry, ?_, fun i hj => ?_⟩
  · have s := val_set l (low + b.length) c (by rw [hi.len, h.len]; omega)
    have z : l.getD (low + b.length) 0 = 0 := (hi.rest _ (Nat.le_refl _)).trans (h.rest _ (Nat.le_refl _))
    have e := hi.prod
    rw [List.take_of_length_le (Nat.le_refl _)] at e
    rw [z, Nat.mul_zero, Nat.add_zero] at s
    rw [s, e, h.prod, val_take, Nat.add_mul, Nat.mul_assoc]
  · rw [get_set, if_neg (by omega), hi.rest i (by omega), h.rest i (by omega)]
theorem TimesAt.fin {a b l : List Nat} (h : TimesAt a b l a.length) : val l = val a * val b := by
  have := h.prod
  rwa [List.take_of_length_le (Nat.le_refl _)] at this

/-! ### A quotient -/
/-- No guess is too small. -/
theorem guess_ok {part b : List Nat} {n : Nat} (hp : Dgs part) (hb : Dgs b) (hpl : part.length = n + 2) (hbl : b.length = n + 1) (ht : b.getD n 0 ≠ 0) :
    val part / val b ≤ (part.getD (n + 1) 0 * 1000000000 + part.getD n 0) / b.getD n 0 := by
  have e := val_take part (n + 1)
  rw [List.take_of_length_le (by omega), val_take] at e
  have lt := val_lt (hp.take n)
  rw [List.length_take, Nat.min_eq_left (by omega)] at lt
  have hg := val_ge b n
  rw [Nat.le_div_iff_mul_le (Nat.pos_of_ne_zero ht)]
  have hq := Nat.div_mul_le_self (val part) (val b)
  generalize val part / val b = q at *
  have h1 := Nat.mul_le_mul_left q hg
  generalize b.getD n 0 = y at *
  generalize part.getD n 0 = x0 at *
  generalize part.getD (n + 1) 0 = x1 at *
  have e3 : q * (pw n * y) = pw n * (q * y) := Nat.mul_left_comm _ _ _
  have e4 : pw (n + 1) * x1 = pw n * (x1 * 1000000000) := by rw [pw_succ, Nat.mul_comm x1, ← Nat.mul_assoc, Nat.mul_comm (pw n)]
  rw [e3] at h1
  rw [e4] at e
  rcases Nat.lt_or_ge (x1 * 1000000000 + x0) (q * y) with hc | hc
  · have h2 := Nat.mul_le_mul_left (pw n) (show x1 * 1000000000 + x0 + 1 ≤ q * y from hc)
    rw [Nat.mul_add, Nat.mul_add, Nat.mul_one] at h2
    omega
  · exact hc
/-- What is divided, part by part, from the high end on: what is left, and the quotient's digits above m. -/
structure OverAt (b : List Nat) (V m : Nat) (rest q : List Nat) : Prop where
  ok : Dgs rest
  qok : Dgs q
  sum : val rest + val b * val q = V
  small : val rest < val b * pw m
  low : ∀ i, i < m → q.getD i 0 = 0
theorem val_mid (l : List Nat) (low n : Nat) (h : low + n ≤ l.length) : val l = val (l.take low) + pw low * (val ((l.drop low).take n) + pw n * val (l.drop (low + n))) := by
  rw [val_split l low (by omega), val_split (l.drop low) n (by rw [List.length_drop]; omega), List.drop_drop]
/-- The part that is divided next. -/
theorem OverAt.part {b rest q : List Nat} {V low : Nat} (h : OverAt b V (low + 1) rest q) (hb : Dgs b) (hl : low + (b.length + 1) ≤ rest.length) :
    val rest = val (rest.take low) + pw low * val ((rest.drop low).take (b.length + 1)) ∧ val (rest.drop (low + (b.length + 1))) = 0 ∧ val ((rest.drop low).take (b.length + 1)) < val b * 1000000000 := by
  have e := val_mid rest low (b.length + 1) hl
  have hs := h.small
  have hbv := val_lt hb
  have h1 : val rest < pw (low + (b.length + 1)) := by
    have := Nat.mul_le_mul_right (pw (low + 1)) (Nat.le_of_lt hbv)
    rw [← pw_add] at this
    rw [show low + (b.length + 1) = b.length + (low + 1) by omega]
    omega
  have z := (val_high hl h1).2
  rw [z, Nat.mul_zero, Nat.add_zero] at e
  refine ⟨e, z, ?_⟩
  rcases Nat.lt_or_ge (val ((rest.drop low).take (b.length + 1))) (val b * 1000000000) with hc | hc
  · exact hc
  · have := Nat.mul_le_mul_left (pw low) hc
    rw [pw_succ, ← Nat.mul_assoc, Nat.mul_comm _ (pw low)] at hs
    omega
theorem OverAt.step {b rest q part' : List Nat} {V low : Nat} (h : OverAt b V (low + 1) rest q) (hb : Dgs b) (hb0 : 0 < val b) (hl : low + (b.length + 1) ≤ rest.length) (hq : low < q.length)
    (hp : part'.length = b.length + 1) (hpo : Dgs part') (hpv : val part' + val b * (val ((rest.drop low).take (b.length + 1)) / val b) = val ((rest.drop low).take (b.length + 1))) :
    OverAt b V low (rest.take low ++ part' ++ rest.drop (low + (b.length + 1))) (q.set low (val ((rest.drop low).take (b.length + 1)) / val b)) := by
  obtain ⟨e, z, hlt⟩ := h.part hb hl
  have hqb : val ((rest.drop low).take (b.length + 1)) / val b < 1000000000 := (Nat.div_lt_iff_lt_mul hb0).2 (by rw [Nat.mul_comm]; exact hlt)
  have hsum := h.sum
  have s := val_set q low (val ((rest.drop low).take (b.length + 1)) / val b) hq
  rw [h.low low (Nat.lt_succ_self _), Nat.mul_zero, Nat.add_zero] at s
  have hmod : val part' < val b := by
    have := Nat.div_add_mod (val ((rest.drop low).take (b.length + 1))) (val b)
    have := Nat.mod_lt (val ((rest.drop low).take (b.length + 1))) hb0
    omega
  generalize val ((rest.drop low).take (b.length + 1)) / val b = qd at *
  have ev : val (rest.take low ++ part' ++ rest.drop (low + (b.length + 1))) = val (rest.take low) + pw low * val part' := by
    rw [val_app, val_app, z, Nat.mul_zero, Nat.add_zero, List.length_take, Nat.min_eq_left (by omega)]
  have tl := val_lt (h.ok.take low)
  rw [List.length_take, Nat.min_eq_left (by omega)] at tl
  refine ⟨((h.ok.take _).app hpo).app (h.ok.drop _), h.qok.set _ hqb, ?_, ?_, fun i hi => ?_⟩
  · rw [ev, s, Nat.mul_add]
    rw [← hpv, Nat.mul_add] at e
    have : val b * (pw low * qd) = pw low * (val b * qd) := Nat.mul_left_comm _ _ _
    omega
  · rw [ev]
    have := Nat.mul_le_mul_left (pw low) (show val part' + 1 ≤ val b from hmod)
    rw [Nat.mul_add, Nat.mul_one] at this
    rw [Nat.mul_comm (val b)]
    omega
  · rw [get_set, if_neg (by omega)]
    exact h.low i (by omega)
theorem OverAt.fin {b rest q : List Nat} {V : Nat} (h : OverAt b V 0 rest q) : val q = V / val b := by
  have h1 := h.sum
  have h2 := h.small
  rw [pw_zero, Nat.mul_one] at h2
  rw [← h1, Nat.add_mul_div_left _ _ (by omega), Nat.div_eq_of_lt h2, Nat.zero_add]
/-- It begins with a digit 0 at the high end. -/
theorem OverAt.start (a b : Nat) (hb : 0 < b) : OverAt (dgs b) a ((dgs a ++ [0]).length - (dgs b).length) (dgs a ++ [0]) (List.replicate ((dgs a ++ [0]).length - (dgs b).length) 0) := by
  have e : val (dgs a ++ [0]) = a := by rw [val_app, val_dgs]; simp [val]
  refine ⟨(dgs_ok a).app (by intro d hd; simp at hd; subst hd; decide), Dgs.rep _, by rw [e, val_rep]; omega, ?_, fun i _ => by
    rw [List.getD_eq_getElem?_getD, List.getElem?_replicate]; split <;> rfl⟩
  rw [e, val_dgs]
  have hl : (dgs a ++ [0]).length = (dgs a).length + 1 := by simp
  rw [hl]
  have h1 := lt_dgs a
  cases eb : (dgs b).length with
  | zero => have := dgs_nil eb; omega
  | succ k =>
    have h2 := dgs_le eb
    rw [show (dgs a).length + 1 - (k + 1) = (dgs a).length - k by omega]
    have h3 := Nat.mul_le_mul_right (pw ((dgs a).length - k)) h2
    rw [← pw_add] at h3
    have h4 := pw_le (show (dgs a).length ≤ k + ((dgs a).length - k) by omega)
    omega
end Go.Proofs.YtpdkebljacmgfaaDoor
