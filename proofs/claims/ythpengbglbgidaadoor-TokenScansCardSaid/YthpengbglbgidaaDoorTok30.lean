/- The scanner byte by byte, as the document has it. No program stands in it. -/
import Derived.Test.YthpengbglbgidaaDoorTok22
namespace Go.Proofs.YthpengbglbgidaaDoor
open Go.RowKit
set_option linter.unusedVariables false

/-! ### Pieces, byte by byte -/
/-- From p on: the first byte that is not of a sort; the end, if there is none. -/
def runB (t : ByteArray) (f : Int → Bool) : Nat → Nat → Nat
  | 0, p => p
  | k + 1, p => if p < t.size then (if f (bt t p) then runB t f k (p + 1) else p) else p
/-- From k on: the first byte with the two bytes of a note's end ahead of it; -1, if there is none. -/
def closeI (t : ByteArray) : Nat → Nat → Int
  | 0, _ => -1
  | f + 1, k => if k ≤ t.size then (if bt t (k - 2) = 42 ∧ bt t (k - 1) = 47 then (k : Int) else closeI t f (k + 1)) else -1
/-- The end of the note at p; 0: there is none; -1: it does not end. -/
def noteI (t : ByteArray) (p : Nat) : Int :=
  if t.size < p + 2 ∨ bt t p ≠ 47 then 0
  else if bt t (p + 1) = 47 then (runB t noEnd t.size p : Int)
  else if bt t (p + 1) ≠ 42 then 0
  else closeI t t.size (p + 4)
/-- The end of the text with the quote q, from k on. -/
def quoteI (t : ByteArray) (q : Nat) : Nat → Nat → Int
  | 0, _ => -1
  | f + 1, k => if k < t.size then
      (if q = 34 ∧ bt t k = 10 then -1
      else if bt t k = q then ((k + 1 : Nat) : Int)
      else if q = 34 ∧ bt t k = 92 then (if k + 1 < t.size ∧ bt t (k + 1) = 10 then -1 else quoteI t q f (k + 2))
      else quoteI t q f (k + 1))
    else -1

def feff (t : ByteArray) (p : Nat) : Bool := p == 0 && (decide (3 ≤ t.size) && (bt t 0 == 239 && (bt t 1 == 187 && bt t 2 == 191)))
/-- One step: the state's place is the next byte. -/
def stepB (t : ByteArray) (x : St) : Option St :=
  if feff t x.at_ then some ⟨3, x.toks, x.notes⟩
  else if bt t x.at_ = 10 then some ⟨x.at_ + 1, endL x.toks x.at_, x.notes⟩
  else if bt t x.at_ = 32 ∨ bt t x.at_ = 9 ∨ bt t x.at_ = 13 then some ⟨x.at_ + 1, x.toks, x.notes⟩
  else if noteI t x.at_ ≠ 0 then
    (if noteI t x.at_ < 0 then none
    else some ⟨(noteI t x.at_).toNat, noteToks (t.extract x.at_ (noteI t x.at_).toNat) x.toks x.at_, x.notes ++ [⟨0, t.extract x.at_ (noteI t x.at_).toNat, x.at_⟩]⟩)
  else if isIn (bt t x.at_) then
    some ⟨runB t isIn t.size (x.at_ + 1), x.toks ++ [⟨if isLet (bt t x.at_) then 1 + wordN (t.extract x.at_ (runB t isIn t.size (x.at_ + 1))) else 4, t.extract x.at_ (runB t isIn t.size (x.at_ + 1)), x.at_⟩], x.notes⟩
  else if bt t x.at_ = 34 ∨ bt t x.at_ = 96 then
    (if quoteI t (bt t x.at_) t.size (x.at_ + 1) < 0 then none
    else some ⟨(quoteI t (bt t x.at_) t.size (x.at_ + 1)).toNat, x.toks ++ [⟨5, t.extract x.at_ (quoteI t (bt t x.at_) t.size (x.at_ + 1)).toNat, x.at_⟩], x.notes⟩)
  else if signN (t.extract x.at_ t.size) = 0 then none
  else some ⟨x.at_ + signN (t.extract x.at_ t.size), x.toks ++ [⟨6, t.extract x.at_ (x.at_ + signN (t.extract x.at_ t.size)), x.at_⟩], x.notes⟩
def scanF (t : ByteArray) : Nat → St → Except Nat St
  | 0, x => .ok x
  | k + 1, x => if x.at_ < t.size then (match stepB t x with
      | none => .error x.at_
      | some y => scanF t k y)
    else .ok x
def scanB (s : ByteArray) : Out :=
  if 65536 < s.size then ⟨12, 65536, st0⟩
  else if 0 ≤ wrongR s then ⟨2, wrongR s, st0⟩
  else match scanF s s.size st0 with
    | .ok x => ⟨0, 0, ⟨x.at_, endL x.toks s.size, x.notes⟩⟩
    | .error p => ⟨3, p, st0⟩

/-! ### Rows -/
theorem runB_ge (t : ByteArray) (f : Int → Bool) : ∀ k p, p ≤ runB t f k p
  | 0, p => Nat.le_refl _
  | k + 1, p => by
    rw [runB]
    split
    · split
      · have := runB_ge t f k (p + 1); omega
      · exact Nat.le_refl _
    · exact Nat.le_refl _
theorem runB_le (t : ByteArray) (f : Int → Bool) : ∀ k p, p ≤ t.size → runB t f k p ≤ t.size
  | 0, p, h => h
  | k + 1, p, h => by
    rw [runB]
    split
    · split
      · exact runB_le t f k (p + 1) (by omega)
      · exact h
    · exact h
theorem runB_more (t : ByteArray) (f : Int → Bool) : ∀ k j p, t.size ≤ p + k → t.size ≤ p + j → runB t f k p = runB t f j p
  | 0, 0, p, _, _ => rfl
  | 0, j + 1, p, h, _ => by rw [runB, runB, if_neg (by omega)]
  | k + 1, 0, p, _, h => by rw [runB, runB, if_neg (by omega)]
  | k + 1, j + 1, p, h1, h2 => by
    rw [runB, runB, runB_more t f k j (p + 1) (by omega) (by omega)]
theorem runB_step (t : ByteArray) (f : Int → Bool) (k j p : Nat) (h : p < t.size) (hf : f (bt t p) = true) (hk : t.size ≤ p + k) (hj : t.size ≤ p + 1 + j) : runB t f k p = runB t f j (p + 1) := by
  rw [runB_more t f k (j + 1) p hk (by omega), runB, if_pos h, if_pos hf]
/-- Over bytes of the sort. -/
theorem runB_skip (t : ByteArray) (f : Int → Bool) (p : Nat) : ∀ n k, p + n ≤ t.size → (∀ i, i < n → f (bt t (p + i)) = true) → t.size ≤ p + k → runB t f k p = runB t f t.size (p + n)
  | 0, k, h1, h2, h3 => runB_more t f k _ _ h3 (by omega)
  | n + 1, k, h1, h2, h3 => by
    rw [runB_skip t f p n k (by omega) (fun i hi => h2 i (by omega)) h3]
    exact runB_step t f _ _ (p + n) (by omega) (h2 n (by omega)) (by omega) (by omega)
theorem runB_stop (t : ByteArray) (f : Int → Bool) (k p : Nat) (h : t.size ≤ p ∨ f (bt t p) = false) : runB t f k p = p := by
  cases k with
  | zero => rfl
  | succ k =>
    rw [runB]
    rcases h with h | h
    · rw [if_neg (by omega)]
    · rw [h]; simp

/-- The row of signs is that of bytes. -/
theorem rowF_runB (t : ByteArray) (f : Int → Bool) (hf : (∀ c, 128 ≤ c → f c = true) ∨ (∀ c, 128 ≤ c → f c = false)) : ∀ k p, p ≤ t.size → t.size ≤ p + k → rowF t f k p = runB t f t.size p
  | 0, p, h1, h2 => by rw [rowF, runB_stop _ _ _ _ (.inl (by omega))]; omega
  | k + 1, p, h1, h2 => by
    rw [rowF]
    by_cases hp : p < t.size
    · rw [if_pos hp]
      have hw := wid_pos t p
      have hwl := wid_le t p hp
      rcases sign_kind t p with ⟨e1, e2, e3⟩ | ⟨e1, e2, e3⟩
      · rw [e2]
        cases hb : f (bt t p)
        · rw [runB_stop _ _ _ _ (.inr hb)]; rfl
        · rw [if_pos rfl, rowF_runB t f hf k _ hwl (by omega), e1]
          exact (runB_step t f _ _ p hp hb (by omega) (by omega)).symm
      · rcases hf with hf | hf
        · rw [hf _ (by omega), if_pos rfl, rowF_runB t f (.inl hf) k _ hwl (by omega)]
          exact (runB_skip t f p _ _ hwl (fun i hi => hf _ (by have := e3 i hi; omega)) (by omega)).symm
        · rw [hf (sig t p) (by omega), runB_stop _ _ _ _ (.inr (hf _ (by omega)))]; rfl
    · rw [if_neg hp, runB_stop _ _ _ _ (.inl (by omega))]; omega

theorem runB_ext (t : ByteArray) (f : Int → Bool) (a : Nat) (ha : a ≤ t.size) : ∀ k j p, t.size ≤ a + p + k → t.size ≤ a + p + j → a + runB (t.extract a t.size) f k p = runB t f j (a + p)
  | 0, j, p, h1, h2 => by rw [runB, runB_stop _ _ _ _ (.inl (by omega))]
  | k + 1, j, p, h1, h2 => by
    rw [runB]
    have hz := ext_size t a t.size (Nat.le_refl _)
    by_cases hp : a + p < t.size
    · rw [if_pos (by omega), bt_ext t a t.size p (by omega) (Nat.le_refl _)]
      cases hb : f (bt t (a + p))
      · rw [runB_stop _ _ _ _ (.inr hb)]; rfl
      · rw [if_pos rfl, runB_ext t f a ha k t.size (p + 1) (by omega) (by omega)]
        exact (runB_step t f _ _ (a + p) hp hb (by omega) (by omega)).symm
    · rw [if_neg (by omega), runB_stop _ _ _ _ (.inl (by omega))]
/-- How long the row is that begins at p. -/
theorem rowN_runB (t : ByteArray) (p : Nat) (hp : p ≤ t.size) (f : Int → Bool) (hf : (∀ c, 128 ≤ c → f c = true) ∨ (∀ c, 128 ≤ c → f c = false)) : p + rowN (t.extract p t.size) f = runB t f t.size p := by
  unfold rowN
  rw [rowF_runB _ f hf _ 0 (Nat.zero_le _) (by omega), runB_ext t f p hp _ t.size 0 (by rw [ext_size _ _ _ (Nat.le_refl _)]; omega) (by omega)]
  rfl

theorem noEnd_big : ∀ c : Int, 128 ≤ c → noEnd c = true := fun c h => by unfold noEnd; simp; omega
theorem isIn_big : ∀ c : Int, 128 ≤ c → isIn c = false := fun c h => by
  cases e : isIn c
  · rfl
  · have := isIn_lt e; omega

/-! ### What is closed -/
theorem ba_ext (a b : ByteArray) (hs : a.size = b.size) (h : ∀ i, i < a.size → bt a i = bt b i) : a = b := by
  apply ByteArray.ext
  apply Array.ext'
  apply List.ext_getElem?
  intro i
  rcases Nat.lt_or_ge i a.size with hi | hi
  · rw [bt_list a i hi, bt_list b i (by omega), h i hi]
  · rw [List.getElem?_eq_none (by exact hi), List.getElem?_eq_none (by have : b.data.toList.length = b.size := rfl; omega)]
theorem occ_iff (s t : ByteArray) (j : Nat) (hj : j + t.size ≤ s.size) : Lib.occAt s.data.toList t.data.toList j = true ↔ ∀ i, i < t.size → bt s (j + i) = bt t i := by
  rw [Lib.occ_of_piece s t j hj, beq_iff_eq]
  have hx : ∀ i, i < t.size → bt (s.extract j (j + t.size)) i = bt s (j + i) := fun i hi => bt_ext s j (j + t.size) i (by omega) hj
  constructor
  · intro h i hi
    have e : s.extract j (j + t.size) = t := by
      apply ByteArray.ext
      apply Array.ext'
      rw [ByteArray.toList_eq, ByteArray.toList_eq] at h
      exact h
    rw [e] at hx
    exact (hx i hi).symm
  · intro h
    have e : s.extract j (j + t.size) = t := ba_ext _ _ (by rw [ext_size _ _ _ hj]; omega) (fun i hi => by
      rw [ext_size _ _ _ hj] at hi
      rw [hx i (by omega)]
      exact h i (by omega))
    rw [e]
def At (s t : ByteArray) (j : Nat) : Prop := ∀ i, i < t.size → bt s (j + i) = bt t i
theorem closed_spec (s : ByteArray) (f : Nat) (t : ByteArray) (hf : f ≤ s.size) (h0 : 0 < t.size) :
    (closedN s f t = 0 ∧ ∀ j, f + j + t.size ≤ s.size → ¬ At s t (f + j)) ∨ (∃ j, closedN s f t = f + j + t.size ∧ f + j + t.size ≤ s.size ∧ At s t (f + j) ∧ ∀ i, i < j → ¬ At s t (f + i)) := by
  have hz := ext_size s f s.size (Nat.le_refl _)
  have hz' : (s.extract f s.size).data.toList.length = s.size - f := hz
  have ht' : t.data.toList.length = t.size := rfl
  have key : ∀ j, f + j + t.size ≤ s.size → (Lib.occAt (s.extract f s.size).data.toList t.data.toList j = true ↔ At s t (f + j)) := fun j hj => by
    rw [occ_iff _ _ _ (by omega)]
    have hx : ∀ i, i < t.size → bt (s.extract f s.size) (j + i) = bt s (f + j + i) := fun i hi => by rw [bt_ext s f s.size (j + i) (by omega) (Nat.le_refl _), Nat.add_assoc]
    constructor
    · intro h i hi
      rw [← hx i hi]; exact h i hi
    · intro h i hi
      rw [hx i hi]; exact h i hi
  unfold closedN idx
  rcases Lib.index_spec (s.extract f s.size).data.toList t.data.toList with ⟨h1, h2⟩ | ⟨j, h1, h2, h3, h4⟩
  · left
    refine ⟨by rw [h1]; rfl, fun j hj ha => ?_⟩
    have := h2 j (by omega)
    rw [(key j hj).2 ha] at this
    cases this
  · right
    have hr := (Lib.occAt_room h3).resolve_right (fun e => by rw [e] at ht'; simp at ht'; omega)
    refine ⟨j, by rw [h1, if_pos (by omega)]; omega, by omega, (key j (by omega)).1 h3, fun i hi ha => ?_⟩
    have := h4 i hi
    rw [(key i (by omega)).2 ha] at this
    cases this

theorem closeI_none (t : ByteArray) : ∀ f k, (∀ i, k ≤ i → i ≤ t.size → ¬ (bt t (i - 2) = 42 ∧ bt t (i - 1) = 47)) → closeI t f k = -1
  | 0, k, h => rfl
  | f + 1, k, h => by
    rw [closeI]
    split
    · rename_i hk
      rw [if_neg (h k (Nat.le_refl _) hk)]
      exact closeI_none t f (k + 1) (fun i h1 h2 => h i (by omega) h2)
    · rfl
theorem closeI_some (t : ByteArray) (n : Nat) (hn : n ≤ t.size) (hp : bt t (n - 2) = 42 ∧ bt t (n - 1) = 47) : ∀ f k, k ≤ n → n < k + f → (∀ i, k ≤ i → i < n → ¬ (bt t (i - 2) = 42 ∧ bt t (i - 1) = 47)) → closeI t f k = n
  | 0, k, h1, h2, h => by omega
  | f + 1, k, h1, h2, h => by
    rw [closeI, if_pos (by omega)]
    by_cases e : k = n
    · subst e; rw [if_pos hp]
    · rw [if_neg (h k (Nat.le_refl _) (by omega))]
      exact closeI_some t n hn hp f (k + 1) (by omega) (by omega) (fun i h3 h4 => h i (by omega) h4)
/-- A note of several lines: the piece's length and the byte behind it. -/
theorem close_same (t : ByteArray) (p : Nat) (hp : p + 2 ≤ t.size) : (closedN (t.extract p t.size) 2 sClose = 0 ∧ closeI t t.size (p + 4) = -1) ∨ (4 ≤ closedN (t.extract p t.size) 2 sClose ∧ closeI t t.size (p + 4) = ((p + closedN (t.extract p t.size) 2 sClose : Nat) : Int)) := by
  have hz := ext_size t p t.size (Nat.le_refl _)
  have h2 : sClose.size = 2 := rfl
  have b0 : bt sClose 0 = 42 := rfl
  have b1 : bt sClose 1 = 47 := rfl
  have hat : ∀ j, 2 + j + 2 ≤ (t.extract p t.size).size → (At (t.extract p t.size) sClose (2 + j) ↔ bt t (p + j + 4 - 2) = 42 ∧ bt t (p + j + 4 - 1) = 47) := fun j hj => by
    have x0 := bt_ext t p t.size (2 + j + 0) (by omega) (Nat.le_refl _)
    have x1 := bt_ext t p t.size (2 + j + 1) (by omega) (Nat.le_refl _)
    rw [show p + (2 + j + 0) = p + j + 4 - 2 by omega] at x0
    rw [show p + (2 + j + 1) = p + j + 4 - 1 by omega] at x1
    constructor
    · intro h
      have y0 := h 0 (by omega)
      have y1 := h 1 (by omega)
      omega
    · rintro ⟨y0, y1⟩ i hi
      rcases (by omega : i = 0 ∨ i = 1) with rfl | rfl
      · omega
      · omega
  rcases closed_spec (t.extract p t.size) 2 sClose (by omega) (by omega) with ⟨e, h⟩ | ⟨j, e, hj, ha, h⟩
  · left
    refine ⟨e, closeI_none t _ _ (fun i h3 h4 hb => ?_)⟩
    have hj : 2 + (i - p - 4) + 2 ≤ (t.extract p t.size).size := by omega
    refine h (i - p - 4) (by omega) ((hat (i - p - 4) hj).2 ?_)
    rw [show p + (i - p - 4) + 4 = i by omega]
    exact hb
  · right
    rw [h2] at e hj
    have hb := (hat j hj).1 ha
    refine ⟨by omega, ?_⟩
    rw [e, show p + (2 + j + 2) = p + j + 4 by omega]
    refine closeI_some t _ (by omega) hb _ _ (by omega) (by omega) (fun i h3 h4 hb' => ?_)
    refine h (i - p - 4) (by omega) ((hat (i - p - 4) (by omega)).2 ?_)
    rw [show p + (i - p - 4) + 4 = i by omega]
    exact hb'

theorem tick_none (t : ByteArray) : ∀ f k, (∀ i, k ≤ i → i < t.size → bt t i ≠ 96) → quoteI t 96 f k = -1
  | 0, k, h => rfl
  | f + 1, k, h => by
    rw [quoteI]
    split
    · rename_i hk
      rw [if_neg (by omega), if_neg (h k (Nat.le_refl _) hk), if_neg (by omega)]
      exact tick_none t f (k + 1) (fun i h1 h2 => h i (by omega) h2)
    · rfl
theorem tick_some (t : ByteArray) (n : Nat) (hn : n < t.size) (hp : bt t n = 96) : ∀ f k, k ≤ n → n < k + f → (∀ i, k ≤ i → i < n → bt t i ≠ 96) → quoteI t 96 f k = ((n + 1 : Nat) : Int)
  | 0, k, h1, h2, h => by omega
  | f + 1, k, h1, h2, h => by
    rw [quoteI, if_pos (by omega), if_neg (by omega)]
    by_cases e : k = n
    · subst e; rw [if_pos hp]
    · rw [if_neg (h k (Nat.le_refl _) (by omega)), if_neg (by omega)]
      exact tick_some t n hn hp f (k + 1) (by omega) (by omega) (fun i h3 h4 => h i (by omega) h4)
theorem tick_same (t : ByteArray) (p : Nat) (hp : p + 1 ≤ t.size) : (closedN (t.extract p t.size) 1 sTick = 0 ∧ quoteI t 96 t.size (p + 1) = -1) ∨ (2 ≤ closedN (t.extract p t.size) 1 sTick ∧ quoteI t 96 t.size (p + 1) = ((p + closedN (t.extract p t.size) 1 sTick : Nat) : Int)) := by
  have hz := ext_size t p t.size (Nat.le_refl _)
  have h2 : sTick.size = 1 := rfl
  have b0 : bt sTick 0 = 96 := rfl
  have hat : ∀ j, 1 + j + 1 ≤ (t.extract p t.size).size → (At (t.extract p t.size) sTick (1 + j) ↔ bt t (p + 1 + j) = 96) := fun j hj => by
    have x0 := bt_ext t p t.size (1 + j + 0) (by omega) (Nat.le_refl _)
    rw [show p + (1 + j + 0) = p + 1 + j by omega] at x0
    constructor
    · intro h
      have y0 := h 0 (by omega)
      omega
    · rintro y0 i hi
      obtain rfl : i = 0 := by omega
      omega
  rcases closed_spec (t.extract p t.size) 1 sTick (by omega) (by omega) with ⟨e, h⟩ | ⟨j, e, hj, ha, h⟩
  · left
    refine ⟨e, tick_none t _ _ (fun i h3 h4 hb => ?_)⟩
    refine h (i - p - 1) (by omega) ((hat (i - p - 1) (by omega)).2 ?_)
    rw [show p + 1 + (i - p - 1) = i by omega]
    exact hb
  · right
    rw [h2] at e hj
    have hb := (hat j hj).1 ha
    refine ⟨by omega, ?_⟩
    rw [e, show p + (1 + j + 1) = p + 1 + j + 1 by omega]
    refine tick_some t _ (by omega) hb _ _ (by omega) (by omega) (fun i h3 h4 hb' => ?_)
    refine h (i - p - 1) (by omega) ((hat (i - p - 1) (by omega)).2 ?_)
    rw [show p + 1 + (i - p - 1) = i by omega]
    exact hb'

theorem quoteI_more (t : ByteArray) (q : Nat) : ∀ f g k, t.size ≤ k + f → t.size ≤ k + g → quoteI t q f k = quoteI t q g k
  | 0, 0, k, _, _ => rfl
  | 0, g + 1, k, h, _ => by rw [quoteI, quoteI, if_neg (by omega)]
  | f + 1, 0, k, _, h => by rw [quoteI, quoteI, if_neg (by omega)]
  | f + 1, g + 1, k, h1, h2 => by
    rw [quoteI, quoteI, quoteI_more t q f g (k + 1) (by omega) (by omega), quoteI_more t q f g (k + 2) (by omega) (by omega)]
theorem quoteI_past (t : ByteArray) (q f k : Nat) (h : t.size ≤ k) : quoteI t q f k = -1 := by
  cases f with
  | zero => rfl
  | succ f => rw [quoteI, if_neg (by omega)]
theorem quoteI_skip (t : ByteArray) (k : Nat) : ∀ n, k + n ≤ t.size → (∀ i, i < n → 128 ≤ bt t (k + i)) → quoteI t 34 t.size k = quoteI t 34 t.size (k + n)
  | 0, h1, h2 => rfl
  | n + 1, h1, h2 => by
    rw [quoteI_skip t k n (by omega) (fun i hi => h2 i (by omega)), quoteI_more t 34 t.size (t.size + 1) (k + n) (by omega) (by omega), quoteI]
    have := h2 n (by omega)
    rw [if_pos (by omega), if_neg (by omega), if_neg (by omega), if_neg (by omega)]
    rfl

theorem textF_end (r : ByteArray) (k p : Nat) (b : Bool) (h : ¬ p < r.size) : textF r k p b = 0 := by
  cases k with
  | zero => rfl
  | succ k => rw [textF, if_neg h]
theorem textF_nl (r : ByteArray) (k p : Nat) (b : Bool) (h : p < r.size) (h1 : sig r p = 10) : textF r (k + 1) p b = 0 := by
  rw [textF, if_pos h, if_pos h1]
theorem textF_taken (r : ByteArray) (k p : Nat) (h : p < r.size) (h1 : sig r p ≠ 10) : textF r (k + 1) p true = textF r k (p + wid r p) false := by
  rw [textF, if_pos h, if_neg h1, if_pos rfl]
theorem textF_stroke (r : ByteArray) (k p : Nat) (h : p < r.size) (h1 : sig r p = 92) : textF r (k + 1) p false = textF r k (p + wid r p) true := by
  rw [textF, if_pos h, if_neg (by omega), if_neg (by simp), if_pos h1]
theorem textF_hit (r : ByteArray) (k p : Nat) (h : p < r.size) (h1 : sig r p = 34) : textF r (k + 1) p false = p + 2 := by
  rw [textF, if_pos h, if_neg (by omega), if_neg (by simp), if_neg (by omega), if_pos h1]
theorem textF_else (r : ByteArray) (k p : Nat) (h : p < r.size) (h1 : sig r p ≠ 10) (h2 : sig r p ≠ 92) (h3 : sig r p ≠ 34) : textF r (k + 1) p false = textF r k (p + wid r p) false := by
  rw [textF, if_pos h, if_neg h1, if_neg (by simp), if_neg h2, if_neg h3]
theorem quoteI_nl (t : ByteArray) (k : Nat) (h : k < t.size) (h1 : bt t k = 10) : quoteI t 34 t.size k = -1 := by
  rw [quoteI_more t 34 t.size (t.size + 1) k (by omega) (by omega), quoteI, if_pos h, if_pos ⟨rfl, h1⟩]
theorem quoteI_hit (t : ByteArray) (k : Nat) (h : k < t.size) (h1 : bt t k = 34) : quoteI t 34 t.size k = ((k + 1 : Nat) : Int) := by
  rw [quoteI_more t 34 t.size (t.size + 1) k (by omega) (by omega), quoteI, if_pos h, if_neg (by omega), if_pos h1]
theorem quoteI_stroke (t : ByteArray) (k : Nat) (h : k < t.size) (h1 : bt t k = 92) : quoteI t 34 t.size k = if k + 1 < t.size ∧ bt t (k + 1) = 10 then -1 else quoteI t 34 t.size (k + 2) := by
  rw [quoteI_more t 34 t.size (t.size + 1) k (by omega) (by omega), quoteI, if_pos h, if_neg (by omega), if_neg (by omega), if_pos ⟨rfl, h1⟩]
theorem quoteI_else (t : ByteArray) (k : Nat) (h : k < t.size) (h1 : bt t k ≠ 10) (h2 : bt t k ≠ 92) (h3 : bt t k ≠ 34) : quoteI t 34 t.size k = quoteI t 34 t.size (k + 1) := by
  rw [quoteI_more t 34 t.size (t.size + 1) k (by omega) (by omega), quoteI, if_pos h, if_neg (by omega), if_neg h3, if_neg (by omega)]

def told34 (p V : Nat) : Int := if V = 0 then -1 else ((p + V : Nat) : Int)
theorem text_same (t : ByteArray) (p : Nat) (hp : p + 1 ≤ t.size) : ∀ k j, t.size ≤ p + 1 + j + k → p + 1 + j ≤ t.size →
    quoteI t 34 t.size (p + 1 + j) = told34 p (textF (t.extract (p + 1) t.size) k j false) ∧
    (if p + 1 + j < t.size ∧ bt t (p + 1 + j) = 10 then -1 else quoteI t 34 t.size (p + 1 + j + 1)) = told34 p (textF (t.extract (p + 1) t.size) k j true) := by
  have hz := ext_size t (p + 1) t.size (Nat.le_refl _)
  have hbt : ∀ j, p + 1 + j < t.size → bt (t.extract (p + 1) t.size) j = bt t (p + 1 + j) := fun j hj => bt_ext t (p + 1) t.size j hj (Nat.le_refl _)
  generalize t.extract (p + 1) t.size = r at *
  intro k
  induction k with
  | zero =>
    intro j h1 h2
    rw [quoteI_past _ _ _ _ (by omega), quoteI_past _ _ _ _ (by omega), if_neg (by omega)]
    exact ⟨rfl, rfl⟩
  | succ k ih =>
    intro j h1 h2
    by_cases hj : p + 1 + j < t.size
    · have hb := hbt j hj
      have hjr : j < r.size := by omega
      have hw := wid_pos r j
      have hwl := wid_le r j hjr
      rcases sign_kind r j with ⟨e1, e2, e3⟩ | ⟨e1, e2, e3⟩
      · have ih := ih (j + 1) (by omega) (by omega)
        rw [← Nat.add_assoc (p + 1) j 1] at ih
        rw [hb] at e2
        by_cases c10 : bt t (p + 1 + j) = 10
        · rw [quoteI_nl t _ hj c10, if_pos ⟨hj, c10⟩, textF_nl r k j false hjr (by omega), textF_nl r k j true hjr (by omega)]
          exact ⟨rfl, rfl⟩
        · rw [if_neg (by omega), textF_taken r k j hjr (by omega), e1]
          refine ⟨?_, ih.1⟩
          by_cases c34 : bt t (p + 1 + j) = 34
          · rw [quoteI_hit t _ hj c34, textF_hit r k j hjr (by omega)]
            unfold told34
            rw [if_neg (by omega)]
            omega
          · by_cases c92 : bt t (p + 1 + j) = 92
            · rw [quoteI_stroke t _ hj c92, textF_stroke r k j hjr (by omega), e1]
              exact ih.2
            · rw [quoteI_else t _ hj c10 c92 c34, textF_else r k j hjr (by omega) (by omega) (by omega), e1]
              exact ih.1
      · have ih := ih (j + wid r j) (by omega) (by omega)
        have hc : ∀ i, i < wid r j → 128 ≤ bt t (p + 1 + j + i) := fun i hi => by
          have := e3 i hi
          rw [hbt (j + i) (by omega), ← Nat.add_assoc] at this
          exact this
        have s1 := quoteI_skip t (p + 1 + j) (wid r j) (by omega) hc
        have s2 := quoteI_skip t (p + 1 + j + 1) (wid r j - 1) (by omega) (fun i hi => by
          have := hc (1 + i) (by omega)
          rw [← Nat.add_assoc] at this
          exact this)
        rw [show p + 1 + j + 1 + (wid r j - 1) = p + 1 + (j + wid r j) by omega] at s2
        rw [show p + 1 + j + wid r j = p + 1 + (j + wid r j) by omega] at s1
        rw [textF_taken r k j hjr (by omega), textF_else r k j hjr (by omega) (by omega) (by omega), if_neg (by omega), s1, s2]
        exact ⟨ih.1, ih.1⟩
    · rw [textF_end r _ j false (by omega), textF_end r _ j true (by omega), quoteI_past _ _ _ _ (by omega), quoteI_past _ _ _ _ (by omega), if_neg (by omega)]
      exact ⟨rfl, rfl⟩
theorem quote_same (t : ByteArray) (p : Nat) (hp : p + 1 ≤ t.size) : quoteI t 34 t.size (p + 1) = told34 p (textN (t.extract p t.size)) := by
  have e : (t.extract p t.size).extract 1 (t.extract p t.size).size = t.extract (p + 1) t.size := by
    rw [ByteArray.extract_extract, ext_size _ _ _ (Nat.le_refl _)]
    congr 1
    omega
  unfold textN
  rw [e]
  have h := (text_same t p hp (t.extract (p + 1) t.size).size 0 (by rw [ext_size _ _ _ (Nat.le_refl _)]; omega) (by omega)).1
  rw [Nat.add_zero] at h
  exact h
end Go.Proofs.YthpengbglbgidaaDoor
