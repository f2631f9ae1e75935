/- The scanner byte by byte, as the document has it. No program stands in it. The scanner sign by sign tells what it tells byte by byte. No program stands in it. A token that stands elsewhere, a blank behind it, is scanned as it was. No program stands in it. Tokens that are written with blanks between are scanned as they were. No program stands in it. -/
import Derived.Test.YtijinpnbhnfiiaaDoorTok22
namespace Go.Proofs.YtijinpnbhnfiiaaDoor
open Go.RowKit
set_option linter.unusedVariables false

/-! ### Pieces, byte by byte -/
/-- From p on: the first byte that is not of a sort; the end, if there is none. -/
def runB (t : ByteArray) (f : Int → Bool) : Nat → Nat → Nat
  | 0, p => p
  | k + 1, p => if p < t.size then (if f (bt t p) then runB t f k (p + 1) else p) else p
/-- From k on: the first byte with the two bytes of a note's end ahead of it; -1, if there is none. -/
def closeI (t : ByteArray) : Nat → Nat → Int
  | 0, _ => -1
  | f + 1, k => if k ≤ t.size then (if bt t (k - 2) = 42 ∧ bt t (k - 1) = 47 then (k : Int) else closeI t f (k + 1)) else -1
/-- The end of the note at p; 0: there is none; -1: it does not end. -/
def noteI (t : ByteArray) (p : Nat) : Int :=
  if t.size < p + 2 ∨ bt t p ≠ 47 then 0
  else if bt t (p + 1) = 47 then (runB t noEnd t.size p : Int)
  else if bt t (p + 1) ≠ 42 then 0
  else closeI t t.size (p + 4)
/-- The end of the text with the quote q, from k on. -/
def quoteI (t : ByteArray) (q : Nat) : Nat → Nat → Int
  | 0, _ => -1
  | f + 1, k => if k < t.size then
      (if q = 34 ∧ bt t k = 10 then -1
      else if bt t k = q then ((k + 1 : Nat) : Int)
      else if q = 34 ∧ bt t k = 92 then (if k + 1 < t.size ∧ bt t (k + 1) = 10 then -1 else quoteI t q f (k + 2))
      else quoteI t q f (k + 1))
    else -1

def feff (t : ByteArray) (p : Nat) : Bool := p == 0 && (decide (3 ≤ t.size) && (bt t 0 == 239 && (bt t 1 == 187 && bt t 2 == 191)))
/-- One step: the state's place is the next byte. -/
def stepB (t : ByteArray) (x : St) : Option St :=
  if feff t x.at_ then some ⟨3, x.toks, x.notes⟩
  else if bt t x.at_ = 10 then some ⟨x.at_ + 1, endL x.toks x.at_, x.notes⟩
  else if bt t x.at_ = 32 ∨ bt t x.at_ = 9 ∨ bt t x.at_ = 13 then some ⟨x.at_ + 1, x.toks, x.notes⟩
  else if noteI t x.at_ ≠ 0 then
    (if noteI t x.at_ < 0 then none
    else some ⟨(noteI t x.at_).toNat, noteToks (t.extract x.at_ (noteI t x.at_).toNat) x.toks x.at_, x.notes ++ [⟨0, t.extract x.at_ (noteI t x.at_).toNat, x.at_⟩]⟩)
  else if isIn (bt t x.at_) then
    some ⟨runB t isIn t.size (x.at_ + 1), x.toks ++ [⟨if isLet (bt t x.at_) then 1 + wordN (t.extract x.at_ (runB t isIn t.size (x.at_ + 1))) else 4, t.extract x.at_ (runB t isIn t.size (x.at_ + 1)), x.at_⟩], x.notes⟩
  else if bt t x.at_ = 34 ∨ bt t x.at_ = 96 then
    (if quoteI t (bt t x.at_) t.size (x.at_ + 1) < 0 then none
    else some ⟨(quoteI t (bt t x.at_) t.size (x.at_ + 1)).toNat, x.toks ++ [⟨5, t.extract x.at_ (quoteI t (bt t x.at_) t.size (x.at_ + 1)).toNat, x.at_⟩], x.notes⟩)
  else if signN (t.extract x.at_ t.size) = 0 then none
  else some ⟨x.at_ + signN (t.extract x.at_ t.size), x.toks ++ [⟨6, t.extract x.at_ (x.at_ + signN (t.extract x.at_ t.size)), x.at_⟩], x.notes⟩
def scanF (t : ByteArray) : Nat → St → Except Nat St
  | 0, x => .ok x
  | k + 1, x => if x.at_ < t.size then (match stepB t x with
      | none => .error x.at_
      | some y => scanF t k y)
    else .ok x
def scanB (s : ByteArray) : Out :=
  if 65536 < s.size then ⟨12, 65536, st0⟩
  else if 0 ≤ wrongR s then ⟨2, wrongR s, st0⟩
  else match scanF s s.size st0 with
    | .ok x => ⟨0, 0, ⟨x.at_, endL x.toks s.size, x.notes⟩⟩
    | .error p => ⟨3, p, st0⟩

/-! ### Rows -/
theorem runB_ge (t : ByteArray) (f : Int → Bool) : ∀ k p, p ≤ runB t f k p
  | 0, p => Nat.le_refl _
  | k + 1, p => by
    rw [runB]
    split
    · split
      · have := runB_ge t f k (p + 1); omega
      · exact Nat.le_refl _
    · exact Nat.le_refl _
theorem runB_le (t : ByteArray) (f : Int → Bool) : ∀ k p, p ≤ t.size → runB t f k p ≤ t.size
  | 0, p, h => h
  | k + 1, p, h => by
    rw [runB]
    split
    · split
      · exact runB_le t f k (p + 1) (by omega)
      · exact h
    · exact h
theorem runB_more (t : ByteArray) (f : Int → Bool) : ∀ k j p, t.size ≤ p + k → t.size ≤ p + j → runB t f k p = runB t f j p
  | 0, 0, p, _, _ => rfl
  | 0, j + 1, p, h, _ => by rw [runB, runB, if_neg (by omega)]
  | k + 1, 0, p, _, h => by rw [runB, runB, if_neg (by omega)]
  | k + 1, j + 1, p, h1, h2 => by
    rw [runB, runB, runB_more t f k j (p + 1) (by omega) (by omega)]
theorem runB_step (t : ByteArray) (f : Int → Bool) (k j p : Nat) (h : p < t.size) (hf : f (bt t p) = true) (hk : t.size ≤ p + k) (hj : t.size ≤ p + 1 + j) : runB t f k p = runB t f j (p + 1) := by
  rw [runB_more t f k (j + 1) p hk (by omega), runB, if_pos h, if_pos hf]
/-- Over bytes of the sort. -/
theorem runB_skip (t : ByteArray) (f : Int → Bool) (p : Nat) : ∀ n k, p + n ≤ t.size → (∀ i, i < n → f (bt t (p + i)) = true) → t.size ≤ p + k → runB t f k p = runB t f t.size (p + n)
  | 0, k, h1, h2, h3 => runB_more t f k _ _ h3 (by omega)
  | n + 1, k, h1, h2, h3 => by
    rw [runB_skip t f p n k (by omega) (fun i hi => h2 i (by omega)) h3]
    exact runB_step t f _ _ (p + n) (by omega) (h2 n (by omega)) (by omega) (by omega)
theorem runB_stop (t : ByteArray) (f : Int → Bool) (k p : Nat) (h : t.size ≤ p ∨ f (bt t p) = false) : runB t f k p = p := by
  cases k with
  | zero => rfl
  | succ k =>
    rw [runB]
    rcases h with h | h
    · rw [if_neg (by omega)]
    · rw [h]; simp

/-- The row of signs is that of bytes. -/
theorem rowF_runB (t : ByteArray) (f : Int → Bool) (hf : (∀ c, 128 ≤ c → f c = true) ∨ (∀ c, 128 ≤ c → f c = false)) : ∀ k p, p ≤ t.size → t.size ≤ p + k → rowF t f k p = runB t f t.size p
  | 0, p, h1, h2 => by rw [rowF, runB_stop _ _ _ _ (.inl (by omega))]; omega
  | k + 1, p, h1, h2 => by
    rw [rowF]
    by_cases hp : p < t.size
    · rw [if_pos hp]
      have hw := wid_pos t p
      have hwl := wid_le t p hp
      rcases sign_kind t p with ⟨e1, e2, e3⟩ | ⟨e1, e2, e3⟩
      · rw [e2]
        cases hb : f (bt t p)
        · rw [runB_stop _ _ _ _ (.inr hb)]; rfl
        · rw [if_pos rfl, rowF_runB t f hf k _ hwl (by omega), e1]
          exact (runB_step t f _ _ p hp hb (by omega) (by omega)).symm
      · rcases hf with hf | hf
        · rw [hf _ (by omega), if_pos rfl, rowF_runB t f (.inl hf) k _ hwl (by omega)]
          exact (runB_skip t f p _ _ hwl (fun i hi => hf _ (by have := e3 i hi; omega)) (by omega)).symm
        · rw [hf (sig t p) (by omega), runB_stop _ _ _ _ (.inr (hf _ (by omega)))]; rfl
    · rw [if_neg hp, runB_stop _ _ _ _ (.inl (by omega))]; omega

theorem runB_ext (t : ByteArray) (f : Int → Bool) (a : Nat) (ha : a ≤ t.size) : ∀ k j p, t.size ≤ a + p + k → t.size ≤ a + p + j → a + runB (t.extract a t.size) f k p = runB t f j (a + p)
  | 0, j, p, h1, h2 => by rw [runB, runB_stop _ _ _ _ (.inl (by omega))]
  | k + 1, j, p, h1, h2 => by
    rw [runB]
    have hz := ext_size t a t.size (Nat.le_refl _)
    by_cases hp : a + p < t.size
    · rw [if_pos (by omega), bt_ext t a t.size p (by omega) (Nat.le_refl _)]
      cases hb : f (bt t (a + p))
      · rw [runB_stop _ _ _ _ (.inr hb)]; rfl
      · rw [if_pos rfl, runB_ext t f a ha k t.size (p + 1) (by omega) (by omega)]
        exact (runB_step t f _ _ (a + p) hp hb (by omega) (by omega)).symm
    · rw [if_neg (by omega), runB_stop _ _ _ _ (.inl (by omega))]
/-- How long the row is that begins at p. -/
theorem rowN_runB (t : ByteArray) (p : Nat) (hp : p ≤ t.size) (f : Int → Bool) (hf : (∀ c, 128 ≤ c → f c = true) ∨ (∀ c, 128 ≤ c → f c = false)) : p + rowN (t.extract p t.size) f = runB t f t.size p := by
  unfold rowN
  rw [rowF_runB _ f hf _ 0 (Nat.zero_le _) (by omega), runB_ext t f p hp _ t.size 0 (by rw [ext_size _ _ _ (Nat.le_refl _)]; omega) (by omega)]
  rfl

theorem noEnd_big : ∀ c : Int, 128 ≤ c → noEnd c = true := fun c h => by unfold noEnd; simp; omega
theorem isIn_big : ∀ c : Int, 128 ≤ c → isIn c = false := fun c h => by
  cases e : isIn c
  · rfl
  · have := isIn_lt e; omega

/-! ### What is closed -/
theorem ba_ext (a b : ByteArray) (hs : a.size = b.size) (h : ∀ i, i < a.size → bt a i = bt b i) : a = b := by
  apply ByteArray.ext
  apply Array.ext'
  apply List.ext_getElem?
  intro i
  rcases Nat.lt_or_ge i a.size with hi | hi
  · rw [bt_list a i hi, bt_list b i (by omega), h i hi]
  · rw [List.getElem?_eq_none (by exact hi), List.getElem?_eq_none (by have : b.data.toList.length = b.size := rfl; omega)]
theorem occ_iff (s t : ByteArray) (j : Nat) (hj : j + t.size ≤ s.size) : Lib.occAt s.data.toList t.data.toList j = true ↔ ∀ i, i < t.size → bt s (j + i) = bt t i := by
  rw [Lib.occ_of_piece s t j hj, beq_iff_eq]
  have hx : ∀ i, i < t.size → bt (s.extract j (j + t.size)) i = bt s (j + i) := fun i hi => bt_ext s j (j + t.size) i (by omega) hj
  constructor
  · intro h i hi
    have e : s.extract j (j + t.size) = t := by
      apply ByteArray.ext
      apply Array.ext'
      rw [ByteArray.toList_eq, ByteArray.toList_eq] at h
      exact h
    rw [e] at hx
    exact (hx i hi).symm
  · intro h
    have e : s.extract j (j + t.size) = t := ba_ext _ _ (by rw [ext_size _ _ _ hj]; omega) (fun i hi => by
      rw [ext_size _ _ _ hj] at hi
      rw [hx i (by omega)]
      exact h i (by omega))
    rw [e]
def At (s t : ByteArray) (j : Nat) : Prop := ∀ i, i < t.size → bt s (j + i) = bt t i
theorem closed_spec (s : ByteArray) (f : Nat) (t : ByteArray) (hf : f ≤ s.size) (h0 : 0 < t.size) :
    (closedN s f t = 0 ∧ ∀ j, f + j + t.size ≤ s.size → ¬ At s t (f + j)) ∨ (∃ j, closedN s f t = f + j + t.size ∧ f + j + t.size ≤ s.size ∧ At s t (f + j) ∧ ∀ i, i < j → ¬ At s t (f + i)) := by
  have hz := ext_size s f s.size (Nat.le_refl _)
  have hz' : (s.extract f s.size).data.toList.length = s.size - f := hz
  have ht' : t.data.toList.length = t.size := rfl
  have key : ∀ j, f + j + t.size ≤ s.size → (Lib.occAt (s.extract f s.size).data.toList t.data.toList j = true ↔ At s t (f + j)) := fun j hj => by
    rw [occ_iff _ _ _ (by omega)]
    have hx : ∀ i, i < t.size → bt (s.extract f s.size) (j + i) = bt s (f + j + i) := fun i hi => by rw [bt_ext s f s.size (j + i) (by omega) (Nat.le_refl _), Nat.add_assoc]
    constructor
    · intro h i hi
      rw [← hx i hi]; exact h i hi
    · intro h i hi
      rw [hx i hi]; exact h i hi
  unfold closedN idx
  rcases Lib.index_spec (s.extract f s.size).data.toList t.data.toList with ⟨h1, h2⟩ | ⟨j, h1, h2, h3, h4⟩
  · left
    refine ⟨by rw [h1]; rfl, fun j hj ha => ?_⟩
    have := h2 j (by omega)
    rw [(key j hj).2 ha] at this
    cases this
  · right
    have hr := (Lib.occAt_room h3).resolve_right (fun e => by rw [e] at ht'; simp at ht'; omega)
    refine ⟨j, by rw [h1, if_pos (by omega)]; omega, by omega, (key j (by omega)).1 h3, fun i hi ha => ?_⟩
    have := h4 i hi
    rw [(key i (by omega)).2 ha] at this
    cases this

theorem closeI_none (t : ByteArray) : ∀ f k, (∀ i, k ≤ i → i ≤ t.size → ¬ (bt t (i - 2) = 42 ∧ bt t (i - 1) = 47)) → closeI t f k = -1
  | 0, k, h => rfl
  | f + 1, k, h => by
    rw [closeI]
    split
    · rename_i hk
      rw [if_neg (h k (Nat.le_refl _) hk)]
      exact closeI_none t f (k + 1) (fun i h1 h2 => h i (by omega) h2)
    · rfl
theorem closeI_some (t : ByteArray) (n : Nat) (hn : n ≤ t.size) (hp : bt t (n - 2) = 42 ∧ bt t (n - 1) = 47) : ∀ f k, k ≤ n → n < k + f → (∀ i, k ≤ i → i < n → ¬ (bt t (i - 2) = 42 ∧ bt t (i - 1) = 47)) → closeI t f k = n
  | 0, k, h1, h2, h => by omega
  | f + 1, k, h1, h2, h => by
    rw [closeI, if_pos (by omega)]
    by_cases e : k = n
    · subst e; rw [if_pos hp]
    · rw [if_neg (h k (Nat.le_refl _) (by omega))]
      exact closeI_some t n hn hp f (k + 1) (by omega) (by omega) (fun i h3 h4 => h i (by omega) h4)
/-- A note of several lines: the piece's length and the byte behind it. -/
theorem close_same (t : ByteArray) (p : Nat) (hp : p + 2 ≤ t.size) : (closedN (t.extract p t.size) 2 sClose = 0 ∧ closeI t t.size (p + 4) = -1) ∨ (4 ≤ closedN (t.extract p t.size) 2 sClose ∧ closeI t t.size (p + 4) = ((p + closedN (t.extract p t.size) 2 sClose : Nat) : Int)) := by
  have hz := ext_size t p t.size (Nat.le_refl _)
  have h2 : sClose.size = 2 := rfl
  have b0 : bt sClose 0 = 42 := rfl
  have b1 : bt sClose 1 = 47 := rfl
  have hat : ∀ j, 2 + j + 2 ≤ (t.extract p t.size).size → (At (t.extract p t.size) sClose (2 + j) ↔ bt t (p + j + 4 - 2) = 42 ∧ bt t (p + j + 4 - 1) = 47) := fun j hj => by
    have x0 := bt_ext t p t.size (2 + j + 0) (by omega) (Nat.le_refl _)
    have x1 := bt_ext t p t.size (2 + j + 1) (by omega) (Nat.le_refl _)
    rw [show p + (2 + j + 0) = p + j + 4 - 2 by omega] at x0
    rw [show p + (2 + j + 1) = p + j + 4 - 1 by omega] at x1
    constructor
    · intro h
      have y0 := h 0 (by omega)
      have y1 := h 1 (by omega)
      omega
    · rintro ⟨y0, y1⟩ i hi
      rcases (by omega : i = 0 ∨ i = 1) with rfl | rfl
      · omega
      · omega
  rcases closed_spec (t.extract p t.size) 2 sClose (by omega) (by omega) with ⟨e, h⟩ | ⟨j, e, hj, ha, h⟩
  · left
    refine ⟨e, closeI_none t _ _ (fun i h3 h4 hb => ?_)⟩
    have hj : 2 + (i - p - 4) + 2 ≤ (t.extract p t.size).size := by omega
    refine h (i - p - 4) (by omega) ((hat (i - p - 4) hj).2 ?_)
    rw [show p + (i - p - 4) + 4 = i by omega]
    exact hb
  · right
    rw [h2] at e hj
    have hb := (hat j hj).1 ha
    refine ⟨by omega, ?_⟩
    rw [e, show p + (2 + j + 2) = p + j + 4 by omega]
    refine closeI_some t _ (by omega) hb _ _ (by omega) (by omega) (fun i h3 h4 hb' => ?_)
    refine h (i - p - 4) (by omega) ((hat (i - p - 4) (by omega)).2 ?_)
    rw [show p + (i - p - 4) + 4 = i by omega]
    exact hb'

theorem tick_none (t : ByteArray) : ∀ f k, (∀ i, k ≤ i → i < t.size → bt t i ≠ 96) → quoteI t 96 f k = -1
  | 0, k, h => rfl
  | f + 1, k, h => by
    rw [quoteI]
    split
    · rename_i hk
      rw [if_neg (by omega), if_neg (h k (Nat.le_refl _) hk), if_neg (by omega)]
      exact tick_none t f (k + 1) (fun i h1 h2 => h i (by omega) h2)
    · rfl
theorem tick_some (t : ByteArray) (n : Nat) (hn : n < t.size) (hp : bt t n = 96) : ∀ f k, k ≤ n → n < k + f → (∀ i, k ≤ i → i < n → bt t i ≠ 96) → quoteI t 96 f k = ((n + 1 : Nat) : Int)
  | 0, k, h1, h2, h => by omega
  | f + 1, k, h1, h2, h => by
    rw [quoteI, if_pos (by omega), if_neg (by omega)]
    by_cases e : k = n
    · subst e; rw [if_pos hp]
    · rw [if_neg (h k (Nat.le_refl _) (by omega)), if_neg (by omega)]
      exact tick_some t n hn hp f (k + 1) (by omega) (by omega) (fun i h3 h4 => h i (by omega) h4)
theorem tick_same (t : ByteArray) (p : Nat) (hp : p + 1 ≤ t.size) : (closedN (t.extract p t.size) 1 sTick = 0 ∧ quoteI t 96 t.size (p + 1) = -1) ∨ (2 ≤ closedN (t.extract p t.size) 1 sTick ∧ quoteI t 96 t.size (p + 1) = ((p + closedN (t.extract p t.size) 1 sTick : Nat) : Int)) := by
  have hz := ext_size t p t.size (Nat.le_refl _)
  have h2 : sTick.size = 1 := rfl
  have b0 : bt sTick 0 = 96 := rfl
  have hat : ∀ j, 1 + j + 1 ≤ (t.extract p t.size).size → (At (t.extract p t.size) sTick (1 + j) ↔ bt t (p + 1 + j) = 96) := fun j hj => by
    have x0 := bt_ext t p t.size (1 + j + 0) (by omega) (Nat.le_refl _)
    rw [show p + (1 + j + 0) = p + 1 + j by omega] at x0
    constructor
    · intro h
      have y0 := h 0 (by omega)
      omega
    · rintro y0 i hi
      obtain rfl : i = 0 := by omega
      omega
  rcases closed_spec (t.extract p t.size) 1 sTick (by omega) (by omega) with ⟨e, h⟩ | ⟨j, e, hj, ha, h⟩
  · left
    refine ⟨e, tick_none t _ _ (fun i h3 h4 hb => ?_)⟩
    refine h (i - p - 1) (by omega) ((hat (i - p - 1) (by omega)).2 ?_)
    rw [show p + 1 + (i - p - 1) = i by omega]
    exact hb
  · right
    rw [h2] at e hj
    have hb := (hat j hj).1 ha
    refine ⟨by omega, ?_⟩
    rw [e, show p + (1 + j + 1) = p + 1 + j + 1 by omega]
    refine tick_some t _ (by omega) hb _ _ (by omega) (by omega) (fun i h3 h4 hb' => ?_)
    refine h (i - p - 1) (by omega) ((hat (i - p - 1) (by omega)).2 ?_)
    rw [show p + 1 + (i - p - 1) = i by omega]
    exact hb'

theorem quoteI_more (t : ByteArray) (q : Nat) : ∀ f g k, t.size ≤ k + f → t.size ≤ k + g → quoteI t q f k = quoteI t q g k
  | 0, 0, k, _, _ => rfl
  | 0, g + 1, k, h, _ => by rw [quoteI, quoteI, if_neg (by omega)]
  | f + 1, 0, k, _, h => by rw [quoteI, quoteI, if_neg (by omega)]
  | f + 1, g + 1, k, h1, h2 => by
    rw [quoteI, quoteI, quoteI_more t q f g (k + 1) (by omega) (by omega), quoteI_more t q f g (k + 2) (by omega) (by omega)]
theorem quoteI_past (t : ByteArray) (q f k : Nat) (h : t.size ≤ k) : quoteI t q f k = -1 := by
  cases f with
  | zero => rfl
  | succ f => rw [quoteI, if_neg (by omega)]
theorem quoteI_skip (t : ByteArray) (k : Nat) : ∀ n, k + n ≤ t.size → (∀ i, i < n → 128 ≤ bt t (k + i)) → quoteI t 34 t.size k = quoteI t 34 t.size (k + n)
  | 0, h1, h2 => rfl
  | n + 1, h1, h2 => by
    rw [quoteI_skip t k n (by omega) (fun i hi => h2 i (by omega)), quoteI_more t 34 t.size (t.size + 1) (k + n) (by omega) (by omega), quoteI]
    have := h2 n (by omega)
    rw [if_pos (by omega), if_neg (by omega), if_neg (by omega), if_neg (by omega)]
    rfl

theorem textF_end (r : ByteArray) (k p : Nat) (b : Bool) (h : ¬ p < r.size) : textF r k p b = 0 := by
  cases k with
  | zero => rfl
  | succ k => rw [textF, if_neg h]
theorem textF_nl (r : ByteArray) (k p : Nat) (b : Bool) (h : p < r.size) (h1 : sig r p = 10) : textF r (k + 1) p b = 0 := by
  rw [textF, if_pos h, if_pos h1]
theorem textF_taken (r : ByteArray) (k p : Nat) (h : p < r.size) (h1 : sig r p ≠ 10) : textF r (k + 1) p true = textF r k (p + wid r p) false := by
  rw [textF, if_pos h, if_neg h1, if_pos rfl]
theorem textF_stroke (r : ByteArray) (k p : Nat) (h : p < r.size) (h1 : sig r p = 92) : textF r (k + 1) p false = textF r k (p + wid r p) true := by
  rw [textF, if_pos h, if_neg (by omega), if_neg (by simp), if_pos h1]
theorem textF_hit (r : ByteArray) (k p : Nat) (h : p < r.size) (h1 : sig r p = 34) : textF r (k + 1) p false = p + 2 := by
  rw [textF, if_pos h, if_neg (by omega), if_neg (by simp), if_neg (by omega), if_pos h1]
theorem textF_else (r : ByteArray) (k p : Nat) (h : p < r.size) (h1 : sig r p ≠ 10) (h2 : sig r p ≠ 92) (h3 : sig r p ≠ 34) : textF r (k + 1) p false = textF r k (p + wid r p) false := by
  rw [textF, if_pos h, if_neg h1, if_neg (by simp), if_neg h2, if_neg h3]
theorem quoteI_nl (t : ByteArray) (k : Nat) (h : k < t.size) (h1 : bt t k = 10) : quoteI t 34 t.size k = -1 := by
  rw [quoteI_more t 34 t.size (t.size + 1) k (by omega) (by omega), quoteI, if_pos h, if_pos ⟨rfl, h1⟩]
theorem quoteI_hit (t : ByteArray) (k : Nat) (h : k < t.size) (h1 : bt t k = 34) : quoteI t 34 t.size k = ((k + 1 : Nat) : Int) := by
  rw [quoteI_more t 34 t.size (t.size + 1) k (by omega) (by omega), quoteI, if_pos h, if_neg (by omega), if_pos h1]
theorem quoteI_stroke (t : ByteArray) (k : Nat) (h : k < t.size) (h1 : bt t k = 92) : quoteI t 34 t.size k = if k + 1 < t.size ∧ bt t (k + 1) = 10 then -1 else quoteI t 34 t.size (k + 2) := by
  rw [quoteI_more t 34 t.size (t.size + 1) k (by omega) (by omega), quoteI, if_pos h, if_neg (by omega), if_neg (by omega), if_pos ⟨rfl, h1⟩]
theorem quoteI_else (t : ByteArray) (k : Nat) (h : k < t.size) (h1 : bt t k ≠ 10) (h2 : bt t k ≠ 92) (h3 : bt t k ≠ 34) : quoteI t 34 t.size k = quoteI t 34 t.size (k + 1) := by
  rw [quoteI_more t 34 t.size (t.size + 1) k (by omega) (by omega), quoteI, if_pos h, if_neg (by omega), if_neg h3, if_neg (by omega)]

def told34 (p V : Nat) : Int := if V = 0 then -1 else ((p + V : Nat) : Int)
theorem text_same (t : ByteArray) (p : Nat) (hp : p + 1 ≤ t.size) : ∀ k j, t.size ≤ p + 1 + j + k → p + 1 + j ≤ t.size →
    quoteI t 34 t.size (p + 1 + j) = told34 p (textF (t.extract (p + 1) t.size) k j false) ∧
    (if p + 1 + j < t.size ∧ bt t (p + 1 + j) = 10 then -1 else quoteI t 34 t.size (p + 1 + j + 1)) = told34 p (textF (t.extract (p + 1) t.size) k j true) := by
  have hz := ext_size t (p + 1) t.size (Nat.le_refl _)
  have hbt : ∀ j, p + 1 + j < t.size → bt (t.extract (p + 1) t.size) j = bt t (p + 1 + j) := fun j hj => bt_ext t (p + 1) t.size j hj (Nat.le_refl _)
  generalize t.extract (p + 1) t.size = r at *
  intro k
  induction k with
  | zero =>
    intro j h1 h2
    rw [quoteI_past _ _ _ _ (by omega), quoteI_past _ _ _ _ (by omega), if_neg (by omega)]
    exact ⟨rfl, rfl⟩
  | succ k ih =>
    intro j h1 h2
    by_cases hj : p + 1 + j < t.size
    · have hb := hbt j hj
      have hjr : j < r.size := by omega
      have hw := wid_pos r j
      have hwl := wid_le r j hjr
      rcases sign_kind r j with ⟨e1, e2, e3⟩ | ⟨e1, e2, e3⟩
      · have ih := ih (j + 1) (by omega) (by omega)
        rw [← Nat.add_assoc (p + 1) j 1] at ih
        rw [hb] at e2
        by_cases c10 : bt t (p + 1 + j) = 10
        · rw [quoteI_nl t _ hj c10, if_pos ⟨hj, c10⟩, textF_nl r k j false hjr (by omega), textF_nl r k j true hjr (by omega)]
          exact ⟨rfl, rfl⟩
        · rw [if_neg (by omega), textF_taken r k j hjr (by omega), e1]
          refine ⟨?_, ih.1⟩
          by_cases c34 : bt t (p + 1 + j) = 34
          · rw [quoteI_hit t _ hj c34, textF_hit r k j hjr (by omega)]
            unfold told34
            rw [if_neg (by omega)]
            omega
          · by_cases c92 : bt t (p + 1 + j) = 92
            · rw [quoteI_stroke t _ hj c92, textF_stroke r k j hjr (by omega), e1]
              exact ih.2
            · rw [quoteI_else t _ hj c10 c92 c34, textF_else r k j hjr (by omega) (by omega) (by omega), e1]
              exact ih.1
      · have ih := ih (j + wid r j) (by omega) (by omega)
        have hc : ∀ i, i < wid r j → 128 ≤ bt t (p + 1 + j + i) := fun i hi => by
          have := e3 i hi
          rw [hbt (j + i) (by omega), ← Nat.add_assoc] at this
          exact this
        have s1 := quoteI_skip t (p + 1 + j) (wid r j) (by omega) hc
        have s2 := quoteI_skip t (p + 1 + j + 1) (wid r j - 1) (by omega) (fun i hi => by
          have := hc (1 + i) (by omega)
          rw [← Nat.add_assoc] at this
          exact this)
        rw [show p + 1 + j + 1 + (wid r j - 1) = p + 1 + (j + wid r j) by omega] at s2
        rw [show p + 1 + j + wid r j = p + 1 + (j + wid r j) by omega] at s1
        rw [textF_taken r k j hjr (by omega), textF_else r k j hjr (by omega) (by omega) (by omega), if_neg (by omega), s1, s2]
        exact ⟨ih.1, ih.1⟩
    · rw [textF_end r _ j false (by omega), textF_end r _ j true (by omega), quoteI_past _ _ _ _ (by omega), quoteI_past _ _ _ _ (by omega), if_neg (by omega)]
      exact ⟨rfl, rfl⟩
theorem quote_same (t : ByteArray) (p : Nat) (hp : p + 1 ≤ t.size) : quoteI t 34 t.size (p + 1) = told34 p (textN (t.extract p t.size)) := by
  have e : (t.extract p t.size).extract 1 (t.extract p t.size).size = t.extract (p + 1) t.size := by
    rw [ByteArray.extract_extract, ext_size _ _ _ (Nat.le_refl _)]
    congr 1
    omega
  unfold textN
  rw [e]
  have h := (text_same t p hp (t.extract (p + 1) t.size).size 0 (by rw [ext_size _ _ _ (Nat.le_refl _)]; omega) (by omega)).1
  rw [Nat.add_zero] at h
  exact h
end Go.Proofs.YtijinpnbhnfiiaaDoor

namespace Go.Proofs.YtijinpnbhnfiiaaDoor
open Go.RowKit
set_option linter.unusedVariables false

theorem hasPre_iff (s t : ByteArray) : hasPre s t = true ↔ t.size ≤ s.size ∧ ∀ i, i < t.size → bt s i = bt t i := by
  constructor
  · exact hasPre_byte s t
  · rintro ⟨h1, h2⟩
    unfold hasPre
    rw [decide_eq_true h1, Bool.true_and, beq_iff_eq]
    rw [show s.extract 0 t.size = t from ba_ext _ _ (by rw [ext_size _ _ _ h1]; omega) (fun i hi => by
      rw [ext_size _ _ _ h1] at hi
      rw [bt_ext s 0 t.size i (by omega) h1, Nat.zero_add]; exact h2 i (by omega))]
theorem pre_two (t : ByteArray) (p a b : Nat) (s : ByteArray) (hs : s.size = 2) (h0 : bt s 0 = a) (h1 : bt s 1 = b) (hp : p < t.size) : hasPre (t.extract p t.size) s = true ↔ p + 2 ≤ t.size ∧ bt t p = a ∧ bt t (p + 1) = b := by
  rw [hasPre_iff, ext_size _ _ _ (Nat.le_refl _), hs]
  constructor
  · rintro ⟨g1, g2⟩
    have x0 := g2 0 (by omega)
    have x1 := g2 1 (by omega)
    rw [bt_ext t p t.size 0 (by omega) (Nat.le_refl _)] at x0
    rw [bt_ext t p t.size 1 (by omega) (Nat.le_refl _)] at x1
    exact ⟨by omega, x0.trans h0, x1.trans h1⟩
  · rintro ⟨g1, g2, g3⟩
    refine ⟨by omega, fun i hi => ?_⟩
    rw [bt_ext t p t.size i (by omega) (Nat.le_refl _)]
    rcases (by omega : i = 0 ∨ i = 1) with rfl | rfl
    · exact g2.trans h0.symm
    · exact g3.trans h1.symm

theorem feff_dec (t : ByteArray) (h : 3 ≤ t.size) (h0 : bt t 0 = 239) (h1 : bt t 1 = 187) (h2 : bt t 2 = 191) : sig t 0 = 65279 ∧ wid t 0 = 3 := by
  have e := dec_3 t 0 (by omega) (by omega)
  rw [h0, show 0 + 1 = 1 from rfl, show 0 + 2 = 2 from rfl, h1, h2, if_pos (by omega)] at e
  unfold sig wid
  rw [e]
  exact ⟨rfl, rfl⟩
theorem feff_of (t : ByteArray) (hf : sig t 0 = 65279) : 3 ≤ t.size ∧ bt t 0 = 239 ∧ bt t 1 = 187 ∧ bt t 2 = 191 ∧ wid t 0 = 3 := by
  unfold sig at hf
  unfold wid
  have hlt := bt_lt t 0
  by_cases g1 : bt t 0 < 128
  · rw [dec_1 t 0 g1] at hf; simp at hf; omega
  by_cases g2 : bt t 0 < 192 ∨ 248 ≤ bt t 0
  · rw [dec_x t 0 (by omega) g2] at hf; simp at hf
  by_cases g3 : bt t 0 < 224
  · rw [dec_2 t 0 (by omega) g3] at hf
    split at hf
    · dsimp only at hf; have := bt_lt t (0 + 1); omega
    · simp at hf
  by_cases g4 : bt t 0 < 240
  · have l1 := bt_lt t (0 + 1)
    have l2 := bt_lt t (0 + 2)
    rw [dec_3 t 0 (by omega) g4] at hf ⊢
    split at hf
    · rename_i hh
      dsimp only at hf
      rw [if_pos hh]
      simp only [Nat.zero_add] at hh hf l1 l2
      refine ⟨by omega, by omega, by omega, by omega, rfl⟩
    · simp at hf
  · have l1 := bt_lt t (0 + 1)
    rw [dec_4 t 0 (by omega) (by omega)] at hf
    split at hf
    · rename_i hh; dsimp only at hf; omega
    · simp at hf
theorem feff_iff (t : ByteArray) (p : Nat) : feff t p = true ↔ p = 0 ∧ 3 ≤ t.size ∧ bt t 0 = 239 ∧ bt t 1 = 187 ∧ bt t 2 = 191 := by
  unfold feff
  simp only [Bool.and_eq_true, beq_iff_eq, decide_eq_true_eq]

theorem blank_iff (n : Nat) : isBlank (n : Int) = true ↔ (n = 32 ∨ n = 9 ∨ n = 13 ∨ n = 65279) := by
  unfold isBlank
  simp only [Bool.or_eq_true, beq_iff_eq]
  omega
theorem c10_iff (n : Nat) : ((n : Int) == 10) = true ↔ n = 10 := by simp only [beq_iff_eq]; omega
theorem c34_iff (n : Nat) : ((n : Int) == 34) = true ↔ n = 34 := by simp only [beq_iff_eq]; omega
theorem c96_iff (n : Nat) : ((n : Int) == 96) = true ↔ n = 96 := by simp only [beq_iff_eq]; omega

/-! ### A step -/
def SameSt (x x' y : St) (p w : Nat) : Prop := x'.toks = y.toks ∧ x'.notes = y.notes ∧ ((x'.at_ = x.at_ ∧ y.at_ = p + w) ∨ (p < x'.at_ ∧ x'.at_ = y.at_))
def StepSame (t : ByteArray) (x : St) (p : Nat) : Prop :=
  (beginP t x p (sig t p : Int) = none ∧ stepB t ⟨p, x.toks, x.notes⟩ = none) ∨ ∃ x' y, beginP t x p (sig t p : Int) = some x' ∧ stepB t ⟨p, x.toks, x.notes⟩ = some y ∧ SameSt x x' y p (wid t p)

theorem noteI_none (t : ByteArray) (p : Nat) (hp : p < t.size) (h1 : hasPre (t.extract p t.size) sSlash = false) (h2 : hasPre (t.extract p t.size) sOpen = false) : noteI t p = 0 := by
  have n1 : ¬ (p + 2 ≤ t.size ∧ bt t p = 47 ∧ bt t (p + 1) = 47) := fun h => by rw [(pre_two t p 47 47 sSlash rfl rfl rfl hp).2 h] at h1; cases h1
  have n2 : ¬ (p + 2 ≤ t.size ∧ bt t p = 47 ∧ bt t (p + 1) = 42) := fun h => by rw [(pre_two t p 47 42 sOpen rfl rfl rfl hp).2 h] at h2; cases h2
  unfold noteI
  split
  · rfl
  · rw [if_neg (by omega), if_pos (by omega)]
theorem noteI_line (t : ByteArray) (p : Nat) (hp : p < t.size) (h1 : hasPre (t.extract p t.size) sSlash = true) : bt t p = 47 ∧ rowN (t.extract p t.size) noEnd ≠ 0 ∧ noteI t p = ((p + rowN (t.extract p t.size) noEnd : Nat) : Int) := by
  obtain ⟨g1, g2, g3⟩ := (pre_two t p 47 47 sSlash rfl rfl rfl hp).1 h1
  have hr := rowN_runB t p (by omega) noEnd (.inl noEnd_big)
  have hs := runB_step t noEnd t.size t.size p hp (by rw [g2]; decide) (by omega) (by omega)
  have hge := runB_ge t noEnd t.size (p + 1)
  refine ⟨g2, by omega, ?_⟩
  unfold noteI
  rw [if_neg (by omega), if_pos g3, hr]
theorem noteI_open (t : ByteArray) (p : Nat) (hp : p < t.size) (h1 : hasPre (t.extract p t.size) sOpen = true) : bt t p = 47 ∧ hasPre (t.extract p t.size) sSlash = false ∧ ((closedN (t.extract p t.size) 2 sClose = 0 ∧ noteI t p = -1) ∨ (closedN (t.extract p t.size) 2 sClose ≠ 0 ∧ noteI t p = ((p + closedN (t.extract p t.size) 2 sClose : Nat) : Int))) := by
  obtain ⟨g1, g2, g3⟩ := (pre_two t p 47 42 sOpen rfl rfl rfl hp).1 h1
  have e : noteI t p = closeI t t.size (p + 4) := by
    unfold noteI
    rw [if_neg (by omega), if_neg (by omega), if_neg (by omega)]
  refine ⟨g2, ?_, ?_⟩
  · cases h : hasPre (t.extract p t.size) sSlash
    · rfl
    · have := ((pre_two t p 47 47 sSlash rfl rfl rfl hp).1 h).2.2
      omega
  · rw [e]
    rcases close_same t p g1 with ⟨h1, h2⟩ | ⟨h1, h2⟩
    · exact .inl ⟨h1, h2⟩
    · exact .inr ⟨by omega, h2⟩

theorem step_note {t : ByteArray} {x : St} {p : Nat} (hfe : ¬ feff t p = true) (h47 : bt t p = 47) (n : Nat) (hn : n ≠ 0) (hI : noteI t p = ((p + n : Nat) : Int)) (hb : beginP t x p (sig t p : Int) = noteP t x p n) : StepSame t x p := by
  right
  refine ⟨⟨p + n, noteToks (t.extract p (p + n)) x.toks p, x.notes ++ [⟨0, t.extract p (p + n), p⟩]⟩, ⟨p + n, noteToks (t.extract p (p + n)) x.toks p, x.notes ++ [⟨0, t.extract p (p + n), p⟩]⟩, ?_, ?_, rfl, rfl, .inr ⟨by show p < p + n; omega, rfl⟩⟩
  · rw [hb]; unfold noteP; rw [if_neg hn]
  · unfold stepB
    dsimp only
    rw [if_neg hfe, if_neg (by omega), if_neg (by omega), if_pos (by omega), if_neg (by omega), hI, Int.toNat_natCast]
theorem step_take {t : ByteArray} {x : St} {p : Nat} (k n : Nat) (hn : n ≠ 0) (hb : beginP t x p (sig t p : Int) = takeP t x k p n) (hs : stepB t ⟨p, x.toks, x.notes⟩ = some ⟨p + n, x.toks ++ [⟨k, t.extract p (p + n), p⟩], x.notes⟩) : StepSame t x p := by
  right
  refine ⟨⟨p + n, x.toks ++ [⟨k, t.extract p (p + n), p⟩], x.notes⟩, _, ?_, hs, rfl, rfl, .inr ⟨by show p < p + n; omega, rfl⟩⟩
  rw [hb]; unfold takeP; rw [if_neg hn]
theorem step_fail {t : ByteArray} {x : St} {p : Nat} (k : Nat) (hb : beginP t x p (sig t p : Int) = takeP t x k p 0) (hs : stepB t ⟨p, x.toks, x.notes⟩ = none) : StepSame t x p :=
  .inl ⟨by rw [hb]; unfold takeP; rw [if_pos rfl], hs⟩

theorem step_small (t : ByteArray) (x : St) (p : Nat) (hp : p < t.size) (hc : bt t p < 128) : StepSame t x p := by
  obtain ⟨es, ew⟩ := sig_1 t p hc
  have hz := ext_size t p t.size (Nat.le_refl _)
  have b0 := bt_rest t p hp
  have hfe : ¬ feff t p = true := fun h => by
    obtain ⟨h0, _, h1, _⟩ := (feff_iff t p).1 h
    subst h0
    omega
  by_cases c10 : bt t p = 10
  · right
    refine ⟨⟨x.at_, endL x.toks p, x.notes⟩, ⟨p + 1, endL x.toks p, x.notes⟩, ?_, ?_, rfl, rfl, .inl ⟨rfl, by rw [ew]⟩⟩
    · unfold beginP; rw [es, if_pos ((c10_iff _).2 c10)]
    · unfold stepB; dsimp only; rw [if_neg hfe, if_pos c10]
  have n10 : ¬ ((bt t p : Int) == 10) = true := fun h => c10 ((c10_iff _).1 h)
  by_cases cb : bt t p = 32 ∨ bt t p = 9 ∨ bt t p = 13
  · right
    refine ⟨x, ⟨p + 1, x.toks, x.notes⟩, ?_, ?_, rfl, rfl, .inl ⟨rfl, by rw [ew]⟩⟩
    · unfold beginP; rw [es, if_neg n10, if_pos ((blank_iff _).2 (by omega))]
    · unfold stepB; dsimp only; rw [if_neg hfe, if_neg c10, if_pos cb]
  have nb : ¬ isBlank (bt t p : Int) = true := fun h => by have := (blank_iff _).1 h; omega
  cases h1 : hasPre (t.extract p t.size) sSlash
  case true =>
    obtain ⟨g1, g2, g3⟩ := noteI_line t p hp h1
    exact step_note hfe g1 _ g2 g3 (by unfold beginP; rw [es, if_neg n10, if_neg nb, if_pos h1])
  cases h2 : hasPre (t.extract p t.size) sOpen
  case true =>
    obtain ⟨g1, -, ⟨g2, g3⟩ | ⟨g2, g3⟩⟩ := noteI_open t p hp h2
    · refine .inl ⟨?_, ?_⟩
      · unfold beginP; rw [es, if_neg n10, if_neg nb, h1, if_neg (by simp), if_pos h2, g2]; rfl
      · unfold stepB; dsimp only; rw [if_neg hfe, if_neg c10, if_neg cb, g3]; rfl
    · exact step_note hfe g1 _ g2 g3 (by unfold beginP; rw [es, if_neg n10, if_neg nb, h1, if_neg (by simp), if_pos h2])
  have hI := noteI_none t p hp h1 h2
  have s1 : ¬ hasPre (t.extract p t.size) sSlash = true := by rw [h1]; simp
  have s2 : ¬ hasPre (t.extract p t.size) sOpen = true := by rw [h2]; simp
  have hIn : ¬ noteI t p ≠ 0 := fun h => h hI
  have row : isIn (bt t p) = true → rowN (t.extract p t.size) isIn ≠ 0 ∧ p + rowN (t.extract p t.size) isIn = runB t isIn t.size (p + 1) ∧ p + rowN (t.extract p t.size) isIn ≤ t.size := fun hin => by
    have hr := rowN_runB t p (by omega) isIn (.inr isIn_big)
    have hs := runB_step t isIn t.size t.size p hp hin (by omega) (by omega)
    have hge := runB_ge t isIn t.size (p + 1)
    have hle := rowN_le (t.extract p t.size) isIn
    omega
  cases hl : isLet (bt t p)
  case true =>
    have hin := let_in hl
    obtain ⟨r1, r2, r3⟩ := row hin
    have hnz : rowN (t.extract p t.size) isLet ≠ 0 := fun h => by
      have := (rowN_pos (t.extract p t.size) isLet (by omega)).1 h
      rw [sig_small _ 0 isLet isLet128, b0, hl] at this
      cases this
    have hN : nameN (t.extract p t.size) = rowN (t.extract p t.size) isIn := by unfold nameN; rw [if_neg hnz]
    refine step_take (1 + wordN (t.extract p (p + rowN (t.extract p t.size) isIn))) _ r1 ?_ ?_
    · unfold beginP; rw [es, if_neg n10, if_neg nb, if_neg s1, if_neg s2, if_pos hl, hN, ext_ext t p _ r3]
    · unfold stepB; dsimp only; rw [if_neg hfe, if_neg c10, if_neg cb, if_neg hIn, if_pos hin, if_pos hl, ← r2]
  have nl : ¬ isLet (bt t p : Int) = true := by rw [hl]; simp
  cases hf : isFig (bt t p)
  case true =>
    have hin : isIn (bt t p) = true := by unfold isIn; rw [hl, hf]; rfl
    obtain ⟨r1, r2, r3⟩ := row hin
    refine step_take 4 _ r1 ?_ ?_
    · unfold beginP; rw [es, if_neg n10, if_neg nb, if_neg s1, if_neg s2, if_neg nl, if_pos hf]
    · unfold stepB; dsimp only; rw [if_neg hfe, if_neg c10, if_neg cb, if_neg hIn, if_pos hin, if_neg nl, ← r2]
  have nf : ¬ isFig (bt t p : Int) = true := by rw [hf]; simp
  have nin : ¬ isIn (bt t p : Int) = true := by unfold isIn; rw [hl, hf]; simp
  by_cases q1 : bt t p = 34
  · have hq := quote_same t p (by omega)
    unfold told34 at hq
    have hbeg : beginP t x p (sig t p : Int) = takeP t x 5 p (textN (t.extract p t.size)) := by
      unfold beginP; rw [es, if_neg n10, if_neg nb, if_neg s1, if_neg s2, if_neg nl, if_neg nf, if_pos ((c34_iff _).2 q1)]
    by_cases h0 : textN (t.extract p t.size) = 0
    · rw [if_pos h0] at hq
      refine step_fail 5 (by rw [hbeg, h0]) ?_
      unfold stepB; dsimp only; rw [if_neg hfe, if_neg c10, if_neg cb, if_neg hIn, if_neg nin, if_pos (.inl q1), q1, hq]; rfl
    · rw [if_neg h0] at hq
      refine step_take 5 _ h0 hbeg ?_
      unfold stepB; dsimp only; rw [if_neg hfe, if_neg c10, if_neg cb, if_neg hIn, if_neg nin, if_pos (.inl q1), q1, hq, if_neg (by omega), Int.toNat_natCast]
  have n34 : ¬ ((bt t p : Int) == 34) = true := fun h => q1 ((c34_iff _).1 h)
  by_cases q2 : bt t p = 96
  · have hbeg : beginP t x p (sig t p : Int) = takeP t x 5 p (closedN (t.extract p t.size) 1 sTick) := by
      unfold beginP; rw [es, if_neg n10, if_neg nb, if_neg s1, if_neg s2, if_neg nl, if_neg nf, if_neg n34, if_pos ((c96_iff _).2 q2)]
    rcases tick_same t p (by omega) with ⟨h0, hq⟩ | ⟨h0, hq⟩
    · refine step_fail 5 (by rw [hbeg, h0]) ?_
      unfold stepB; dsimp only; rw [if_neg hfe, if_neg c10, if_neg cb, if_neg hIn, if_neg nin, if_pos (.inr q2), q2, hq]; rfl
    · refine step_take 5 _ (by omega) hbeg ?_
      unfold stepB; dsimp only; rw [if_neg hfe, if_neg c10, if_neg cb, if_neg hIn, if_neg nin, if_pos (.inr q2), q2, hq, if_neg (by omega), Int.toNat_natCast]
  have n96 : ¬ ((bt t p : Int) == 96) = true := fun h => q2 ((c96_iff _).1 h)
  have hbeg : beginP t x p (sig t p : Int) = takeP t x 6 p (signN (t.extract p t.size)) := by
    unfold beginP; rw [es, if_neg n10, if_neg nb, if_neg s1, if_neg s2, if_neg nl, if_neg nf, if_neg n34, if_neg n96]
  by_cases h0 : signN (t.extract p t.size) = 0
  · refine step_fail 6 (by rw [hbeg, h0]) ?_
    unfold stepB; dsimp only; rw [if_neg hfe, if_neg c10, if_neg cb, if_neg hIn, if_neg nin, if_neg (by omega), if_pos h0]
  · refine step_take 6 _ h0 hbeg ?_
    unfold stepB; dsimp only; rw [if_neg hfe, if_neg c10, if_neg cb, if_neg hIn, if_neg nin, if_neg (by omega), if_neg h0]

theorem step_same (t : ByteArray) (x : St) (p : Nat) (hp : p < t.size) (hg : bad t p (sig t p) = false) : StepSame t x p := by
  by_cases hc : bt t p < 128
  · exact step_small t x p hp hc
  have hbig : 128 ≤ sig t p := by rcases sign_kind t p with ⟨_, _, h⟩ | ⟨h, _, _⟩ <;> omega
  have n10 : ¬ ((sig t p : Int) == 10) = true := fun h => by have := (c10_iff _).1 h; omega
  by_cases hf : sig t p = 65279
  · have hp0 : p = 0 := by
      unfold bad at hg
      rw [hf] at hg
      rcases Nat.eq_zero_or_pos p with h | h
      · exact h
      · rw [decide_eq_true h] at hg
        simp at hg
    subst hp0
    obtain ⟨g1, g2, g3, g4, g5⟩ := feff_of t hf
    right
    refine ⟨x, ⟨3, x.toks, x.notes⟩, ?_, ?_, rfl, rfl, .inl ⟨rfl, by rw [g5]⟩⟩
    · unfold beginP; rw [if_neg n10, if_pos ((blank_iff _).2 (by omega))]
    · unfold stepB; dsimp only; rw [if_pos ((feff_iff t 0).2 ⟨rfl, g1, g2, g3, g4⟩)]
  · have hfe : ¬ feff t p = true := fun h => by
      obtain ⟨h0, h1, h2, h3, h4⟩ := (feff_iff t p).1 h
      subst h0
      exact hf (feff_dec t h1 h2 h3 h4).1
    have nb : ¬ isBlank (sig t p : Int) = true := fun h => by have := (blank_iff _).1 h; omega
    have s1 : hasPre (t.extract p t.size) sSlash = false := by
      cases h : hasPre (t.extract p t.size) sSlash
      · rfl
      · have := ((pre_two t p 47 47 sSlash rfl rfl rfl hp).1 h).2.1; omega
    have s2 : hasPre (t.extract p t.size) sOpen = false := by
      cases h : hasPre (t.extract p t.size) sOpen
      · rfl
      · have := ((pre_two t p 47 42 sOpen rfl rfl rfl hp).1 h).2.1; omega
    have hI := noteI_none t p hp s1 s2
    have nl : ¬ isLet (sig t p : Int) = true := fun h => by have := isLet128 _ h; omega
    have nf : ¬ isFig (sig t p : Int) = true := fun h => by have := isFig128 _ h; omega
    have nin : ¬ isIn (bt t p : Int) = true := fun h => by have := isIn128 _ h; omega
    have n34 : ¬ ((sig t p : Int) == 34) = true := fun h => by have := (c34_iff _).1 h; omega
    have n96 : ¬ ((sig t p : Int) == 96) = true := fun h => by have := (c96_iff _).1 h; omega
    have h0 : signN (t.extract p t.size) = 0 := by
      rcases Nat.eq_zero_or_pos (signN (t.extract p t.size)) with h | h
      · exact h
      · have hle := signN_le (t.extract p t.size)
        have := sign_bytes _ (signN_isSign (t.extract p t.size) (by omega)) 0 (by rw [ext_size _ _ _ hle]; omega)
        rw [bt_ext (t.extract p t.size) 0 _ 0 (by omega) hle, Nat.zero_add, bt_rest t p hp] at this
        omega
    refine step_fail 6 ?_ ?_
    · unfold beginP; rw [if_neg n10, if_neg nb, s1, s2, if_neg (by simp), if_neg (by simp), if_neg nl, if_neg nf, if_neg n34, if_neg n96, h0]
    · unfold stepB; dsimp only; rw [if_neg hfe, if_neg (by omega), if_neg (by omega), if_neg (fun h => h hI), if_neg nin, if_neg (by omega), if_pos h0]

/-! ### Through all -/
def Valid (t : ByteArray) (p : Nat) : Prop := ∃ f, t.size ≤ p + f ∧ wrongF t f p = -1
theorem allF_more (t : ByteArray) : ∀ f g p x, t.size ≤ p + f → t.size ≤ p + g → allF t f p x = allF t g p x
  | 0, 0, p, x, _, _ => rfl
  | 0, g + 1, p, x, h, _ => by rw [allF, allF, if_neg (by omega)]
  | f + 1, 0, p, x, _, h => by rw [allF, allF, if_neg (by omega)]
  | f + 1, g + 1, p, x, h1, h2 => by
    have hw := wid_pos t p
    rw [allF, allF, allF_more t f g (p + wid t p) x (by omega) (by omega)]
    congr 2
    cases beginP t x p (sig t p : Int) with
    | none => rfl
    | some x' => exact allF_more t f g (p + wid t p) x' (by omega) (by omega)
theorem allF_to (t : ByteArray) (x : St) (hq : x.at_ ≤ t.size) (hE : Edge t x.at_) : ∀ k p, p ≤ x.at_ → t.size ≤ p + k → Valid t p → allF t k p x = allF t t.size x.at_ x ∧ Valid t x.at_
  | 0, p, h1, h2, hv => by
    have : p = x.at_ := by omega
    rw [this] at hv h2 ⊢
    exact ⟨allF_more t _ _ _ _ (by omega) (by omega), hv⟩
  | k + 1, p, h1, h2, hv => by
    by_cases e : p = x.at_
    · rw [e] at hv h2 ⊢
      exact ⟨allF_more t _ _ _ _ (by omega) (by omega), hv⟩
    · have hw := wid_pos t p
      have hs := edge_skip (t := t) (p := p) (q := x.at_) (by omega) (by omega) hq hE
      rw [allF, if_pos (by omega), if_neg (by omega)]
      exact allF_to t x hq hE k _ hs (by omega) (valid_next (by omega) hv).2

/-- What two scanners tell is the same. -/
def SameEnd : Except Nat St → Except Nat St → Prop
  | .error p, .error q => p = q
  | .ok x, .ok y => x.toks = y.toks ∧ x.notes = y.notes
  | _, _ => False
theorem scan_same (t : ByteArray) : ∀ n p x k j, t.size ≤ p + n → p ≤ t.size → Valid t p → x.at_ ≤ p → t.size ≤ p + k → t.size ≤ p + j → SameEnd (allF t k p x) (scanF t j ⟨p, x.toks, x.notes⟩) := by
  intro n
  induction n with
  | zero =>
    intro p x k j h1 h2 hv ha hk hj
    rw [allF_more t k 0 p x hk (by omega)]
    have e : scanF t j ⟨p, x.toks, x.notes⟩ = .ok ⟨p, x.toks, x.notes⟩ := by
      cases j with
      | zero => rfl
      | succ j => rw [scanF, if_neg (by show ¬ p < _; omega)]
    rw [e]
    exact ⟨rfl, rfl⟩
  | succ n ih =>
    intro p x k j h1 h2 hv ha hk hj
    by_cases hp : p < t.size
    · obtain ⟨k, rfl⟩ : ∃ k', k = k' + 1 := ⟨k - 1, by omega⟩
      obtain ⟨j, rfl⟩ : ∃ j', j = j' + 1 := ⟨j - 1, by omega⟩
      have hw := wid_pos t p
      have hwl := wid_le t p hp
      obtain ⟨hg, hv'⟩ := valid_next hp hv
      rw [allF, scanF, if_pos hp, if_pos hp, if_pos ha]
      rcases step_same t x p hp hg with ⟨e1, e2⟩ | ⟨x', y, e1, e2, s1, s2, s3⟩
      · rw [e1, e2]; exact rfl
      · rw [e1, e2]
        dsimp only
        rcases s3 with ⟨s3, s4⟩ | ⟨s3, s4⟩
        · have := ih (p + wid t p) x' k j (by omega) hwl hv' (by omega) (by omega) (by omega)
          have ey : y = ⟨p + wid t p, x'.toks, x'.notes⟩ := by rw [s1, s2, ← s4]
          rw [ey]
          exact this
        · have hE : x'.at_ ≤ t.size ∧ Edge t x'.at_ := by
            cases begin_step hp e1 with
            | nl h e => subst e; exact absurd s3 (by show ¬ p < x.at_; omega)
            | blank h e => subst e; omega
            | note n h0 hn he e => subst e; exact ⟨hn, he⟩
            | take k n hk h0 hn he hb e => subst e; exact ⟨hn, he⟩
          have hs := edge_skip (t := t) (p := p) (q := x'.at_) hp s3 hE.1 hE.2
          obtain ⟨a1, a2⟩ := allF_to t x' hE.1 hE.2 k (p + wid t p) hs (by omega) hv'
          rw [a1]
          have := ih x'.at_ x' t.size j (by omega) hE.1 a2 (Nat.le_refl _) (by omega) (by omega)
          have ey : y = ⟨x'.at_, x'.toks, x'.notes⟩ := by rw [s1, s2, s4]
          rw [ey]
          exact this
    · have := ih p x k j (by omega) h2 hv ha hk hj
      exact this

/-- Of any bytes the same is told. -/
theorem scanR_scanB (s : ByteArray) : (scanR s).err = (scanB s).err ∧ (scanR s).pos = (scanB s).pos ∧ (scanR s).st.toks = (scanB s).st.toks ∧ (scanR s).st.notes = (scanB s).st.notes := by
  unfold scanR scanB
  split
  · exact ⟨rfl, rfl, rfl, rfl⟩
  split
  · exact ⟨rfl, rfl, rfl, rfl⟩
  · rename_i h
    have := scan_same s s.size 0 ⟨0, [], []⟩ s.size s.size (by omega) (Nat.zero_le _) ⟨s.size, by omega, wrongR_neg s h⟩ (Nat.zero_le _) (by omega) (by omega)
    unfold allP
    rw [show (st0 : St) = ⟨0, [], []⟩ from rfl]
    cases e1 : allF s s.size 0 ⟨0, [], []⟩ with
    | error p =>
      cases e2 : scanF s s.size ⟨0, [], []⟩ with
      | error q =>
        rw [e1, e2] at this
        obtain rfl : p = q := this
        exact ⟨rfl, rfl, rfl, rfl⟩
      | ok y => rw [e1, e2] at this; exact this.elim
    | ok x =>
      cases e2 : scanF s s.size ⟨0, [], []⟩ with
      | error q => rw [e1, e2] at this; exact this.elim
      | ok y =>
        rw [e1, e2] at this
        obtain ⟨h1, h2⟩ := this
        exact ⟨rfl, rfl, by show endL x.toks _ = endL y.toks _; rw [h1], h2⟩
end Go.Proofs.YtijinpnbhnfiiaaDoor

namespace Go.Proofs.YtijinpnbhnfiiaaDoor
open Go.RowKit
set_option linter.unusedVariables false

/-! ### What a step does -/
inductive Cls (t : ByteArray) (p : Nat) : Nat → Nat → Prop
  | run (h : isIn (bt t p) = true) : Cls t p (if isLet (bt t p) then 1 + wordN (t.extract p (runB t isIn t.size (p + 1))) else 4) (runB t isIn t.size (p + 1))
  | quote (h : bt t p = 34 ∨ bt t p = 96) (e : Nat) (he : quoteI t (bt t p) t.size (p + 1) = (e : Int)) : Cls t p 5 e
  | sign (hI : noteI t p = 0) (hn : isIn (bt t p) = false) (hq : ¬ (bt t p = 34 ∨ bt t p = 96)) (h0 : signN (t.extract p t.size) ≠ 0) : Cls t p 6 (p + signN (t.extract p t.size))

theorem stepB_cls {t : ByteArray} {x y : St} (h : stepB t x = some y) : (∀ tk ∈ y.toks, tk ∈ x.toks ∨ (tk.kind = 6 ∧ tk.text = nlT)) ∨ ∃ k e, Cls t x.at_ k e ∧ (bt t x.at_ ≠ 10 ∧ bt t x.at_ ≠ 32 ∧ bt t x.at_ ≠ 9 ∧ bt t x.at_ ≠ 13) ∧ y = ⟨e, x.toks ++ [⟨k, t.extract x.at_ e, x.at_⟩], x.notes⟩ := by
  unfold stepB at h
  split at h
  · left; cases h; exact fun tk h => .inl h
  split at h
  · left; cases h
    intro tk htk
    rcases endL_mem htk with h | h
    · exact .inl h
    · exact .inr (by rw [h]; exact ⟨rfl, rfl⟩)
  rename_i c10
  split at h
  · left; cases h; exact fun tk h => .inl h
  rename_i cb
  have hb : bt t x.at_ ≠ 10 ∧ bt t x.at_ ≠ 32 ∧ bt t x.at_ ≠ 9 ∧ bt t x.at_ ≠ 13 := by omega
  split at h
  · split at h
    · cases h
    · left; cases h
      intro tk htk
      have htk' : tk ∈ noteToks _ x.toks x.at_ := htk
      unfold noteToks at htk'
      split at htk'
      · rcases endL_mem htk' with h | h
        · exact .inl h
        · exact .inr (by rw [h]; exact ⟨rfl, rfl⟩)
      · exact .inl htk'
  rename_i hI
  split at h
  · rename_i hin
    right; cases h
    exact ⟨_, _, .run hin, hb, rfl⟩
  rename_i hin
  split at h
  · rename_i hq
    split at h
    · cases h
    · rename_i h0
      right; cases h
      exact ⟨_, _, .quote hq _ (Int.toNat_of_nonneg (by omega)).symm, hb, rfl⟩
  rename_i hq
  split at h
  · cases h
  · rename_i h0
    right; cases h
    exact ⟨_, _, .sign (by omega) (by simpa using hin) hq h0, hb, rfl⟩

/-! ### Where it stands elsewhere -/
/-- The n bytes at q in c are those at p in t. -/
def Moved (t c : ByteArray) (p q n : Nat) : Prop := ∀ i, i < n → bt c (q + i) = bt t (p + i)

theorem quoteI_gt (t : ByteArray) (q : Nat) : ∀ f k (m : Nat), quoteI t q f k = (m : Int) → k < m ∧ m ≤ t.size
  | 0, k, m, h => by rw [quoteI] at h; omega
  | f + 1, k, m, h => by
    rw [quoteI] at h
    split at h
    · split at h
      · omega
      split at h
      · omega
      split at h
      · split at h
        · omega
        · have := quoteI_gt t q f _ m h; omega
      · have := quoteI_gt t q f _ m h; omega
    · omega
theorem quoteI_move (t c : ByteArray) (p q qq n : Nat) (hm : Moved t c p q n) (hc : q + n ≤ c.size) : ∀ f k, quoteI t qq f (p + k) = ((p + n : Nat) : Int) → quoteI c qq f (q + k) = ((q + n : Nat) : Int)
  | 0, k, h => by rw [quoteI] at h; omega
  | f + 1, k, h => by
    have hg := quoteI_gt t qq (f + 1) _ _ h
    have hk : k < n := by omega
    have e0 := hm k hk
    rw [quoteI] at h ⊢
    rw [if_pos (by omega)] at h
    rw [if_pos (by omega), e0]
    split
    · rename_i c1; rw [if_pos c1] at h; omega
    · rename_i c1
      rw [if_neg c1] at h
      split
      · rename_i c2; rw [if_pos c2] at h; omega
      · rename_i c2
        rw [if_neg c2] at h
        split
        · rename_i c3
          rw [if_pos c3] at h
          split at h
          · omega
          · rename_i c4
            have hg2 := quoteI_gt t qq f _ _ h
            have e1 := hm (k + 1) (by omega)
            rw [← Nat.add_assoc, ← Nat.add_assoc] at e1
            rw [if_neg (by rw [e1]; omega)]
            exact quoteI_move t c p q qq n hm hc f (k + 2) h
        · rename_i c3
          rw [if_neg c3] at h
          exact quoteI_move t c p q qq n hm hc f (k + 1) h

theorem runB_all (t : ByteArray) (f : Int → Bool) : ∀ k p i, p ≤ i → i < runB t f k p → f (bt t i) = true
  | 0, p, i, h1, h2 => by rw [runB] at h2; omega
  | k + 1, p, i, h1, h2 => by
    rw [runB] at h2
    split at h2
    · split at h2
      · rename_i hf
        by_cases e : i = p
        · subst e; exact hf
        · exact runB_all t f k (p + 1) i (by omega) h2
      · omega
    · omega

theorem mem_bt (u : ByteArray) (i : Nat) (h : i < u.size) (b : Nat) (hb : b < 256) (e : bt u i = b) : u.toList.contains (UInt8.ofNat b) = true := by
  rw [List.contains_iff_mem, show u.toList = u.data.toList by rw [ByteArray.toList_eq]]
  refine List.mem_of_getElem? (i := i) ?_
  rw [bt_list u i h, e]
theorem no32 (ws : List (List UInt8)) (hw : ws.all (fun l => !l.contains (UInt8.ofNat 32)) = true) (u : ByteArray) (i : Nat) (h : i < u.size) (e : bt u i = 32) : ws.contains u.toList = false := by
  cases hc : ws.contains u.toList
  · rfl
  · have h1 := List.all_eq_true.1 hw _ (mem_contains hc)
    rw [mem_bt u i h 32 (by omega) e] at h1
    cases h1
theorem pre_moved (s u : ByteArray) (k : Nat) (hs : k ≤ s.size) (hu : k ≤ u.size) (h : ∀ i, i < k → bt u i = bt s i) : pre u k = pre s k := by
  have z1 : (pre u k).size = k := by rw [pre_size]; omega
  have z2 : (pre s k).size = k := by rw [pre_size]; omega
  refine ba_ext _ _ (by omega) (fun i hi => ?_)
  rw [z1] at hi
  unfold pre
  rw [Nat.min_eq_left hs, Nat.min_eq_left hu, bt_ext u 0 k i (by omega) hu, bt_ext s 0 k i (by omega) hs, Nat.zero_add]
  exact h i hi
theorem pre_at (u : ByteArray) (k i : Nat) (hi : i < k) (h : i < u.size) : i < (pre u k).size ∧ bt (pre u k) i = bt u i := by
  refine ⟨by rw [pre_size]; omega, ?_⟩
  unfold pre
  rw [bt_ext u 0 _ i (by omega) (by omega), Nat.zero_add]
/-- The sign, a blank behind it. -/
theorem signN_moved (s u : ByteArray) (h0 : signN s ≠ 0) (hu : signN s < u.size) (h : ∀ i, i < signN s → bt u i = bt s i) (h32 : bt u (signN s) = 32) : signN u = signN s := by
  have hle := signN_le s
  have e : signN s = if signs3.contains (pre s 3).toList then 3 else if signs2.contains (pre s 2).toList then 2 else if signs1.contains (pre s 1).toList then 1 else 0 := rfl
  have e' : signN u = if signs3.contains (pre u 3).toList then 3 else if signs2.contains (pre u 2).toList then 2 else if signs1.contains (pre u 1).toList then 1 else 0 := rfl
  cases c3 : signs3.contains (pre s 3).toList
  case true =>
    rw [c3, if_pos rfl] at e
    rw [e] at hle hu h
    rw [e', e, pre_moved s u 3 hle (by omega) h, c3, if_pos rfl]
  rw [c3, if_neg (by simp)] at e
  cases c2 : signs2.contains (pre s 2).toList
  case true =>
    rw [c2, if_pos rfl] at e
    rw [e] at hle hu h h32
    have q := pre_at u 3 2 (by omega) (by omega)
    rw [e', e, no32 signs3 (by decide) (pre u 3) 2 q.1 (q.2.trans h32), if_neg (by simp), pre_moved s u 2 hle (by omega) h, c2, if_pos rfl]
  rw [c2, if_neg (by simp)] at e
  cases c1 : signs1.contains (pre s 1).toList
  case true =>
    rw [c1, if_pos rfl] at e
    rw [e] at hle hu h h32
    have q := pre_at u 3 1 (by omega) (by omega)
    have q2 := pre_at u 2 1 (by omega) (by omega)
    rw [e', e, no32 signs3 (by decide) (pre u 3) 1 q.1 (q.2.trans h32), if_neg (by simp), no32 signs2 (by decide) (pre u 2) 1 q2.1 (q2.2.trans h32), if_neg (by simp), pre_moved s u 1 hle (by omega) h, c1, if_pos rfl]
  rw [c1, if_neg (by simp)] at e
  exact absurd e h0

theorem noteI_zero (t : ByteArray) (p : Nat) (h : noteI t p = 0) (h2 : p + 2 ≤ t.size) (h47 : bt t p = 47) : bt t (p + 1) ≠ 47 ∧ bt t (p + 1) ≠ 42 := by
  unfold noteI at h
  rw [if_neg (by omega)] at h
  constructor
  · intro e
    rw [if_pos e] at h
    have hs := runB_step t noEnd t.size t.size p (by omega) (by rw [h47]; decide) (by omega) (by omega)
    have := runB_ge t noEnd t.size (p + 1)
    omega
  · intro e
    rw [if_neg (by omega), if_neg (by omega)] at h
    have aux : ∀ f k, 0 < k → closeI t f k ≠ 0 := by
      intro f
      induction f with
      | zero => intro k hk; rw [closeI]; omega
      | succ f ih =>
        intro k hk
        rw [closeI]
        split
        · split
          · omega
          · exact ih _ (by omega)
        · omega
    exact aux _ _ (by omega) h

theorem Cls.gt {t : ByteArray} {p k e : Nat} (h : Cls t p k e) (hp : p < t.size) : p < e ∧ e ≤ t.size := by
  cases h with
  | run h =>
    have h1 := runB_ge t isIn t.size (p + 1)
    have h2 := runB_le t isIn t.size (p + 1) (by omega)
    omega
  | quote h e he =>
    have := quoteI_gt t _ _ _ _ he
    omega
  | sign hI hn hq h0 =>
    have := signN_le (t.extract p t.size)
    rw [ext_size _ _ _ (Nat.le_refl _)] at this
    omega

theorem ext_moved (t c : ByteArray) (p q n : Nat) (hm : Moved t c p q n) (ht : p + n ≤ t.size) (hc : q + n ≤ c.size) : c.extract q (q + n) = t.extract p (p + n) :=
  ba_ext _ _ (by rw [ext_size _ _ _ ht, ext_size _ _ _ hc]; omega) (fun i hi => by
    rw [ext_size _ _ _ hc] at hi
    rw [bt_ext c q (q + n) i (by omega) hc, bt_ext t p (p + n) i (by omega) ht]
    exact hm i (by omega))

theorem Cls.move {t c : ByteArray} {p q k n : Nat} (h : Cls t p k (p + n)) (hp : p < t.size) (hm : Moved t c p q n) (hc : q + n < c.size) (h32 : bt c (q + n) = 32) (hlow : bt t p < 128) (hb : bt t p ≠ 10 ∧ bt t p ≠ 32 ∧ bt t p ≠ 9 ∧ bt t p ≠ 13) (l notes : List Tk) :
    stepB c ⟨q, l, notes⟩ = some ⟨q + n, l ++ [⟨k, t.extract p (p + n), q⟩], notes⟩ := by
  obtain ⟨g1, g2⟩ := h.gt hp
  have hx := ext_moved t c p q n hm g2 (by omega)
  have e0 : bt c q = bt t p := hm 0 (by omega)
  have hfe : ¬ feff c q = true := fun h => by
    obtain ⟨h0, _, h1, _⟩ := (feff_iff c q).1 h
    subst h0
    omega
  unfold stepB
  dsimp only
  rw [if_neg hfe, e0, if_neg hb.1, if_neg (by omega)]
  generalize hE : p + n = E at *
  cases h with
  | run h =>
    have h47 : noteI c q = 0 := by
      unfold noteI
      rw [if_pos (.inr (by rw [e0]; intro h'; rw [h'] at h; revert h; decide))]
    have hr : runB c isIn c.size (q + 1) = q + n := by
      rw [runB_skip c isIn (q + 1) (n - 1) c.size (by omega) (fun i hi => by
        have := hm (1 + i) (by omega)
        rw [← Nat.add_assoc, ← Nat.add_assoc] at this
        rw [this]
        exact runB_all t isIn t.size (p + 1) _ (by omega) (by omega)) (by omega)]
      rw [show q + 1 + (n - 1) = q + n by omega]
      exact runB_stop _ _ _ _ (.inr (by rw [h32]; decide))
    rw [if_neg (fun h => h h47), if_pos h, hr, hx]
  | quote h e he =>
    have h47 : noteI c q = 0 := by
      unfold noteI
      rw [if_pos (.inr (by rw [e0]; omega))]
    have hin : ¬ isIn (bt t p : Int) = true := by rcases h with h | h <;> rw [h] <;> decide
    have hq : quoteI c (bt t p) c.size (q + 1) = ((q + n : Nat) : Int) := by
      rw [quoteI_more c (bt t p) c.size (t.size + c.size) (q + 1) (by omega) (by omega)]
      refine quoteI_move t c p q (bt t p) n hm (by omega) _ 1 ?_
      rw [quoteI_more t (bt t p) (t.size + c.size) t.size (p + 1) (by omega) (by omega), he, hE]
    rw [if_neg (fun h => h h47), if_neg hin, if_pos h, hq, if_neg (by omega), Int.toNat_natCast, hx]
  | sign hI hn hq h0 =>
    have hn' : n = signN (t.extract p t.size) := by omega
    have hz := ext_size t p t.size (Nat.le_refl _)
    have hzc := ext_size c q c.size (Nat.le_refl _)
    have hle := signN_le (t.extract p t.size)
    have hs : signN (c.extract q c.size) = n := by
      rw [hn']
      refine signN_moved _ _ h0 (by omega) (fun i hi => ?_) ?_
      · rw [bt_ext c q c.size i (by omega) (Nat.le_refl _), bt_ext t p t.size i (by omega) (Nat.le_refl _)]
        exact hm i (by omega)
      · rw [bt_ext c q c.size _ (by omega) (Nat.le_refl _), ← hn']
        exact h32
    have h47 : noteI c q = 0 := by
      unfold noteI
      by_cases e : bt t p = 47
      · have h1 : bt c (q + 1) ≠ 47 ∧ bt c (q + 1) ≠ 42 := by
          by_cases e1 : n = 1
          · rw [e1] at h32; omega
          · have := hm 1 (by omega)
            have := noteI_zero t p hI (by omega) e
            omega
        rw [if_neg (by omega), if_neg h1.1, if_pos h1.2]
      · rw [if_pos (.inr (by omega))]
    rw [if_neg (fun h => h h47), hn, if_neg (by simp), if_neg hq, hs, if_neg (by omega), hx]

/-! ### It is a text elsewhere, too -/
theorem dec_move (t c : ByteArray) (p q : Nat) (hp : p < t.size) (hg : bad t p (sig t p) = false) (hm : Moved t c p q (wid t p)) (hc : q + wid t p ≤ c.size) : Utf8.decode c q = Utf8.decode t p := by
  have hw := wid_pos t p
  have e0 := hm 0 (by omega)
  have hnb : Utf8.decode t p ≠ (65533, 1) := fun e => by
    unfold bad sig wid at hg
    rw [e] at hg
    simp at hg
  simp only [Nat.add_zero] at e0
  unfold wid at hm hc hw
  by_cases g1 : bt t p < 128
  · rw [dec_1 t p g1, dec_1 c q (by omega), e0]
  by_cases g2 : bt t p < 192 ∨ 248 ≤ bt t p
  · exact absurd (dec_x t p (by omega) g2) hnb
  by_cases g3 : bt t p < 224
  · have e := dec_2 t p (by omega) g3
    have e' := dec_2 c q (by omega) (by omega)
    rw [e] at hm hc hnb ⊢
    rw [e']
    split at hnb
    · rename_i hh
      rw [if_pos hh] at hm hc ⊢
      dsimp only at hm hc
      have e1 := hm 1 (by omega)
      rw [e0, e1, if_pos ⟨by omega, hh.2⟩]
    · exact absurd rfl hnb
  by_cases g4 : bt t p < 240
  · have e := dec_3 t p (by omega) g4
    have e' := dec_3 c q (by omega) (by omega)
    rw [e] at hm hc hnb ⊢
    rw [e']
    split at hnb
    · rename_i hh
      rw [if_pos hh] at hm hc ⊢
      dsimp only at hm hc
      have e1 := hm 1 (by omega)
      have e2 := hm 2 (by omega)
      rw [e0, e1, e2, if_pos ⟨by omega, hh.2⟩]
    · exact absurd rfl hnb
  · have e := dec_4 t p (by omega) (by omega)
    have e' := dec_4 c q (by omega) (by omega)
    rw [e] at hm hc hnb ⊢
    rw [e']
    split at hnb
    · rename_i hh
      rw [if_pos hh] at hm hc ⊢
      dsimp only at hm hc
      have e1 := hm 1 (by omega)
      have e2 := hm 2 (by omega)
      have e3 := hm 3 (by omega)
      rw [e0, e1, e2, e3, if_pos ⟨by omega, hh.2⟩]
    · exact absurd rfl hnb

theorem wrongF_more (s : ByteArray) : ∀ f g p, s.size ≤ p + f → s.size ≤ p + g → wrongF s f p = wrongF s g p
  | 0, 0, p, _, _ => rfl
  | 0, g + 1, p, h, _ => by rw [wrongF, wrongF, if_neg (by omega)]
  | f + 1, 0, p, _, h => by rw [wrongF, wrongF, if_neg (by omega)]
  | f + 1, g + 1, p, h1, h2 => by
    have := wid_pos s p
    rw [wrongF, wrongF, wrongF_more s f g (p + wid s p) (by omega) (by omega)]
theorem Valid.one {c : ByteArray} {q : Nat} (hq : q < c.size) (hg : bad c q (sig c q) = false) (h : Valid c (q + wid c q)) : Valid c q := by
  obtain ⟨f, h1, h2⟩ := h
  refine ⟨c.size + 1, by omega, ?_⟩
  rw [wrongF, if_pos hq, hg]
  rw [wrongF_more c f c.size _ h1 (by omega)] at h2
  exact h2
theorem Valid.low {c : ByteArray} {q : Nat} (hq : q < c.size) (h0 : bt c q ≠ 0) (hl : bt c q < 128) (h : Valid c (q + 1)) : Valid c q := by
  obtain ⟨e1, e2⟩ := sig_1 c q hl
  refine Valid.one hq ?_ (by rw [e2]; exact h)
  unfold bad
  rw [e1]
  simp only [Bool.or_eq_false_iff, Bool.and_eq_false_iff]
  refine ⟨⟨?_, .inl ?_⟩, .inl ?_⟩
  · exact beq_eq_false_iff_ne.2 (by omega)
  · exact beq_eq_false_iff_ne.2 (by omega)
  · exact beq_eq_false_iff_ne.2 (by omega)
theorem valid_move (t c : ByteArray) : ∀ n m p q, n ≤ m → p + n ≤ t.size → Edge t (p + n) → Valid t p → (0 < p ∨ bt t p < 128) → q + n ≤ c.size → Moved t c p q n → Valid c (q + n) → Valid c q := by
  intro n m
  induction m generalizing n with
  | zero => intro p q hnm ht hE hv hpos hc hm h; obtain rfl : n = 0 := by omega
            exact h
  | succ m ih =>
    intro p q hnm ht hE hv hpos hc hm h
    by_cases h0 : n = 0
    · subst h0; exact h
    · obtain ⟨hg, hv'⟩ := valid_next (by omega) hv
      have hw := wid_pos t p
      have hs := edge_skip (t := t) (p := p) (q := p + n) (by omega) (by omega) ht hE
      have hd := dec_move t c p q (by omega) hg (fun i hi => hm i (by omega)) (by omega)
      have es : sig c q = sig t p := congrArg Prod.fst hd
      have ew : wid c q = wid t p := congrArg Prod.snd hd
      refine Valid.one (by omega) ?_ ?_
      · rw [es]
        unfold bad at hg ⊢
        rw [ew]
        have hfe : (((sig t p : Nat) : Int) == 65279 && decide (0 < q)) = false := by
          rcases hpos with hp | hp
          · rw [decide_eq_true hp, Bool.and_true] at hg
            have : (((sig t p : Nat) : Int) == 65279) = false := by
              cases e : (((sig t p : Nat) : Int) == 65279)
              · rfl
              · rw [e] at hg; simp at hg
            rw [this]; rfl
          · have := (sig_1 t p hp).1
            rw [beq_eq_false_iff_ne.2 (by omega : ((sig t p : Nat) : Int) ≠ 65279)]; rfl
        rw [hfe, Bool.or_false]
        cases e1 : (((sig t p : Nat) : Int) == 0)
        · rw [Bool.false_or]
          rw [Bool.or_eq_false_iff] at hg
          exact hg.2
        · rw [e1] at hg; simp at hg
      · rw [ew]
        refine ih (n - wid t p) (p + wid t p) (q + wid t p) (by omega) (by omega) (by rw [show p + wid t p + (n - wid t p) = p + n by omega]; exact hE) hv' (.inl (by omega)) (by omega) (fun i hi => ?_) (by rw [show q + wid t p + (n - wid t p) = q + n by omega]; exact h)
        have := hm (wid t p + i) (by omega)
        rw [← Nat.add_assoc, ← Nat.add_assoc] at this
        exact this
end Go.Proofs.YtijinpnbhnfiiaaDoor

namespace Go.Proofs.YtijinpnbhnfiiaaDoor
open Go.RowKit
set_option linter.unusedVariables false

theorem quoteI_last (t : ByteArray) (q : Nat) : ∀ f k (m : Nat), quoteI t q f k = (m : Int) → bt t (m - 1) = q
  | 0, k, m, h => by rw [quoteI] at h; omega
  | f + 1, k, m, h => by
    rw [quoteI] at h
    split at h
    · split at h
      · omega
      split at h
      · rename_i hb
        obtain rfl : k + 1 = m := by omega
        exact hb
      split at h
      · split at h
        · omega
        · exact quoteI_last t q f _ m h
      · exact quoteI_last t q f _ m h
    · omega

theorem Cls.low {t : ByteArray} {p k e : Nat} (h : Cls t p k e) (hp : p < t.size) : bt t p < 128 ∧ bt t (e - 1) < 128 := by
  have hg := h.gt hp
  cases h with
  | run h =>
    have h0 := isIn128 _ h
    refine ⟨by omega, ?_⟩
    by_cases e : runB t isIn t.size (p + 1) = p + 1
    · rw [e]; simp; omega
    · have := isIn128 _ (runB_all t isIn t.size (p + 1) (runB t isIn t.size (p + 1) - 1) (by omega) (by omega))
      omega
  | quote h e he =>
    have := quoteI_last t _ _ _ _ he
    omega
  | sign hI hn hq h0 =>
    have hle := signN_le (t.extract p t.size)
    have hz := ext_size t p t.size (Nat.le_refl _)
    have hb : ∀ i, i < signN (t.extract p t.size) → bt t (p + i) < 128 := fun i hi => by
      have := sign_bytes _ (signN_isSign _ h0) i (by rw [ext_size _ _ _ hle]; omega)
      rw [bt_ext _ _ _ _ (by omega) hle, Nat.zero_add, bt_ext t p t.size i (by omega) (Nat.le_refl _)] at this
      exact this
    refine ⟨hb 0 (by omega), ?_⟩
    rw [show p + signN (t.extract p t.size) - 1 = p + (signN (t.extract p t.size) - 1) by omega]
    exact hb _ (by omega)

structure Orig (t : ByteArray) (tk : Tk) : Prop where
  pos : 0 < tk.text.size
  le : tk.at_ + tk.text.size ≤ t.size
  ext : t.extract tk.at_ (tk.at_ + tk.text.size) = tk.text
  valid : Valid t tk.at_
  cls : Cls t tk.at_ tk.kind (tk.at_ + tk.text.size)
  nb : bt t tk.at_ ≠ 10 ∧ bt t tk.at_ ≠ 32 ∧ bt t tk.at_ ≠ 9 ∧ bt t tk.at_ ≠ 13
def PutT (tk : Tk) : Prop := tk.kind = 6 ∧ tk.text = nlT

theorem orig_of {t : ByteArray} {p k e : Nat} (hp : p < t.size) (h : Cls t p k e) (hv : Valid t p) (hb : bt t p ≠ 10 ∧ bt t p ≠ 32 ∧ bt t p ≠ 9 ∧ bt t p ≠ 13) : Orig t ⟨k, t.extract p e, p⟩ := by
  obtain ⟨g1, g2⟩ := h.gt hp
  have hz := ext_size t p e g2
  have he : p + (t.extract p e).size = e := by omega
  refine ⟨by show 0 < (t.extract p e).size; omega, by show p + (t.extract p e).size ≤ _; omega, ?_, hv, ?_, hb⟩
  · show t.extract p (p + (t.extract p e).size) = t.extract p e
    rw [he]
  · show Cls t p k (p + (t.extract p e).size)
    rw [he]
    exact h

/-- What each token is, and where it stood. -/
theorem scanR_orig {s : ByteArray} (h : (scanR s).err = 0) : ∀ tk ∈ (scanR s).st.toks, PutT tk ∨ Orig s tk := by
  obtain ⟨-, hw, ha, -⟩ := scanR_ok h
  obtain ⟨x, hx, e⟩ := allP_inv (fun p x => Valid s p ∧ ∀ tk ∈ x.toks, PutT tk ∨ Orig s tk) (fun p x x' hp ha hI hb => by
    obtain ⟨hv, hI⟩ := hI
    obtain ⟨hg, hv'⟩ := valid_next hp hv
    refine ⟨hv', ?_⟩
    rcases step_same s x p hp hg with ⟨e1, e2⟩ | ⟨x2, y, e1, e2, s1, s2, s3⟩
    · rw [e1] at hb; cases hb
    · rw [e1] at hb
      cases hb
      rw [s1]
      rcases stepB_cls e2 with h | ⟨k, e, hc, hb, rfl⟩
      · intro tk htk
        rcases h tk htk with h | h
        · exact hI tk h
        · exact .inl h
      · intro tk htk
        rcases List.mem_append.1 htk with h | h
        · exact hI tk h
        · rw [List.mem_singleton.1 h]
          exact .inr (orig_of hp hc hv hb)) (fun p x hp ha hI => ⟨(valid_next hp hI.1).2, hI.2⟩) ⟨⟨s.size, by omega, hw⟩, fun _ h => by cases h⟩ ha
  rw [e]
  intro tk htk
  rcases endL_mem htk with h | h
  · exact hx.2 tk h
  · exact .inl (by rw [h]; exact ⟨rfl, rfl⟩)

theorem Orig.low {t : ByteArray} {tk : Tk} (h : Orig t tk) : bt t tk.at_ < 128 := (h.cls.low (by have := h.le; have := h.pos; omega)).1
theorem Orig.edge {t : ByteArray} {tk : Tk} (h : Orig t tk) : Edge t (tk.at_ + tk.text.size) :=
  .inr (.inr ⟨by have := h.pos; omega, (h.cls.low (by have := h.le; have := h.pos; omega)).2⟩)
theorem Orig.bt {t : ByteArray} {tk : Tk} (h : Orig t tk) (i : Nat) (hi : i < tk.text.size) : YtijinpnbhnfiiaaDoor.bt tk.text i = YtijinpnbhnfiiaaDoor.bt t (tk.at_ + i) := by
  have := bt_ext t tk.at_ (tk.at_ + tk.text.size) i (by omega) h.le
  rw [h.ext] at this
  exact this
theorem Orig.list {t : ByteArray} {tk : Tk} (h : Orig t tk) : (tk.text.toList == [10]) = false := by
  cases e : (tk.text.toList == [10])
  · rfl
  · have e1 := beq_iff_eq.1 e
    have h0 := (head_bt tk.text 10 [] e1).2
    have h1 := h.bt 0 h.pos
    have h2 := h.nb.1
    rw [Nat.add_zero] at h1
    rw [h1] at h0
    exact absurd h0 h2

/-! ### The tokens joined -/
def sepL (tk : Tk) : List UInt8 := tk.text.data.toList ++ (if tk.text.toList == [10] then [] else [32])
def joinL (l : List Tk) : List UInt8 := l.flatMap sepL
def joinB (l : List Tk) : ByteArray := ⟨(joinL l).toArray⟩
theorem joinB_list (l : List Tk) : (joinB l).data.toList = joinL l := rfl
theorem joinB_size (l : List Tk) : (joinB l).size = (joinL l).length := by show (joinL l).toArray.size = _; simp
theorem joinL_append (a b : List Tk) : joinL (a ++ b) = joinL a ++ joinL b := List.flatMap_append
theorem joinL_cons (tk : Tk) (b : List Tk) : joinL (tk :: b) = sepL tk ++ joinL b := rfl

def kt (tk : Tk) : Nat × ByteArray := (tk.kind, tk.text)
def Like (a b : List Tk) : Prop := a.map kt = b.map kt
theorem endsB_kt {a b : Tk} (h : kt a = kt b) : endsB a = endsB b := by
  unfold kt at h
  injection h with h1 h2
  unfold endsB
  rw [h1, h2]

theorem seg_bt (c : ByteArray) (A B C : List UInt8) (h : c.data.toList = A ++ (B ++ C)) (i : Nat) (x : UInt8) (hx : B[i]? = some x) : bt c (A.length + i) = x.toNat := by
  refine bt_of_list c _ x ?_
  have hi := (List.getElem?_eq_some_iff.1 hx).1
  rw [h, List.getElem?_append_right (by omega), show A.length + i - A.length = i by omega, List.getElem?_append_left hi]
  exact hx

section
variable {t : ByteArray} {l : List Tk}

theorem at_put {a b : List Tk} {tk : Tk} (hl : l = a ++ tk :: b) (hp : PutT tk) : bt (joinB l) (joinL a).length = 10 ∧ (joinL a).length + 1 = (joinL (a ++ [tk])).length ∧ (joinL a).length < (joinB l).size := by
  have hs : sepL tk = [10] := by
    have e : (nlT.toList == [10]) = true := by rw [ByteArray.toList_eq]; rfl
    unfold sepL
    rw [hp.2, if_pos e]
    rfl
  have h1 := seg_bt (joinB l) (joinL a) (sepL tk) (joinL b) (by rw [joinB_list, hl, joinL_append, joinL_cons]) 0 10 (by rw [hs]; rfl)
  refine ⟨h1, ?_, ?_⟩
  · rw [joinL_append]; show _ = (joinL a ++ (sepL tk ++ [])).length; rw [hs]; simp
  · rw [joinB_size, hl, joinL_append, joinL_cons, hs]; simp
theorem at_orig {a b : List Tk} {tk : Tk} (hl : l = a ++ tk :: b) (ho : Orig t tk) : Moved t (joinB l) tk.at_ (joinL a).length tk.text.size ∧ bt (joinB l) ((joinL a).length + tk.text.size) = 32 ∧ (joinL a).length + tk.text.size + 1 = (joinL (a ++ [tk])).length ∧ (joinL a).length + tk.text.size < (joinB l).size := by
  have hs : sepL tk = tk.text.data.toList ++ [32] := by
    unfold sepL
    rw [ho.list]
    rfl
  have hlen : tk.text.data.toList.length = tk.text.size := rfl
  have hseg := seg_bt (joinB l) (joinL a) (sepL tk) (joinL b) (by rw [joinB_list, hl, joinL_append, joinL_cons])
  refine ⟨fun i hi => ?_, ?_, ?_, ?_⟩
  · have h1 := hseg i (UInt8.ofNat (bt tk.text i)) (by rw [hs, List.getElem?_append_left (by omega)]; exact bt_list tk.text i hi)
    have h2 := bt_lt tk.text i
    rw [h1, ← ho.bt i hi]
    simp
    omega
  · exact hseg tk.text.size 32 (by rw [hs, List.getElem?_append_right (by omega), hlen, Nat.sub_self]; rfl)
  · rw [joinL_append]; show _ = (joinL a ++ (sepL tk ++ [])).length; rw [hs]; simp <;> omega
  · rw [joinB_size, hl, joinL_append, joinL_cons, hs]; simp <;> omega

theorem joined_valid (hO : ∀ tk ∈ l, PutT tk ∨ Orig t tk) : ∀ b a, l = a ++ b → Valid (joinB l) (joinL a).length
  | [], a, hl => by
    rw [List.append_nil] at hl
    rw [← hl, ← joinB_size]
    exact ⟨0, by omega, rfl⟩
  | tk :: b, a, hl => by
    have ih := joined_valid hO b (a ++ [tk]) (by rw [hl]; simp)
    rcases hO tk (by rw [hl]; simp) with hp | ho
    · obtain ⟨h1, h2, h3⟩ := at_put hl hp
      rw [← h2] at ih
      exact ih.low h3 (by omega) (by omega)
    · obtain ⟨h1, h2, h3, h4⟩ := at_orig hl ho
      rw [← h3] at ih
      exact valid_move t (joinB l) tk.text.size tk.text.size tk.at_ _ (Nat.le_refl _) ho.le ho.edge ho.valid (.inr ho.low) (by omega) h1 (ih.low h4 (by omega) (by omega))

theorem joined_scan (hO : ∀ tk ∈ l, PutT tk ∨ Orig t tk) (hP : PutOk l) : ∀ b a la k, l = a ++ b → Like a la → (joinB l).size ≤ (joinL a).length + k →
    ∃ lb, scanF (joinB l) k ⟨(joinL a).length, la, []⟩ = .ok ⟨(joinB l).size, la ++ lb, []⟩ ∧ Like b lb
  | [], a, la, k, hl, hla, hk => by
    rw [List.append_nil] at hl
    have e : (joinL a).length = (joinB l).size := by rw [← hl, joinB_size]
    refine ⟨[], ?_, rfl⟩
    rw [e, List.append_nil]
    cases k with
    | zero => rfl
    | succ k => rw [scanF, if_neg (by simp)]
  | tk :: b, a, la, k, hl, hla, hk => by
    have ih := fun la' k' => joined_scan hO hP b (a ++ [tk]) la' k' (by rw [hl]; simp)
    rcases hO tk (by rw [hl]; simp) with hp | ho
    · obtain ⟨h1, h2, h3⟩ := at_put hl hp
      rw [← h2] at ih
      obtain ⟨k, rfl⟩ : ∃ k', k = k' + 1 := ⟨k - 1, by omega⟩
      obtain ⟨j, u, hj, hu, he⟩ := hP a.length tk (by rw [hl]; simp) hp.2
      have hlen : la.length = a.length := by have := congrArg List.length hla; simpa using this.symm
      have hlast : la.getLast? = some (la[j]'(by omega)) := by
        rw [List.getLast?_eq_getElem?, show la.length - 1 = j by omega, List.getElem?_eq_getElem]
      have hue : endsB (la[j]'(by omega)) = true := by
        rw [← he]
        refine (endsB_kt ?_).symm
        have e1 : a[j]? = some u := by rw [hl, List.getElem?_append_left (by omega)] at hu; exact hu
        have e2 : (a.map kt)[j]? = some (kt u) := by rw [List.getElem?_map, e1]; rfl
        rw [hla, List.getElem?_map, List.getElem?_eq_getElem (by omega)] at e2
        exact (Option.some.inj e2).symm
      have hend : endL la (joinL a).length = la ++ [⟨6, nlT, (joinL a).length⟩] := by
        unfold endL
        rw [hlast]
        simp only [hue, if_true]
      have hfe : ¬ feff (joinB l) (joinL a).length = true := fun h => by
        obtain ⟨h0, _, h4, _⟩ := (feff_iff _ _).1 h
        rw [h0] at h1
        omega
      have hstep : stepB (joinB l) ⟨(joinL a).length, la, []⟩ = some ⟨(joinL a).length + 1, la ++ [⟨6, nlT, (joinL a).length⟩], []⟩ := by
        unfold stepB
        dsimp only
        rw [if_neg hfe, if_pos h1, hend]
      obtain ⟨lb, e1, e2⟩ := ih (la ++ [⟨6, nlT, (joinL a).length⟩]) k (by
        unfold Like at hla ⊢
        rw [List.map_append, List.map_append, hla]
        unfold kt
        simp [hp.1, hp.2]) (by omega)
      refine ⟨⟨6, nlT, (joinL a).length⟩ :: lb, ?_, ?_⟩
      · rw [scanF, if_pos h3, hstep]
        dsimp only
        rw [e1]
        simp
      · unfold Like at e2 ⊢
        rw [List.map_cons, List.map_cons, e2]
        unfold kt
        simp [hp.1, hp.2]
    · obtain ⟨h1, h2, h3, h4⟩ := at_orig hl ho
      rw [← h3] at ih
      have hpos := ho.pos
      have hle := ho.le
      obtain ⟨k, rfl⟩ : ∃ k', k = k' + 1 + 1 := ⟨k - 2, by omega⟩
      have hs1 := ho.cls.move (by omega) h1 h4 h2 ho.low ho.nb la []
      have hfe : ¬ feff (joinB l) ((joinL a).length + tk.text.size) = true := fun h => by
        obtain ⟨h0, _⟩ := (feff_iff _ _).1 h
        omega
      have hs2 : stepB (joinB l) ⟨(joinL a).length + tk.text.size, la ++ [⟨tk.kind, t.extract tk.at_ (tk.at_ + tk.text.size), (joinL a).length⟩], []⟩ = some ⟨(joinL a).length + tk.text.size + 1, la ++ [⟨tk.kind, t.extract tk.at_ (tk.at_ + tk.text.size), (joinL a).length⟩], []⟩ := by
        unfold stepB
        dsimp only
        rw [if_neg hfe, if_neg (by omega), if_pos (.inl h2)]
      rw [ho.ext] at hs1 hs2
      obtain ⟨lb, e1, e2⟩ := ih (la ++ [⟨tk.kind, tk.text, (joinL a).length⟩]) k (by
        unfold Like at hla ⊢
        rw [List.map_append, List.map_append, hla]
        rfl) (by omega)
      refine ⟨⟨tk.kind, tk.text, (joinL a).length⟩ :: lb, ?_, ?_⟩
      · rw [scanF, if_pos (by show (joinL a).length < _; omega), hs1]
        dsimp only
        rw [scanF, if_pos (by show (joinL a).length + tk.text.size < _; omega), hs2]
        dsimp only
        rw [e1]
        simp
      · unfold Like at e2 ⊢
        rw [List.map_cons, List.map_cons, e2]
        rfl
end

/-! ### How long they are -/
theorem room_sum (N : Nat) : ∀ (l : List Tk) (lo : Nat), (∀ a ∈ l, lo ≤ a.at_) → l.Pairwise (fun a b => a.at_ + room a ≤ b.at_) → (∀ a ∈ l, a.at_ + room a ≤ N) → lo ≤ N → lo + (l.map room).sum ≤ N
  | [], lo, h1, h2, h3, h4 => by simpa using h4
  | a :: l, lo, h1, h2, h3, h4 => by
    rw [List.pairwise_cons] at h2
    have := room_sum N l (a.at_ + room a) h2.1 h2.2 (fun b hb => h3 b (List.mem_cons_of_mem _ hb)) (h3 a (List.mem_cons_self ..))
    have h5 := h1 a (List.mem_cons_self ..)
    rw [List.map_cons, List.sum_cons]
    omega
theorem sepL_len (tk : Tk) : (sepL tk).length ≤ room tk + 1 := by
  have hlen : tk.text.data.toList.length = tk.text.size := rfl
  unfold sepL room putB
  cases e : (tk.text.toList == [10])
  · simp <;> omega
  · have e1 := beq_iff_eq.1 e
    have := list_size tk.text
    rw [e1] at this
    simp at this
    simp
    omega
theorem joinL_len : ∀ l : List Tk, (joinL l).length ≤ (l.map room).sum + l.length
  | [] => Nat.le_refl _
  | tk :: l => by
    have h1 := sepL_len tk
    have h2 := joinL_len l
    rw [joinL_cons, List.length_append, List.map_cons, List.sum_cons, List.length_cons]
    omega
theorem scanR_len {s : ByteArray} (h : (scanR s).err = 0) : (scanR s).st.toks.length ≤ s.size + 1 := by
  obtain ⟨-, hw, ha, -⟩ := scanR_ok h
  obtain ⟨x, hx, e⟩ := allP_inv (fun p x => x.toks.length ≤ p) (fun p x x' hp ha hI hb => by have := (beginP_len hb).1; have := wid_pos s p; omega) (fun p x hp ha hI => by have := wid_pos s p; omega) (Nat.le_refl _) ha
  rw [e]
  have := endL_len x.toks s.size
  show (endL x.toks s.size).length ≤ _
  omega
theorem joined_size {s : ByteArray} (h : (scanR s).err = 0) : (joinB (scanR s).st.toks).size ≤ 2 * s.size + 1 := by
  have h1 := scanR_len h
  have hS := scanR_stand h
  have h2 := room_sum s.size _ 0 (fun _ _ => Nat.zero_le _) hS.rise (fun a ha => by have := hS.boundT a ha; have := hS.atLe; omega) (Nat.zero_le _)
  have h3 := joinL_len (scanR s).st.toks
  rw [joinB_size]
  omega

/-- Joined, they are scanned as they were. -/
theorem joined (s : ByteArray) (h : (scanR s).err = 0) (hs : s.size ≤ 1000) : (scanR (joinB (scanR s).st.toks)).err = 0 ∧ Like (scanR s).st.toks (scanR (joinB (scanR s).st.toks)).st.toks := by
  have hO := scanR_orig h
  have hP := scanR_put h
  have hL := scanR_last h
  have hsz := joined_size h
  obtain ⟨e1, -, e3, -⟩ := scanR_scanB (joinB (scanR s).st.toks)
  rw [e1, e3]
  generalize (scanR s).st.toks = l at *
  obtain ⟨f, hf, hv⟩ := joined_valid hO l [] rfl
  have hw : ¬ 0 ≤ wrongR (joinB l) := by
    unfold wrongR
    rw [wrongF_more _ _ f 0 (by omega) hf]
    have hv' : wrongF (joinB l) f 0 = -1 := hv
    omega
  obtain ⟨lb, g1, g2⟩ := joined_scan hO hP l [] [] (joinB l).size rfl rfl (by show _ ≤ 0 + _; omega)
  rw [List.nil_append] at g1
  have g1' : scanF (joinB l) (joinB l).size st0 = .ok ⟨(joinB l).size, lb, []⟩ := g1
  have hend : endL lb (joinB l).size = lb := by
    unfold endL
    split
    · rename_i u hu
      have : endsB u = false := by
        have e2 : (l.map kt).getLast? = (lb.map kt).getLast? := by rw [show l.map kt = lb.map kt from g2]
        rw [List.getLast?_map, List.getLast?_map, hu] at e2
        cases e3 : l.getLast? with
        | none => rw [e3] at e2; cases e2
        | some v =>
          rw [e3] at e2
          have e4 : kt v = kt u := Option.some.inj e2
          rw [← endsB_kt e4]
          exact hL v e3
      rw [this]; rfl
    · rfl
  unfold scanB
  rw [if_neg (by omega), if_neg hw, g1']
  exact ⟨rfl, by show Like l (endL lb _); rw [hend]; exact g2⟩
end Go.Proofs.YtijinpnbhnfiiaaDoor
