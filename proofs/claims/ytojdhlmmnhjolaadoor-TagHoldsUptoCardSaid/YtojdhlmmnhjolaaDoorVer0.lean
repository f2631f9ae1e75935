/- Plain laws under package ver: rows, words, parts of a text, versions, paths, lines. No program stands in it. -/
import Derived.Test.YtojdhlmmnhjolaaDoorBase
import Derived.Lib.FieldsP
import Derived.Lib.SplitLaws
set_option linter.unusedVariables false
namespace Go.Proofs.YtojdhlmmnhjolaaDoor

abbrev ls (s : ByteArray) : List UInt8 := s.data.toList
theorem ls_len (s : ByteArray) : (ls s).length = s.size := (Lib.size_eq s).symm
theorem ls_at (s : ByteArray) (i : Nat) (h : i < s.size) : ∃ c, (ls s)[i]? = some c ∧ c.toNat = bt s i := by
  have h' : i < (ls s).length := by rw [ls_len]; exact h
  refine ⟨(ls s)[i], List.getElem?_eq_getElem h', ?_⟩
  rw [bt_eq s i h]
  rfl
theorem ls_drop (s : ByteArray) (i : Nat) (h : i < s.size) : ∃ c, (ls s).drop i = c :: (ls s).drop (i + 1) ∧ c.toNat = bt s i := by
  obtain ⟨c, h1, h2⟩ := ls_at s i h
  have h' : i < (ls s).length := by rw [ls_len]; exact h
  refine ⟨c, ?_, h2⟩
  rw [List.drop_eq_getElem_cons h']
  rw [List.getElem?_eq_getElem h'] at h1
  injection h1 with h1
  rw [h1]

/-! ### Rows -/
def rowN (p : Nat → Bool) (s : ByteArray) : Nat := ((ls s).takeWhile (fun c => p c.toNat)).length

theorem takeWhile_len {α : Type} (q : α → Bool) : ∀ (l : List α) (k : Nat), k ≤ l.length → (∀ i c, i < k → l[i]? = some c → q c = true) → (∀ c, l[k]? = some c → q c = false) → (l.takeWhile q).length = k
  | [], k, hk, _, _ => by simp at hk; subst hk; rfl
  | x :: l, 0, hk, _, h0 => by simp [h0 x rfl]
  | x :: l, k + 1, hk, h1, h0 => by
    rw [List.takeWhile_cons, h1 0 x (by omega) rfl]
    simp only [if_true, List.length_cons]
    rw [takeWhile_len q l k (by simpa using hk) (fun i c hi hc => h1 (i + 1) c (by omega) (by simpa using hc)) (fun c hc => h0 c (by simpa using hc))]

theorem rowN_at (p : Nat → Bool) (s : ByteArray) (k : Nat) (hk : k ≤ s.size) (h1 : ∀ i, i < k → p (bt s i) = true) (h0 : k < s.size → p (bt s k) = false) : rowN p s = k := by
  refine takeWhile_len _ _ k (by rw [ls_len]; exact hk) (fun i c hi hc => ?_) (fun c hc => ?_)
  · obtain ⟨c', h2, h3⟩ := ls_at s i (by omega)
    rw [h2] at hc; injection hc with hc; subst hc
    show p c'.toNat = true
    rw [h3]; exact h1 i hi
  · have hlt : k < s.size := by rw [← ls_len]; exact (List.getElem?_eq_some_iff.1 hc).1
    obtain ⟨c', h2, h3⟩ := ls_at s k hlt
    rw [h2] at hc; injection hc with hc; subst hc
    show p c'.toNat = false
    rw [h3]; exact h0 hlt
theorem rowN_le (p : Nat → Bool) (s : ByteArray) : rowN p s ≤ s.size := by
  rw [← ls_len]; exact (List.takeWhile_sublist _).length_le
theorem takeWhile_all {α : Type} (q : α → Bool) : ∀ l : List α, (l.takeWhile q).length = l.length ↔ l.all q = true
  | [] => by simp
  | x :: l => by
    rw [List.takeWhile_cons, List.all_cons]
    have ih := takeWhile_all q l
    cases h : q x
    · simp
    · simp only [if_true, List.length_cons, Bool.true_and, ← ih]; omega
theorem rowN_all (p : Nat → Bool) (s : ByteArray) : rowN p s = s.size ↔ (ls s).all (fun c => p c.toNat) = true := by
  rw [← ls_len]; exact takeWhile_all _ _

/-! ### Words -/
def wordsF (q : UInt8 → Bool) : List UInt8 → List UInt8 → List (List UInt8)
  | cur, [] => if cur = [] then [] else [cur]
  | cur, c :: t => if q c then (if cur = [] then wordsF q [] t else cur :: wordsF q [] t) else wordsF q (cur ++ [c]) t

theorem words_skip (q : UInt8 → Bool) : ∀ (a t cur : List UInt8), (∀ c ∈ a, q c = false) → wordsF q cur (a ++ t) = wordsF q (cur ++ a) t
  | [], t, cur, _ => by simp
  | x :: a, t, cur, h => by
    rw [List.cons_append, wordsF, if_neg (by rw [h x (List.mem_cons_self ..)]; simp), words_skip q a t _ (fun c hc => h c (List.mem_cons_of_mem _ hc)), List.append_assoc]
    rfl

theorem words_spans (p : Nat → Bool) (hp : ∀ r, 128 ≤ r → p r = false) (s : ByteArray) : ∀ (f pos : Nat) (st : Option Nat) (acc : List (Nat × Nat)), s.size ≤ pos + f → pos ≤ s.size → (∀ a, st = some a → a < pos) →
    acc.map (fun x => Lib.pieceU (ls s) x.1 x.2) ++ wordsF (fun c => p c.toNat) (Lib.openPiece (ls s) st pos) ((ls s).drop pos) = (Lib.closeSpans s (Lib.spansFromP p s f pos st acc)).map (fun x => Lib.pieceU (ls s) x.1 x.2) := by
  have done : ∀ f st acc, (∀ a, st = some a → a < s.size) → acc.map (fun x => Lib.pieceU (ls s) x.1 x.2) ++ wordsF (fun c => p c.toNat) (Lib.openPiece (ls s) st s.size) ((ls s).drop s.size) = (Lib.closeSpans s (Lib.spansFromP p s f s.size st acc)).map (fun x => Lib.pieceU (ls s) x.1 x.2) := fun f st acc hst => by
    have hd : (ls s).drop s.size = [] := List.drop_eq_nil_of_le (by rw [ls_len]; exact Nat.le_refl _)
    rw [hd, Lib.spansFromP_end p s f _ _ _ (by omega), wordsF]
    cases st with
    | none => simp [Lib.closeSpans, Lib.openPiece]
    | some a =>
      have := Lib.pieceU_ne (ls s) a s.size (hst a rfl) (by rw [ls_len]; exact Nat.le_refl _)
      simp [Lib.closeSpans, Lib.openPiece, this]
  intro f
  induction f with
  | zero =>
    intro pos st acc h hps hst
    obtain rfl : pos = s.size := by omega
    exact done 0 st acc hst
  | succ f ih =>
    intro pos st acc h hps hst
    by_cases hlt : pos < s.size
    · have hwp := wid_pos s pos
      have hwl := wid_le s pos hlt
      have hw : (Utf8.decode s pos).2 = wid s pos := rfl
      have hsg : (Utf8.decode s pos).1 = sig s pos := rfl
      simp only [Lib.spansFromP, if_pos hlt, hw, hsg]
      have hk := sign_kind s pos
      cases hpr : p (sig s pos) with
      | true =>
        rcases hk with ⟨k1, k2, k3⟩ | ⟨k1, _⟩
        · obtain ⟨c, e1, e2⟩ := ls_drop s pos hlt
          rw [e1, wordsF, if_pos (by rw [e2, ← k2]; exact hpr)]
          simp only [if_true]
          rw [k1]
          cases st with
          | none =>
            have := ih (pos + 1) none acc (by omega) (by omega) (fun a h => by cases h)
            simpa [Lib.openPiece] using this
          | some a =>
            have hpn := Lib.pieceU_ne (ls s) a pos (hst a rfl) (by rw [ls_len]; omega)
            have := ih (pos + 1) none (acc ++ [(a, pos)]) (by omega) (by omega) (fun a h => by cases h)
            simpa [Lib.openPiece, hpn] using this
        · rw [hp _ k1] at hpr; cases hpr
      | false =>
        simp only [Bool.false_eq_true, if_false]
        have hall : ∀ c ∈ ((ls s).drop pos).take (wid s pos), (fun c : UInt8 => p c.toNat) c = false := by
          intro c hc
          obtain ⟨i, hi⟩ := List.mem_iff_getElem?.1 hc
          have hiw : i < wid s pos := by
            have := (List.getElem?_eq_some_iff.1 hi).1
            rw [List.length_take] at this
            omega
          rw [List.getElem?_take, if_pos hiw, List.getElem?_drop] at hi
          obtain ⟨c', g1, g2⟩ := ls_at s (pos + i) (by omega)
          rw [g1] at hi; injection hi with hi; subst hi
          show p c'.toNat = false
          rw [g2]
          rcases hk with ⟨k1, k2, k3⟩ | ⟨k1, k2, k3⟩
          · obtain rfl : i = 0 := by omega
            rw [Nat.add_zero, ← k2]; exact hpr
          · exact hp _ (k3 i hiw)
        have hsplit : (ls s).drop pos = ((ls s).drop pos).take (wid s pos) ++ (ls s).drop (pos + wid s pos) := by
          rw [← List.drop_drop]; exact (List.take_append_drop _ _).symm
        rw [hsplit, words_skip _ _ _ _ hall]
        cases st with
        | none =>
          have := ih (pos + wid s pos) (some pos) acc (by omega) hwl (fun a h => by cases h; omega)
          rw [← this]
          simp only [Lib.openPiece, List.nil_append]
          congr 2
          unfold Lib.pieceU
          rw [Nat.add_sub_cancel_left]
        | some a =>
          have := ih (pos + wid s pos) (some a) acc (by omega) hwl (fun b h => by cases h; have := hst a rfl; omega)
          rw [← this]
          simp only [Lib.openPiece]
          rw [Lib.pieceU_grow _ _ _ _ (Nat.le_of_lt (hst a rfl))]
    · obtain rfl : pos = s.size := by omega
      exact done _ st acc hst

theorem words_eq (p : Nat → Bool) (hp : ∀ r, 128 ≤ r → p r = false) (s : ByteArray) : (Lib.goFieldsP p s).map ls = wordsF (fun c => p c.toNat) [] (ls s) := by
  have h := words_spans p hp s s.size 0 none [] (by omega) (Nat.zero_le _) (fun a h => by cases h)
  simp only [List.map_nil, List.nil_append, Lib.openPiece, List.drop_zero] at h
  rw [h]
  unfold Lib.goFieldsP Lib.spansOfP
  rw [List.map_map]
  refine List.map_congr_left fun x _ => ?_
  show ls (s.extract x.1 x.2) = Lib.pieceU (ls s) x.1 x.2
  unfold ls Lib.pieceU
  rw [Lib.extract_data]

/-! ### Parts -/
def partsF (x : UInt8) : List UInt8 → List UInt8 → List (List UInt8)
  | cur, [] => [cur]
  | cur, c :: t => if c = x then cur :: partsF x [] t else partsF x (cur ++ [c]) t
theorem parts_skip (x : UInt8) : ∀ (a t cur : List UInt8), (∀ c ∈ a, c ≠ x) → partsF x cur (a ++ t) = partsF x (cur ++ a) t
  | [], t, cur, _ => by simp
  | y :: a, t, cur, h => by
    rw [List.cons_append, partsF, if_neg (h y (List.mem_cons_self ..)), parts_skip x a t _ (fun c hc => h c (List.mem_cons_of_mem _ hc)), List.append_assoc]
    rfl
theorem parts_joined (x : UInt8) : ∀ (a b cur : List UInt8), partsF x cur (a ++ x :: b) = partsF x cur a ++ partsF x [] b
  | [], b, cur => by simp [partsF]
  | y :: a, b, cur => by
    rw [List.cons_append, partsF, partsF]
    split
    · rw [parts_joined x a b [], List.cons_append]
    · exact parts_joined x a b _
theorem occ_one (l : List UInt8) (x : UInt8) (j : Nat) : Lib.occAt l [x] j = true ↔ l[j]? = some x := by
  unfold Lib.occAt
  rw [List.isPrefixOf_iff_prefix, List.cons_prefix_iff]
  constructor
  · rintro ⟨t, h, _⟩
    have := congrArg (·[0]?) h
    simpa using this
  · intro h
    have hj := (List.getElem?_eq_some_iff.1 h).1
    refine ⟨l.drop (j + 1), ?_, List.nil_prefix⟩
    rw [List.drop_eq_getElem_cons hj]
    rw [List.getElem?_eq_getElem hj] at h
    injection h with h
    rw [h]
theorem parts_index (x : UInt8) (l : List UInt8) : (Lib.index l [x] = -1 ∧ partsF x [] l = [l]) ∨ ∃ i : Nat, Lib.index l [x] = i ∧ i < l.length ∧ partsF x [] l = l.take i :: partsF x [] (l.drop (i + 1)) := by
  rcases Lib.index_spec l [x] with ⟨h1, h2⟩ | ⟨i, h1, h2, h3, h4⟩
  · refine .inl ⟨h1, ?_⟩
    have hn : ∀ c ∈ l, c ≠ x := by
      intro c hc e
      subst e
      obtain ⟨j, hj⟩ := List.mem_iff_getElem?.1 hc
      have := (occ_one l c j).2 hj
      rw [h2 j (Nat.le_of_lt (List.getElem?_eq_some_iff.1 hj).1)] at this
      cases this
    have := parts_skip x l [] [] hn
    simpa [partsF] using this
  · have hx := (occ_one l x i).1 h3
    have hi := (List.getElem?_eq_some_iff.1 hx).1
    refine .inr ⟨i, h1, hi, ?_⟩
    have e : l = l.take i ++ x :: l.drop (i + 1) := by
      have := (List.take_append_drop i l).symm
      rw [List.drop_eq_getElem_cons hi] at this
      rw [List.getElem?_eq_getElem hi] at hx
      injection hx with hx
      rw [hx] at this
      exact this
    have hn : ∀ c ∈ l.take i, c ≠ x := by
      intro c hc e
      subst e
      obtain ⟨j, hj⟩ := List.mem_iff_getElem?.1 hc
      have hji : j < i := by
        have := (List.getElem?_eq_some_iff.1 hj).1
        rw [List.length_take] at this
        omega
      rw [List.getElem?_take, if_pos hji] at hj
      have := (occ_one l c j).2 hj
      rw [h4 j hji] at this
      cases this
    conv => lhs; rw [e]
    rw [parts_skip x _ _ _ hn, partsF, if_pos rfl, List.nil_append]
theorem split_parts (x : UInt8) : ∀ (k : Nat) (s : ByteArray), Lib.countB s ⟨#[x]⟩ = k → (Lib.splitB ⟨#[x]⟩ 0 k s).map ls = partsF x [] (ls s) := by
  intro k
  induction k with
  | zero =>
    intro s h
    have hl : Lib.count (ls s) [x] = 0 := h
    rw [Lib.count_one] at hl
    have hn : ∀ c ∈ ls s, c ≠ x := fun c hc e => by
      subst e
      have := List.count_pos_iff.2 hc
      omega
    have := parts_skip x (ls s) [] [] hn
    rw [Lib.splitB_zero]
    simpa [partsF] using this.symm
  | succ k ih =>
    intro s h
    rcases parts_index x (ls s) with ⟨h1, h2⟩ | ⟨i, h1, h2, h3⟩
    · exfalso
      have hl : Lib.count (ls s) [x] = k + 1 := h
      rw [Lib.count_one] at hl
      have hm := List.count_pos_iff.1 (show 0 < (ls s).count x by omega)
      obtain ⟨j, hj⟩ := List.mem_iff_getElem?.1 hm
      rcases Lib.index_spec (ls s) [x] with ⟨_, g2⟩ | ⟨i, g1, _⟩
      · have := (occ_one _ x j).2 hj
        rw [g2 j (Nat.le_of_lt (List.getElem?_eq_some_iff.1 hj).1)] at this
        cases this
      · omega
    · have hd : ls (s.extract (i + 1) s.size) = (ls s).drop (i + 1) := Lib.extract_to_end s (i + 1)
      rw [Lib.splitB_hit _ _ _ _ i h1, List.map_cons, h3]
      congr 1
      · show ls (s.extract 0 (i + 0)) = _
        rw [Nat.add_zero]; exact Lib.extract_from_zero s i
      · show (Lib.splitB ⟨#[x]⟩ 0 k (s.extract (i + 1) s.size)).map ls = _
        rw [ih _ ?_, hd]
        have hl : Lib.count (ls s) [x] = k + 1 := h
        show Lib.count (ls (s.extract (i + 1) s.size)) [x] = k
        rw [hd, Lib.count_one]
        rw [Lib.count_one] at hl
        have e : ls s = (ls s).take i ++ x :: (ls s).drop (i + 1) := by
          have hx : (ls s)[i]? = some x := by
            rcases Lib.index_spec (ls s) [x] with ⟨g1, _⟩ | ⟨j, g1, _, g3, _⟩
            · omega
            · obtain rfl : j = i := by omega
              exact (occ_one _ x j).1 g3
          have := (List.take_append_drop i (ls s)).symm
          rw [List.drop_eq_getElem_cons h2] at this
          rw [List.getElem?_eq_getElem h2] at hx
          injection hx with hx
          rw [hx] at this
          exact this
        have hn0 : ((ls s).take i).count x = 0 := by
          rw [List.count_eq_zero]
          intro hc
          obtain ⟨j, hj⟩ := List.mem_iff_getElem?.1 hc
          have hji : j < i := by
            have := (List.getElem?_eq_some_iff.1 hj).1
            rw [List.length_take] at this
            omega
          rw [List.getElem?_take, if_pos hji] at hj
          rcases Lib.index_spec (ls s) [x] with ⟨g1, _⟩ | ⟨j', g1, _, _, g4⟩
          · omega
          · obtain rfl : j' = i := by omega
            have := (occ_one _ x j).2 hj
            rw [g4 j hji] at this
            cases this
        rw [e, List.count_append, hn0, List.count_cons_self] at hl
        omega

/-! ### Versions, paths -/
def figN (n : Nat) : Bool := decide (48 ≤ n) && decide (n ≤ 57)
def blankN (n : Nat) : Bool := n == 32 || n == 9 || n == 13
def pathN (n : Nat) : Bool := (decide (97 ≤ n) && decide (n ≤ 122)) || (decide (65 ≤ n) && decide (n ≤ 90)) || figN n || n == 95 || n == 45 || n == 46
theorem figN_big (n : Nat) (h : 128 ≤ n) : figN n = false := by unfold figN; simp; omega
theorem blankN_big (n : Nat) (h : 128 ≤ n) : blankN n = false := by unfold blankN; simp; omega
theorem pathN_big (n : Nat) (h : 128 ≤ n) : pathN n = false := by unfold pathN figN; simp; omega
abbrev figB (c : UInt8) : Bool := figN c.toNat
abbrev pathB (c : UInt8) : Bool := pathN c.toNat
abbrev blankB (c : UInt8) : Bool := blankN c.toNat

def figs (l : List UInt8) : Bool := !l.isEmpty && l.all figB
def worthL : List UInt8 → Option Nat
  | [c] => some (c.toNat - 48)
  | [c, d] => if c = 48 then none else some ((c.toNat - 48) * 10 + (d.toNat - 48))
  | _ => none
def relL (l : List UInt8) : Bool :=
  if [46].isPrefixOf l then figs (l.drop 1) else if [114, 99].isPrefixOf l then figs (l.drop 2) else if [98, 101, 116, 97].isPrefixOf l then figs (l.drop 4) else l.isEmpty
def minorL (l : List UInt8) : Option Nat :=
  if [49, 46].isPrefixOf l then (match worthL ((l.drop 2).takeWhile figB) with
    | some n => if relL ((l.drop 2).drop ((l.drop 2).takeWhile figB).length) then some n else none
    | none => none) else none
def nameL (l : List UInt8) : Bool := !l.isEmpty && l.all pathB
def pathL (l : List UInt8) : Bool := decide (l.length ≤ 200) && (partsF 47 [] l).all nameL

/-! ### A go.mod -/
def cutNote (l : List UInt8) : List UInt8 := (Lib.cut l [47, 47]).1
def lineWords (l : List UInt8) : List (List UInt8) := wordsF blankB [] (cutNote l)
structure Rd where
  path : List UInt8
  minor : Nat
  paths : Nat
  vers : Nat
def moduleW : List UInt8 := [109, 111, 100, 117, 108, 101]
def goW : List UInt8 := [103, 111]
def chainW : List UInt8 := [116, 111, 111, 108, 99, 104, 97, 105, 110]
/-- What a rule does with a word; does it hold? -/
def ruleL (k w : List UInt8) (x : Rd) : Option (Bool × Rd) :=
  if k = moduleW then some (pathL w, { x with path := w, paths := x.paths + 1 })
  else if k = goW then some ((minorL w).isSome, { x with minor := (minorL w).getD 0, vers := x.vers + 1 })
  else if k = chainW then some (true, x)
  else none
def stepL (x : Rd) (ws : List (List UInt8)) : Option Rd :=
  match ws with
  | [] => some x
  | [k, w] => match ruleL k w x with
    | some (true, y) => some y
    | _ => none
  | _ => none
def foldL : Rd → List (List UInt8) → Option Rd
  | x, [] => some x
  | x, l :: t => match stepL x (lineWords l) with
    | some y => foldL y t
    | none => none
def startL : Rd := ⟨[], 16, 0, 0⟩
def readL (b : List UInt8) : Option (List UInt8 × Nat) :=
  match foldL startL (partsF 10 [] b) with
  | some x => if x.paths = 1 ∧ x.vers ≤ 1 then some (x.path, x.minor) else none
  | none => none
end Go.Proofs.YtojdhlmmnhjolaaDoor
