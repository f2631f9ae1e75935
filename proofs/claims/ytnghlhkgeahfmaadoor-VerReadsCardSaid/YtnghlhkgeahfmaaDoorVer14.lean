/- Plain laws under package ver: notes and lines more, what is written, what stands behind a minor. -/
import Derived.Test.YtnghlhkgeahfmaaDoorVer13
namespace Go.Proofs.YtnghlhkgeahfmaaDoor
open Go.RowKit
set_option linter.unusedVariables false

/-! ### Notes, blank lines, lines toolchain -/
theorem parts_none (x : UInt8) (l : List UInt8) (h : ∀ c ∈ l, c ≠ x) : partsF x [] l = [l] := by
  have := parts_skip x l [] [] h
  simpa [partsF] using this
theorem note_words (l : List UInt8) : lineWords (47 :: 47 :: l) = [] := by
  have hi : Lib.index (47 :: 47 :: l) [47, 47] = 0 := by
    refine Lib.index_first (i := 0) (Nat.zero_le _) ?_ (fun j hj => by omega)
    simp [Lib.occAt, List.isPrefixOf]
  unfold lineWords cutNote Lib.cut
  rw [hi]
  rfl
theorem foldL_empty (l : List UInt8) (P : List (List UInt8)) (x : Rd) (h : lineWords l = []) : foldL x (l :: P) = foldL x P := by
  show (match stepL x (lineWords l) with | some y => foldL y P | none => none) = _
  rw [h]; rfl
theorem foldL_empty_end (l : List UInt8) (P : List (List UInt8)) (x : Rd) (h : lineWords l = []) : foldL x (P ++ [l]) = foldL x P := by
  rw [foldL_snoc, h]
  cases foldL x P <;> rfl

def noteA (n : List UInt8) : List UInt8 := 47 :: 47 :: 32 :: n
theorem notes_same (b n : List UInt8) (hn : ∀ c ∈ n, c ≠ 10) : readL (noteA n ++ 10 :: ([] ++ 10 :: ([32, 9, 13] ++ 10 :: (b ++ 10 :: (47 :: 47 :: n))))) = readL b := by
  unfold readL
  have e1 : partsF 10 [] (noteA n) = [noteA n] := parts_none 10 _ (fun c hc => by
    unfold noteA at hc
    simp only [List.mem_cons] at hc
    rcases hc with rfl | rfl | rfl | hc
    · decide
    · decide
    · decide
    · exact hn c hc)
  have e2 : partsF 10 [] (47 :: 47 :: n) = [47 :: 47 :: n] := parts_none 10 _ (fun c hc => by
    simp only [List.mem_cons] at hc
    rcases hc with rfl | rfl | hc
    · decide
    · decide
    · exact hn c hc)
  rw [parts_joined, e1, parts_joined, parts_joined, parts_joined, e2]
  have e3 : foldL startL ([noteA n] ++ (partsF 10 [] [] ++ (partsF 10 [] [32, 9, 13] ++ (partsF 10 [] b ++ [47 :: 47 :: n])))) = foldL startL (partsF 10 [] b) := by
    show foldL startL (noteA n :: [] :: [32, 9, 13] :: (partsF 10 [] b ++ [47 :: 47 :: n])) = _
    rw [foldL_empty (noteA n) _ _ (note_words _), foldL_empty [] _ _ (by decide +kernel), foldL_empty [32, 9, 13] _ _ (by decide +kernel), foldL_empty_end _ _ _ (note_words _)]
  rw [e3]

def chainL (d : Nat) : List UInt8 := chainW ++ 32 :: [103, 111, 49, 46, UInt8.ofNat (48 + d)]
theorem chain_words : ∀ d : Fin 10, lineWords (chainL d.val) = [chainW, [103, 111, 49, 46, UInt8.ofNat (48 + d.val)]] ∧ (chainL d.val).all (fun c => c != 10) = true := by decide +kernel
theorem stepL_chain (x : Rd) (w : List UInt8) : stepL x [chainW, w] = some x := rfl
theorem chains_same (b : List UInt8) (d : Nat) (hd : d < 10) : readL (b ++ 10 :: chainL d) = readL b := by
  obtain ⟨h1, h2⟩ := chain_words ⟨d, hd⟩
  unfold readL
  rw [parts_joined, parts_none 10 (chainL d) (fun c hc => by simpa using List.all_eq_true.1 h2 c hc), foldL_snoc, h1]
  cases foldL startL (partsF 10 [] b) <;> rfl
theorem chain_alone (b : List UInt8) : readL (b ++ 10 :: chainW) = none := by
  unfold readL
  rw [parts_joined, parts_none 10 chainW (by decide), foldL_snoc, show lineWords chainW = [chainW] by decide +kernel]
  cases foldL startL (partsF 10 [] b) <;> rfl

/-! ### Paths, sign by sign -/
def goP : Bool → List UInt8 → Bool
  | b, [] => b
  | b, c :: t => if c = 47 then b && goP false t else pathB c && goP true t
theorem parts_bad : ∀ (l cur : List UInt8), cur.all pathB = false → (partsF 47 cur l).all nameL = false
  | [], cur, h => by simp [partsF, nameL, h]
  | c :: t, cur, h => by
    rw [partsF]
    split
    · rw [List.all_cons, show nameL cur = false by simp [nameL, h]]; rfl
    · exact parts_bad t _ (by rw [List.all_append, h]; rfl)
theorem parts_go : ∀ (l cur : List UInt8), cur.all pathB = true → (partsF 47 cur l).all nameL = goP (!cur.isEmpty) l
  | [], cur, h => by simp [partsF, nameL, goP, h]
  | c :: t, cur, h => by
    rw [partsF, goP]
    split
    · rw [List.all_cons, parts_go t [] rfl]
      simp [nameL, h]
    · cases hc : pathB c
      · rw [parts_bad t _ (by rw [List.all_append, h]; simp [hc])]
        rfl
      · rw [parts_go t _ (by rw [List.all_append, h]; simp [hc])]
        cases cur <;> simp
theorem pathL_go (l : List UInt8) : pathL l = (decide (l.length ≤ 200) && goP false l) := by
  unfold pathL
  rw [parts_go l [] rfl]
  rfl
theorem goP_two : ∀ (l : List UInt8) (b : Bool), goP b l = true → ∀ j : Nat, l[j]? = some 47 → l[j + 1]? ≠ some 47
  | [], b, h, j, hj => by simp at hj
  | c :: t, b, h, 0, hj => by
    simp at hj
    subst hj
    rw [goP, if_pos rfl, Bool.and_eq_true] at h
    intro h2
    match t, h, h2 with
    | d :: t, h, h2 =>
      simp at h2
      subst h2
      rw [goP, if_pos rfl] at h
      simp at h
  | c :: t, b, h, j + 1, hj => by
    rw [goP] at h
    split at h
    · rw [Bool.and_eq_true] at h
      simpa using goP_two t _ h.2 j (by simpa using hj)
    · rw [Bool.and_eq_true] at h
      simpa using goP_two t _ h.2 j (by simpa using hj)
theorem goP_mem : ∀ (l : List UInt8) (b : Bool), goP b l = true → ∀ c ∈ l, c = 47 ∨ pathB c = true
  | [], b, h, c, hc => by cases hc
  | d :: t, b, h, c, hc => by
    rw [goP] at h
    split at h
    · rename_i e
      rw [Bool.and_eq_true] at h
      rcases List.mem_cons.1 hc with rfl | hc
      · exact .inl e
      · exact goP_mem t _ h.2 c hc
    · rw [Bool.and_eq_true] at h
      rcases List.mem_cons.1 hc with rfl | hc
      · exact .inr h.1
      · exact goP_mem t _ h.2 c hc

/-! ### What is written -/
def digL (m : Nat) : List UInt8 := if m < 10 then [UInt8.ofNat (48 + m)] else [UInt8.ofNat (48 + m / 10), UInt8.ofNat (48 + m % 10)]
theorem dec_dig (m : Nat) (h : m < 100) : Lib.decDigits m = digL m := by
  unfold digL
  rw [Lib.decDigits]
  split
  · rfl
  · rw [Lib.decDigits, dif_pos (by omega)]; rfl
theorem dig_facts : ∀ m : Fin 100, worthL (digL m.val) = some m.val ∧ (digL m.val).all figB = true ∧ figs (digL m.val) = true ∧ relL (46 :: digL m.val) = true ∧ relL (114 :: 99 :: digL m.val) = true ∧ relL (98 :: 101 :: 116 :: 97 :: digL m.val) = true ∧ relL (120 :: digL m.val) = false ∧
    lineWords (103 :: 111 :: 32 :: 49 :: 46 :: digL m.val) = [goW, 49 :: 46 :: digL m.val] ∧ (digL m.val).all (fun c => c != 10) = true := by decide +kernel
theorem minor_app (m : Nat) (hm : m < 100) (r : List UInt8) (hr : ∀ c t, r = c :: t → figB c = false) : minorL (49 :: 46 :: (digL m ++ r)) = if relL r then some m else none := by
  obtain ⟨h1, h2, _⟩ := dig_facts ⟨m, hm⟩
  have ht : (digL m ++ r).takeWhile figB = digL m := by
    rw [List.takeWhile_append_of_pos (fun c hc => List.all_eq_true.1 h2 c hc)]
    cases r with
    | nil => simp
    | cons c t => rw [List.takeWhile_cons, hr c t rfl]; simp
  rw [minorL_rel (49 :: 46 :: (digL m ++ r)) m (by simp [List.isPrefixOf]) (by show worthL ((digL m ++ r).takeWhile figB) = _; rw [ht]; exact h1)]
  show (if relL (List.drop ((digL m ++ r).takeWhile figB).length (digL m ++ r)) = true then some m else none) = _
  rw [ht, List.drop_left]
theorem minor_text (m : Nat) (hm : m < 100) : minorL (49 :: 46 :: digL m) = some m := by
  have := minor_app m hm [] (fun c t h => by cases h)
  rw [List.append_nil] at this
  rw [this]; rfl

theorem path_no : ∀ c : UInt8, pathB c = true → blankB c = false ∧ c ≠ 10 := by
  intro c h
  constructor
  · unfold blankB blankN
    unfold pathB pathN figN at h
    simp only [Bool.or_eq_true, Bool.or_eq_false_iff, Bool.and_eq_true, decide_eq_true_eq, beq_iff_eq, beq_eq_false_iff_ne] at h ⊢
    omega
  · intro e
    subst e
    revert h
    decide +kernel
theorem module_no : ∀ c ∈ moduleW, c ≠ 10 := by decide
theorem module_words (p : List UInt8) (h : pathL p = true) : lineWords (moduleW ++ 32 :: p) = [moduleW, p] ∧ (∀ c ∈ moduleW ++ 32 :: p, c ≠ 10) ∧ p ≠ [] := by
  rw [pathL_go, Bool.and_eq_true] at h
  have hg := h.2
  have hne : p ≠ [] := fun e => by subst e; cases hg
  have hmem := goP_mem p false hg
  have hbl : ∀ c ∈ p, blankB c = false ∧ c ≠ 10 := fun c hc => by
    rcases hmem c hc with rfl | hc
    · decide
    · exact path_no c hc
  refine ⟨?_, ?_, hne⟩
  · have hi : Lib.index (moduleW ++ 32 :: p) [47, 47] = -1 := by
      refine Lib.index_none fun j hj => ?_
      cases ho : Lib.occAt (moduleW ++ 32 :: p) [47, 47] j with
      | false => rfl
      | true =>
        exfalso
        unfold Lib.occAt at ho
        rw [List.isPrefixOf_iff_prefix] at ho
        obtain ⟨t, ht⟩ := ho
        have g0 : (moduleW ++ 32 :: p)[j]? = some 47 := by
          have := congrArg (·[0]?) ht
          simpa using this.symm
        have g1 : (moduleW ++ 32 :: p)[j + 1]? = some 47 := by
          have := congrArg (·[1]?) ht
          simpa using this.symm
        have e : moduleW ++ 32 :: p = [109, 111, 100, 117, 108, 101, 32] ++ p := rfl
        rw [e] at g0 g1
        rcases Nat.lt_or_ge j 7 with h7 | h7
        · rw [List.getElem?_append_left (by simpa using h7)] at g0
          have : ∀ i : Fin 7, ([109, 111, 100, 117, 108, 101, 32] : List UInt8)[i.val]? ≠ some 47 := by decide
          exact this ⟨j, h7⟩ g0
        · rw [List.getElem?_append_right (by simpa using h7)] at g0
          rw [List.getElem?_append_right (by simp; omega)] at g1
          simp only [List.length_cons, List.length_nil, Nat.reduceAdd] at g0 g1
          rw [show j + 1 - 7 = j - 7 + 1 by omega] at g1
          exact goP_two p false hg _ g0 g1
    unfold lineWords cutNote Lib.cut
    rw [if_neg (by rw [hi]; decide)]
    show wordsF blankB [] (moduleW ++ 32 :: p) = _
    rw [words_skip blankB moduleW (32 :: p) [] (by decide), wordsF, if_pos (by decide), if_neg (by decide)]
    have := words_skip blankB p [] [] (fun c hc => (hbl c hc).1)
    rw [List.append_nil, List.nil_append] at this
    rw [this, wordsF, if_neg hne]
    rfl
  · intro c hc
    rcases List.mem_append.1 hc with hc | hc
    · exact module_no c hc
    · rcases List.mem_cons.1 hc with rfl | hc
      · decide
      · exact (hbl c hc).2
def writeL (p : List UInt8) (m : Nat) : List UInt8 := (moduleW ++ 32 :: p) ++ 10 :: ([] ++ 10 :: ((103 :: 111 :: 32 :: 49 :: 46 :: digL m) ++ 10 :: []))
theorem write_read (p : List UInt8) (m : Nat) (hp : pathL p = true) (hm : m < 100) : readL (writeL p m) = some (p, m) := by
  obtain ⟨h1, h2, hne⟩ := module_words p hp
  obtain ⟨_, _, _, _, _, _, _, h3, h4⟩ := dig_facts ⟨m, hm⟩
  unfold readL writeL
  rw [parts_joined, parts_none 10 _ h2, parts_joined, parts_joined, parts_none 10 (103 :: 111 :: 32 :: 49 :: 46 :: digL m) (fun c hc => by
    simp only [List.mem_cons] at hc
    rcases hc with rfl | rfl | rfl | rfl | rfl | hc
    · decide
    · decide
    · decide
    · decide
    · decide
    · simpa using List.all_eq_true.1 h4 c hc)]
  have e : foldL startL ([moduleW ++ 32 :: p] ++ (partsF 10 [] [] ++ ([103 :: 111 :: 32 :: 49 :: 46 :: digL m] ++ partsF 10 [] []))) = some ⟨p, m, 1, 1⟩ := by
    show foldL startL ((moduleW ++ 32 :: p) :: [] :: (103 :: 111 :: 32 :: 49 :: 46 :: digL m) :: [] :: []) = _
    rw [show foldL startL ((moduleW ++ 32 :: p) :: [] :: (103 :: 111 :: 32 :: 49 :: 46 :: digL m) :: [] :: []) = (match stepL startL (lineWords (moduleW ++ 32 :: p)) with | some y => foldL y ([] :: (103 :: 111 :: 32 :: 49 :: 46 :: digL m) :: [] :: []) | none => none) from rfl, h1]
    have s1 : stepL startL [moduleW, p] = some ⟨p, 16, 1, 0⟩ := by
      rw [stepL_two startL moduleW p (pathL p) ⟨p, 16, 1, 0⟩ rfl, hp]; rfl
    rw [s1]
    show foldL ⟨p, 16, 1, 0⟩ ([] :: (103 :: 111 :: 32 :: 49 :: 46 :: digL m) :: [] :: []) = _
    rw [foldL_empty _ _ _ (by decide)]
    show (match stepL ⟨p, 16, 1, 0⟩ (lineWords (103 :: 111 :: 32 :: 49 :: 46 :: digL m)) with | some y => foldL y ([] :: []) | none => none) = _
    rw [h3]
    have s2 : stepL ⟨p, 16, 1, 0⟩ [goW, 49 :: 46 :: digL m] = some ⟨p, m, 1, 1⟩ := by
      rw [stepL_two _ goW (49 :: 46 :: digL m) (minorL (49 :: 46 :: digL m)).isSome ⟨p, (minorL (49 :: 46 :: digL m)).getD 0, 1, 1⟩ rfl, minor_text m hm]; rfl
    rw [s2]
    show foldL ⟨p, m, 1, 1⟩ ([] :: []) = _
    rw [foldL_empty _ _ _ (by decide)]
    rfl
  rw [e]
  rfl
end Go.Proofs.YtnghlhkgeahfmaaDoor
