/- package ver: what a line of words does to what a go.mod has said so far. -/
import Derived.Test.YtnghlhkgeahfmaaDoorVer9
namespace Go.Proofs.YtnghlhkgeahfmaaDoor
open Go.RowKit Go.Maps Go.ChangeMaps
set_option linter.unusedVariables false

def moduleB : ByteArray := ⟨#[109, 111, 100, 117, 108, 101]⟩
def goB : ByteArray := ⟨#[103, 111]⟩
def chainB : ByteArray := ⟨#[116, 111, 111, 108, 99, 104, 97, 105, 110]⟩
def ptr (b : Nat) : Value := .pointer (some ⟨b, 0, none⟩)
def ruleM (bm bp : Nat) : Value := .func (.func 29) #[] #[ptr bm, ptr bp]
def ruleG (bm bv : Nat) : Value := .func (.func 30) #[] #[ptr bm, ptr bv]
def ruleC : Value := .func (.func 31) #[] #[]
def rulesOf (bm bp bv : Nat) : List (ByteArray × Value) := [(moduleB, ruleM bm bp), (goB, ruleG bm bv), (chainB, ruleC)]

theorem ls_inj {a b : ByteArray} (h : ls a = ls b) : a = b := by
  apply ByteArray.ext
  exact Array.toList_inj.1 h
theorem rulesOf_len (bm bp bv : Nat) : ∀ y ∈ rulesOf bm bp bv, y.1.size ≤ 1000000 := by
  intro y hy
  simp only [rulesOf, List.mem_cons, List.not_mem_nil, or_false] at hy
  have e1 : moduleB.size ≤ 1000000 := by decide
  have e2 : goB.size ≤ 1000000 := by decide
  have e3 : chainB.size ≤ 1000000 := by decide
  rcases hy with rfl | rfl | rfl
  · exact e1
  · exact e2
  · exact e3
theorem rulesOf_inj (bm bp bv : Nat) : ∀ x ∈ rulesOf bm bp bv, ∀ y ∈ rulesOf bm bp bv, x.1 = y.1 → x = y := by
  have e1 : moduleB ≠ goB := by decide
  have e2 : moduleB ≠ chainB := by decide
  have e3 : goB ≠ chainB := by decide
  intro x hx y hy h
  simp only [rulesOf, List.mem_cons, List.not_mem_nil, or_false] at hx hy
  rcases hx with rfl | rfl | rfl <;> rcases hy with rfl | rfl | rfl <;> first | rfl | exact absurd h e1 | exact absurd h e2 | exact absurd h e3 | exact absurd h.symm e1 | exact absurd h.symm e2 | exact absurd h.symm e3

theorem read1_enters : ∀ args W, (callFunc 29 args).run Tryd.prog W = .ok (.enter 29 args) W := fun args W => by kernel_rfl
theorem read2_enters : ∀ args W, (callFunc 30 args).run Tryd.prog W = .ok (.enter 30 args) W := fun args W => by kernel_rfl
theorem read3_enters : ∀ args W, (callFunc 31 args).run Tryd.prog W = .ok (.enter 31 args) W := fun args W => by kernel_rfl

theorem stepL_two (x : Rd) (k w : List UInt8) (ok : Bool) (y : Rd) (h : ruleL k w x = some (ok, y)) : stepL x [k, w] = if ok then some y else none := by
  unfold stepL
  simp only [h]
  cases ok <;> rfl
theorem stepL_none (x : Rd) (k : List UInt8) (r : List (List UInt8)) (h : ∀ w, ruleL k w x = none) : stepL x (k :: r) = none := by
  match r with
  | [] => rfl
  | [w] => unfold stepL; simp only [h w]
  | _ :: _ :: _ => rfl
theorem stepL_long (x : Rd) (k : List UInt8) (r : List (List UInt8)) (h : r.length ≠ 1) : stepL x (k :: r) = none := by
  match r with
  | [] => rfl
  | [w] => simp at h
  | _ :: _ :: _ => rfl

theorem follows_any (bm bp bv mb b : Nat) (x : Rd) (l : List ByteArray) (w : World) (hls : ∀ t ∈ l, t.size ≤ 1000000) (hr : Row b l w) (hR : RulesAt w mb (rulesOf bm bp bv)) (h : St bm bp bv x w) (hm : MaxLen w) (g1 : gML < bm) (g2 : gML < bp) (g3 : gML < bv) (n1 : bm ≠ bp) (n2 : bm ≠ bv) (n3 : bp ≠ bv) (hb : x.paths ≤ 1000000) (hv : x.vers ≤ 1000000) :
    Calls Tryd.prog 33 #[rowV b l, .map (some mb)] w fun e w' => ∃ ok y, e = .returned (.bool ok) ∧ St bm bp bv y w' ∧ Three bm bp bv w w' ∧ stepL x (l.map ls) = (if ok then some y else none) ∧ y.paths ≤ x.paths + 1 ∧ y.vers ≤ x.vers + 1 := by
  match l, hls, hr with
  | [], hls, hr =>
    refine (follows_empty b mb w).mono ?_
    rintro e w' ⟨rfl, rfl⟩
    exact ⟨true, x, rfl, h, .refl _ _ _ _, rfl, by omega, by omega⟩
  | k :: r, hls, hr =>
    have hc : w.cell? ⟨b, 0, none⟩ = some (.string k) := hr 0 k rfl
    have hk := hls k (List.mem_cons_self ..)
    have hlen : rowV b (k :: r) = .slice (some ⟨b, 0, none⟩) (r.length + 1) (r.length + 1) := rfl
    by_cases hin : k = moduleB ∨ k = goB ∨ k = chainB
    · by_cases hrl : r.length = 1
      · obtain ⟨t, rfl⟩ : ∃ t, r = [t] := by
          match r, hrl with
          | [t], _ => exact ⟨t, rfl⟩
        have hc1 : w.cell? ⟨b, 1, none⟩ = some (.string t) := hr 1 t rfl
        have ht := hls t (by simp)
        rcases hin with rfl | rfl | rfl
        · have hl := rules_some hR (rulesOf_len bm bp bv) (rulesOf_inj bm bp bv) moduleB (ruleM bm bp) (by simp [rulesOf])
          have hf := read1_any bm bp bv x t w ht h hm g1 g2 g3 n1 n2 n3 hb
          refine (follows_rule _ _ _ _ _ b mb moduleB t w hc hc1 hl read1_enters hf).mono ?_
          rintro e w' ⟨rfl, hs, h3⟩
          exact ⟨_, _, rfl, hs, h3, stepL_two x _ _ _ _ rfl, by show x.paths + 1 ≤ _; omega, by show x.vers ≤ _; omega⟩
        · have hl := rules_some hR (rulesOf_len bm bp bv) (rulesOf_inj bm bp bv) goB (ruleG bm bv) (by simp [rulesOf])
          have hf := read2_any bm bp bv x t w ht h n1 n2 n3 hv
          refine (follows_rule _ _ _ _ _ b mb goB t w hc hc1 hl read2_enters hf).mono ?_
          rintro e w' ⟨rfl, hs, h3⟩
          exact ⟨_, _, rfl, hs, h3, stepL_two x _ _ _ _ rfl, by show x.paths ≤ _; omega, by show x.vers + 1 ≤ _; omega⟩
        · have hl := rules_some hR (rulesOf_len bm bp bv) (rulesOf_inj bm bp bv) chainB ruleC (by simp [rulesOf])
          refine (follows_rule0 _ _ _ b mb chainB t w hc hc1 hl read3_enters (read3_any t w)).mono ?_
          rintro e w' ⟨rfl, rfl⟩
          exact ⟨true, x, rfl, h, .refl _ _ _ _, stepL_two x _ _ true x rfl, by omega, by omega⟩
      · rw [hlen]
        have hex : ∃ v, (k, v) ∈ rulesOf bm bp bv := by
          rcases hin with rfl | rfl | rfl
          · exact ⟨_, List.mem_cons_self ..⟩
          · exact ⟨_, List.mem_cons_of_mem _ (List.mem_cons_self ..)⟩
          · exact ⟨_, List.mem_cons_of_mem _ (List.mem_cons_of_mem _ (List.mem_cons_self ..))⟩
        obtain ⟨v, hv'⟩ := hex
        refine (follows_long b mb (r.length + 1) k v w (by omega) (by omega) hc (rules_some hR (rulesOf_len bm bp bv) (rulesOf_inj bm bp bv) k v hv')).mono ?_
        rintro e w' ⟨rfl, rfl⟩
        exact ⟨false, x, rfl, h, .refl _ _ _ _, stepL_long x _ _ (by simpa using hrl), by omega, by omega⟩
    · rw [hlen]
      refine (follows_none b mb (r.length + 1) k w (by omega) hc (rules_none hR (rulesOf_len bm bp bv) k hk ?_)).mono ?_
      · intro y hy e
        simp only [rulesOf, List.mem_cons, List.not_mem_nil, or_false] at hy
        rcases hy with rfl | rfl | rfl
        · exact hin (.inl e.symm)
        · exact hin (.inr (.inl e.symm))
        · exact hin (.inr (.inr e.symm))
      · rintro e w' ⟨rfl, rfl⟩
        refine ⟨false, x, rfl, h, .refl _ _ _ _, stepL_none x _ _ (fun u => ?_), by omega, by omega⟩
        unfold ruleL
        rw [if_neg (show ¬ ls k = moduleW from fun e => hin (.inl (ls_inj (b := moduleB) e))), if_neg (show ¬ ls k = goW from fun e => hin (.inr (.inl (ls_inj (b := goB) e)))), if_neg (show ¬ ls k = chainW from fun e => hin (.inr (.inr (ls_inj (b := chainB) e))))]

theorem follows_some (bm bp bv mb b : Nat) (x y : Rd) (l : List ByteArray) (w : World) (hy : stepL x (l.map ls) = some y) (hls : ∀ t ∈ l, t.size ≤ 1000000) (hr : Row b l w) (hR : RulesAt w mb (rulesOf bm bp bv)) (h : St bm bp bv x w) (hm : MaxLen w) (g1 : gML < bm) (g2 : gML < bp) (g3 : gML < bv) (n1 : bm ≠ bp) (n2 : bm ≠ bv) (n3 : bp ≠ bv) (hb : x.paths ≤ 1000000) (hv : x.vers ≤ 1000000) :
    Calls Tryd.prog 33 #[.slice (some ⟨b, 0, none⟩) l.length l.length, .map (some mb)] w fun e w' => e = .returned (.bool true) ∧ St bm bp bv y w' ∧ Three bm bp bv w w' ∧ y.paths ≤ x.paths + 1 ∧ y.vers ≤ x.vers + 1 := by
  refine (follows_any bm bp bv mb b x l w hls hr hR h hm g1 g2 g3 n1 n2 n3 hb hv).mono ?_
  rintro e w' ⟨ok, z, rfl, hs, h3, he, h4, h5⟩
  rw [hy] at he
  cases ok
  · cases he
  · injection he with he
    subst he
    exact ⟨rfl, hs, h3, h4, h5⟩
theorem follows_no (bm bp bv mb b : Nat) (x : Rd) (l : List ByteArray) (w : World) (hy : stepL x (l.map ls) = none) (hls : ∀ t ∈ l, t.size ≤ 1000000) (hr : Row b l w) (hR : RulesAt w mb (rulesOf bm bp bv)) (h : St bm bp bv x w) (hm : MaxLen w) (g1 : gML < bm) (g2 : gML < bp) (g3 : gML < bv) (n1 : bm ≠ bp) (n2 : bm ≠ bv) (n3 : bp ≠ bv) (hb : x.paths ≤ 1000000) (hv : x.vers ≤ 1000000) :
    Calls Tryd.prog 33 #[.slice (some ⟨b, 0, none⟩) l.length l.length, .map (some mb)] w fun e w' => e = .returned (.bool false) ∧ Three bm bp bv w w' := by
  refine (follows_any bm bp bv mb b x l w hls hr hR h hm g1 g2 g3 n1 n2 n3 hb hv).mono ?_
  rintro e w' ⟨ok, z, rfl, hs, h3, he, h4, h5⟩
  rw [hy] at he
  cases ok
  · exact ⟨rfl, h3⟩
  · cases he

/-! ### Bounds -/
theorem words_len (q : UInt8 → Bool) : ∀ (l cur : List UInt8), ∀ p ∈ wordsF q cur l, p.length ≤ cur.length + l.length
  | [], cur, p, hp => by
    rw [wordsF] at hp
    split at hp
    · cases hp
    · simp at hp; subst hp; simp
  | c :: t, cur, p, hp => by
    rw [wordsF] at hp
    split at hp
    · split at hp
      · have := words_len q t [] p hp
        simp at this ⊢; omega
      · rcases List.mem_cons.1 hp with rfl | hp
        · simp
        · have := words_len q t [] p hp
          simp at this ⊢; omega
    · have := words_len q t _ p hp
      simp at this ⊢; omega
theorem wordsB_len (t : ByteArray) : ∀ u ∈ wordsB t, u.size ≤ t.size := by
  intro u hu
  have h := words_len blankB (cutNote (ls t)) [] (ls u) (by
    show _ ∈ lineWords (ls t)
    rw [← wordsB_ls]; exact List.mem_map_of_mem hu)
  rw [ls_len] at h
  have := cutA_len t slB
  have e : (cutNote (ls t)).length = (noteB t).size := by unfold noteB cutA; rw [size_mk]; rfl
  rw [e] at h
  unfold noteB at h
  simp at h
  omega
theorem wordsOf_len (s : ByteArray) (k : Nat) (x : List ByteArray) (h : (wordsOf s)[k]? = some x) : (∀ t ∈ x, t.size ≤ s.size) ∧ ∃ l, (partsF 10 [] (ls s))[k]? = some l ∧ x.map ls = lineWords l := by
  unfold wordsOf at h
  rw [List.getElem?_map] at h
  cases hl : (partsF 10 [] (ls s))[k]? with
  | none => rw [hl] at h; cases h
  | some l =>
    rw [hl] at h
    injection h with h
    subst h
    refine ⟨fun t ht => ?_, l, rfl, wordsB_ls _⟩
    have h1 := wordsB_len _ t ht
    have h2 := parts_len 10 (ls s) [] l (List.mem_of_getElem? hl)
    have h3 := size_mk l
    rw [ls_len] at h2
    simp only [List.length_nil] at h2
    omega
theorem parts_count (x : UInt8) : ∀ l cur : List UInt8, (partsF x cur l).length ≤ l.length + 1
  | [], cur => by simp [partsF]
  | c :: t, cur => by
    rw [partsF]
    split
    · have := parts_count x t []; simp; omega
    · have := parts_count x t (cur ++ [c]); simp; omega
theorem foldL_snoc : ∀ (a : List (List UInt8)) (l : List UInt8) (x : Rd), foldL x (a ++ [l]) = match foldL x a with | some y => stepL y (lineWords l) | none => none
  | [], l, x => by
    show (match stepL x (lineWords l) with | some y => foldL y [] | none => none) = stepL x (lineWords l)
    cases stepL x (lineWords l) <;> rfl
  | b :: a, l, x => by
    show (match stepL x (lineWords b) with | some y => foldL y (a ++ [l]) | none => none) = _
    rw [show foldL x (b :: a) = (match stepL x (lineWords b) with | some y => foldL y a | none => none) from rfl]
    cases stepL x (lineWords b) with
    | none => rfl
    | some y => exact foldL_snoc a l y
theorem foldL_none : ∀ (a b : List (List UInt8)) (x : Rd), foldL x a = none → foldL x (a ++ b) = none
  | [], b, x, h => by cases h
  | c :: a, b, x, h => by
    rw [show foldL x (c :: a) = (match stepL x (lineWords c) with | some y => foldL y a | none => none) from rfl] at h
    show (match stepL x (lineWords c) with | some y => foldL y (a ++ b) | none => none) = none
    cases hs : stepL x (lineWords c) with
    | none => rfl
    | some y => rw [hs] at h; exact foldL_none a b y h
theorem foldL_next {P : List (List UInt8)} {k : Nat} {l : List UInt8} {x y : Rd} (hl : P[k]? = some l) (hf : foldL x (P.take k) = some y) : foldL x (P.take (k + 1)) = stepL y (lineWords l) := by
  rw [List.take_add_one, hl]
  show foldL x (P.take k ++ [l]) = _
  rw [foldL_snoc, hf]
theorem foldL_stop {P : List (List UInt8)} {k : Nat} {x : Rd} (h : foldL x (P.take k) = none) : foldL x P = none := by
  rw [← List.take_append_drop k P]; exact foldL_none _ _ _ h
end Go.Proofs.YtnghlhkgeahfmaaDoor
