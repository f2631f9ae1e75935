/- The document's Version: a tag's minor. -/
import Derived.Test.YtojdhlmmnhjolaaDoorTag13
import Derived.Test.YtojdhlmmnhjolaaDoorTag10
import Derived.Test.YtojdhlmmnhjolaaDoorTag14
namespace Go.Proofs.YtojdhlmmnhjolaaDoor
open Go.RowKit
set_option linter.unusedVariables false

def fg (c : UInt8) : Bool := decide (48 ≤ c.toNat) && decide (c.toNat ≤ 57)
def refV : List UInt8 → Int
  | [103, 111, 49, 46, c] => if fg c then (c.toNat : Int) - 48 else -1
  | [103, 111, 49, 46, c, d] => if fg c && fg d then (if c.toNat = 48 then -1 else 10 * ((c.toNat : Int) - 48) + ((d.toNat : Int) - 48)) else -1
  | _ => -1

set_option maxRecDepth 100000 in
theorem ver5 (x : UInt8) (w : World) (r : Int) (hr : r = if fg x then (x.toNat : Int) - 48 else -1) : Calls Tryd.prog 29 #[.string ⟨#[103, 111, 49, 46, x]⟩] w fun e w' => e = .returned (.int .i64 r) ∧ Below w.heap.size w w' := by
  have HR := Lib.hid hr
  clear hr
  have he : (⟨#[103, 111, 49, 46, x]⟩ : ByteArray).extract 0 4 = ⟨#[103, 111, 49, 46]⟩ := by rfl
  have hx4 : (⟨#[103, 111, 49, 46, x]⟩ : ByteArray)[4]'(by show 4 < 5; omega) = x := rfl
  go_enter Tryd.func29, Tryd.ntmps29
  go_wp2_with fail
  go_loopw [4, 3] (fun s4 s3 wr => (s4 = .int .i64 4 ∧ s3 = .int .i64 0 ∧ wr = w) ∨ (s4 = .int .i64 5 ∧ s3 = .int .i64 ((x.toNat : Int) - 48) ∧ wr = w ∧ Hid (fg x = true)))
    (fun s4 s3 wr => 6 - (intOf s4).toNat)
  case atStart => exact .inl ⟨rfl, rfl, rfl⟩
  case round =>
    have hn : x.toNat < 256 := x.toNat_lt
    rcases hrel with ⟨rfl, rfl, rfl⟩ | ⟨rfl, rfl, rfl, HF⟩
    · by_cases h1 : 48 ≤ x.toNat
      · have g1 : decide (((x.toNat : Nat) : Int) < 48) = false := by simp; omega
        by_cases h2 : x.toNat ≤ 57
        · have g2 : decide ((57 : Int) < ((x.toNat : Nat) : Int)) = false := by simp; omega
          have HF : Hid (fg x = true) := by show _ = _; unfold fg; rw [decide_eq_true h1, decide_eq_true h2]; rfl
          go_wp2_with fail
          go_roundw
          case rel => exact .inr ⟨rfl, rfl, trivial, HF⟩
          case measure => simp [intOf]
        · have g2 : decide ((57 : Int) < ((x.toNat : Nat) : Int)) = true := by simp; omega
          have HF : Hid (fg x = false) := by show _ = _; unfold fg; rw [decide_eq_false h2, Bool.and_false]
          go_wp2
          go_ret
          refine ⟨?_, Below.refl _ _⟩
          rw [HR.out, HF.out]
          rfl
      · have g1 : decide (((x.toNat : Nat) : Int) < 48) = true := by simp; omega
        have HF : Hid (fg x = false) := by show _ = _; unfold fg; rw [decide_eq_false h1, Bool.false_and]
        go_wp2
        go_ret
        refine ⟨?_, Below.refl _ _⟩
        rw [HR.out, HF.out]
        rfl
    · have hf := HF.out
      unfold fg at hf
      simp only [Bool.and_eq_true, decide_eq_true_eq] at hf
      go_wp2
      go_ret
      refine ⟨?_, Below.refl _ _⟩
      rw [HR.out, HF.out]
      rfl
set_option maxRecDepth 100000 in
theorem ver6 (x y : UInt8) (w : World) (r : Int) (hr : r = if fg x && fg y then (if x.toNat = 48 then -1 else 10 * ((x.toNat : Int) - 48) + ((y.toNat : Int) - 48)) else -1) : Calls Tryd.prog 29 #[.string ⟨#[103, 111, 49, 46, x, y]⟩] w fun e w' => e = .returned (.int .i64 r) ∧ Below w.heap.size w w' := by
  have HR := Lib.hid hr
  clear hr
  have he : (⟨#[103, 111, 49, 46, x, y]⟩ : ByteArray).extract 0 4 = ⟨#[103, 111, 49, 46]⟩ := by rfl
  have hx4 : (⟨#[103, 111, 49, 46, x, y]⟩ : ByteArray)[4]'(by show 4 < 6; omega) = x := rfl
  have hx5 : (⟨#[103, 111, 49, 46, x, y]⟩ : ByteArray)[5]'(by show 5 < 6; omega) = y := rfl
  go_enter Tryd.func29, Tryd.ntmps29
  go_wp2_with fail
  go_loopw [4, 3] (fun s4 s3 wr => (s4 = .int .i64 4 ∧ s3 = .int .i64 0 ∧ wr = w) ∨ (s4 = .int .i64 5 ∧ s3 = .int .i64 ((x.toNat : Int) - 48) ∧ wr = w ∧ Hid (fg x = true)) ∨ (s4 = .int .i64 6 ∧ s3 = .int .i64 (10 * ((x.toNat : Int) - 48) + ((y.toNat : Int) - 48)) ∧ wr = w ∧ Hid (fg x = true) ∧ Hid (fg y = true)))
    (fun s4 s3 wr => 6 - (intOf s4).toNat)
  case atStart => exact .inl ⟨rfl, rfl, rfl⟩
  case round =>
    have hn : x.toNat < 256 := x.toNat_lt
    have hm : y.toNat < 256 := y.toNat_lt
    rcases hrel with ⟨rfl, rfl, rfl⟩ | ⟨rfl, rfl, rfl, HF⟩ | ⟨rfl, rfl, rfl, HF, HG⟩
    · by_cases h1 : 48 ≤ x.toNat
      · have g1 : decide (((x.toNat : Nat) : Int) < 48) = false := by simp; omega
        by_cases h2 : x.toNat ≤ 57
        · have g2 : decide ((57 : Int) < ((x.toNat : Nat) : Int)) = false := by simp; omega
          have HF : Hid (fg x = true) := by show _ = _; unfold fg; rw [decide_eq_true h1, decide_eq_true h2]; rfl
          go_wp2_with fail
          go_roundw
          case rel => exact .inr (.inl ⟨rfl, rfl, trivial, HF⟩)
          case measure => simp [intOf]
        · have g2 : decide ((57 : Int) < ((x.toNat : Nat) : Int)) = true := by simp; omega
          have HF : Hid (fg x = false) := by show _ = _; unfold fg; rw [decide_eq_false h2, Bool.and_false]
          go_wp2
          go_ret
          refine ⟨?_, Below.refl _ _⟩
          rw [HR.out, HF.out]
          rfl
      · have g1 : decide (((x.toNat : Nat) : Int) < 48) = true := by simp; omega
        have HF : Hid (fg x = false) := by show _ = _; unfold fg; rw [decide_eq_false h1, Bool.false_and]
        go_wp2
        go_ret
        refine ⟨?_, Below.refl _ _⟩
        rw [HR.out, HF.out]
        rfl
    · have hf := HF.out
      unfold fg at hf
      simp only [Bool.and_eq_true, decide_eq_true_eq] at hf
      obtain ⟨hf1, hf2⟩ := hf
      by_cases h1 : 48 ≤ y.toNat
      · have g1 : decide (((y.toNat : Nat) : Int) < 48) = false := by simp; omega
        by_cases h2 : y.toNat ≤ 57
        · have g2 : decide ((57 : Int) < ((y.toNat : Nat) : Int)) = false := by simp; omega
          have HG : Hid (fg y = true) := by show _ = _; unfold fg; rw [decide_eq_true h1, decide_eq_true h2]; rfl
          go_wp2_with fail
          go_roundw
          case rel => exact .inr (.inr ⟨rfl, rfl, trivial, HF, HG⟩)
          case measure => simp [intOf]
        · have g2 : decide ((57 : Int) < ((y.toNat : Nat) : Int)) = true := by simp; omega
          have HG : Hid (fg y = false) := by show _ = _; unfold fg; rw [decide_eq_false h2, Bool.and_false]
          go_wp2
          go_ret
          refine ⟨?_, Below.refl _ _⟩
          rw [HR.out, HF.out, HG.out]
          rfl
      · have g1 : decide (((y.toNat : Nat) : Int) < 48) = true := by simp; omega
        have HG : Hid (fg y = false) := by show _ = _; unfold fg; rw [decide_eq_false h1, Bool.false_and]
        go_wp2
        go_ret
        refine ⟨?_, Below.refl _ _⟩
        rw [HR.out, HF.out, HG.out]
        rfl
    · have hf := HF.out
      have hg := HG.out
      unfold fg at hf hg
      simp only [Bool.and_eq_true, decide_eq_true_eq] at hf hg
      obtain ⟨hf1, hf2⟩ := hf
      obtain ⟨hg1, hg2⟩ := hg
      by_cases h0 : x.toNat = 48
      · have g0 : ((((x.toNat : Nat) : Int)) == 48) = true := by simp; omega
        go_wp2
        go_ret
        refine ⟨?_, Below.refl _ _⟩
        rw [HR.out, HF.out, HG.out, Bool.and_self, if_pos rfl, if_pos h0]
        rfl
      · have g0 : ((((x.toNat : Nat) : Int)) == 48) = false := by simp; omega
        go_wp2
        go_ret
        refine ⟨?_, Below.refl _ _⟩
        rw [HR.out, HF.out, HG.out, Bool.and_self, if_pos rfl, if_neg h0]
        rfl

def digR (m : Nat) : List UInt8 := if m < 10 then [UInt8.ofNat (48 + m)] else [UInt8.ofNat (48 + m / 10), UInt8.ofNat (48 + m % 10)]
theorem dec_digR (m : Nat) (h : m < 100) : Lib.decDigits m = digR m := by
  unfold digR
  rw [Lib.decDigits]
  split
  · rfl
  · rw [Lib.decDigits, dif_pos (by omega)]; rfl
theorem digR_facts : ∀ m : Fin 100, minorL (49 :: 46 :: digR m.val) = some m.val ∧ refV (103 :: 111 :: 49 :: 46 :: digR m.val) = (m.val : Int) := by decide +kernel
theorem u8_of (c : UInt8) (n : Nat) (h : c.toNat = n) : c = UInt8.ofNat n := by
  apply UInt8.toNat_inj.1
  rw [h, UInt8.toNat_ofNat']
  have := c.toNat_lt
  omega
theorem refV_form (l : List UInt8) (h : refV l ≠ -1) : ∃ m, m < 100 ∧ l = 103 :: 111 :: 49 :: 46 :: digR m := by
  unfold refV at h
  split at h
  · rename_i c
    split at h
    · rename_i hc
      unfold fg at hc
      simp only [Bool.and_eq_true, decide_eq_true_eq] at hc
      refine ⟨c.toNat - 48, by omega, ?_⟩
      unfold digR
      rw [if_pos (by omega), ← u8_of c _ (by omega)]
    · exact absurd rfl h
  · rename_i c d
    split at h
    · rename_i hc
      unfold fg at hc
      simp only [Bool.and_eq_true, decide_eq_true_eq] at hc
      split at h
      · exact absurd rfl h
      · refine ⟨10 * (c.toNat - 48) + (d.toNat - 48), by omega, ?_⟩
        unfold digR
        rw [if_neg (by omega), ← u8_of c _ (by omega), ← u8_of d _ (by omega)]
    · exact absurd rfl h
  · exact absurd rfl h
theorem vers_ref (s : ByteArray) : versM s = refV (ls s) := by
  unfold versM
  by_cases hl : ∃ m, m < 100 ∧ ls s = 103 :: 111 :: 49 :: 46 :: digR m
  · obtain ⟨m, hm, hl⟩ := hl
    obtain ⟨h1, h2⟩ := digR_facts ⟨m, hm⟩
    rw [hl, show refV (103 :: 111 :: 49 :: 46 :: digR m) = (m : Int) from h2]
    unfold versionL
    rw [if_pos (by simp [List.isPrefixOf])]
    show (match minorL (49 :: 46 :: digR m) with
      | some n => if 49 :: 46 :: Lib.decDigits n = 49 :: 46 :: digR m then (n : Int) else -1
      | none => -1) = _
    rw [show minorL (49 :: 46 :: digR m) = some m from h1]
    dsimp only
    rw [dec_digR m hm, if_pos rfl]
  · have hr : refV (ls s) = -1 := by
      by_cases h : refV (ls s) = -1
      · exact h
      · exact absurd (refV_form _ h) hl
    rw [hr]
    unfold versionL
    split
    · rename_i hp
      split
      · rename_i n hn
        split
        · rename_i he
          have hle := minorL_le hn
          refine absurd ⟨n, by omega, ?_⟩ hl
          rw [dec_digR n (by omega)] at he
          rw [List.isPrefixOf_iff_prefix] at hp
          obtain ⟨t, ht⟩ := hp
          rw [← ht] at he ⊢
          show 103 :: 111 :: t = _
          rw [show t = 49 :: 46 :: digR n from he.symm]
        · rfl
      · rfl
    · rfl
theorem ls5 (s : ByteArray) (h : s.size = 5) : ∃ a b c d e, s = ⟨#[a, b, c, d, e]⟩ := by
  obtain ⟨⟨l⟩⟩ := s
  have h : l.length = 5 := h
  match l, h with
  | [a, b, c, d, e], _ => exact ⟨a, b, c, d, e, rfl⟩
theorem ls6 (s : ByteArray) (h : s.size = 6) : ∃ a b c d e f, s = ⟨#[a, b, c, d, e, f]⟩ := by
  obtain ⟨⟨l⟩⟩ := s
  have h : l.length = 6 := h
  match l, h with
  | [a, b, c, d, e, f], _ => exact ⟨a, b, c, d, e, f, rfl⟩
set_option maxRecDepth 100000 in
theorem ver_off (s : ByteArray) (hs : s.size ≤ 1048576) (w : World) (h : s.size < 5 ∨ 6 < s.size ∨ (5 ≤ s.size ∧ s.size ≤ 6 ∧ s.extract 0 4 ≠ ⟨#[103, 111, 49, 46]⟩)) : Calls Tryd.prog 29 #[.string s] w fun e w' => e = .returned (.int .i64 (-1)) ∧ Below w.heap.size w w' := by
  rcases h with h | h | ⟨h1, h2, h3⟩
  · have g : decide ((s.size : Int) < 5) = true := by simp; omega
    clear h
    go_enter Tryd.func29, Tryd.ntmps29
    go_wp2
    go_ret
    exact ⟨rfl, Below.refl _ _⟩
  · have g : decide ((s.size : Int) < 5) = false := by simp; omega
    have g2 : decide ((6 : Int) < (s.size : Int)) = true := by simp; omega
    clear h
    go_enter Tryd.func29, Tryd.ntmps29
    go_wp2
    go_ret
    exact ⟨rfl, Below.refl _ _⟩
  · have g : decide ((s.size : Int) < 5) = false := by simp; omega
    have g2 : decide ((6 : Int) < (s.size : Int)) = false := by simp; omega
    have h4 : 4 ≤ s.size := by omega
    obtain ⟨n0, n1⟩ := str_ne (op := s.extract 0 4) (l := [103, 111, 49, 46]) h3
    clear h1 h2 h3
    go_enter Tryd.func29, Tryd.ntmps29
    go_wp2
    go_ret
    exact ⟨rfl, Below.refl _ _⟩
theorem Version_any (s : ByteArray) (hs : s.size ≤ 1048576) (w : World) : Calls Tryd.prog 29 #[.string s] w fun e w' => e = .returned (.int .i64 (versM s)) ∧ Below w.heap.size w w' := by
  rw [vers_ref]
  have hlen : (ls s).length = s.size := ls_len s
  have hoff : ∀ l : List UInt8, l.length < 5 ∨ 6 < l.length → refV l = -1 := by
    intro l h
    by_cases e : refV l = -1
    · exact e
    · obtain ⟨m, hm, hl⟩ := refV_form l e
      rw [hl] at h
      unfold digR at h
      split at h
      · simp at h
      · simp at h
  by_cases h1 : s.size < 5
  · rw [hoff _ (.inl (by omega))]
    exact ver_off s hs w (.inl h1)
  by_cases h2 : 6 < s.size
  · rw [hoff _ (.inr (by omega))]
    exact ver_off s hs w (.inr (.inl h2))
  have hpre : s.extract 0 4 ≠ ⟨#[103, 111, 49, 46]⟩ → refV (ls s) = -1 := by
    intro h3
    by_cases e : refV (ls s) = -1
    · exact e
    · obtain ⟨m, hm, hl⟩ := refV_form _ e
      refine absurd ?_ h3
      have e1 : s.data.toList = 103 :: 111 :: 49 :: 46 :: digR m := hl
      apply ByteArray.ext
      apply Array.toList_inj.1
      rw [ByteArray.data_extract, Array.toList_extract, e1]
      rfl
  by_cases h3 : s.extract 0 4 = ⟨#[103, 111, 49, 46]⟩
  · by_cases h5 : s.size = 5
    · obtain ⟨a, b, c, d, e, rfl⟩ := ls5 s h5
      have h3' : (⟨#[a, b, c, d]⟩ : ByteArray) = ⟨#[103, 111, 49, 46]⟩ := h3
      simp only [ByteArray.mk.injEq, Array.mk.injEq, List.cons.injEq, and_true] at h3'
      obtain ⟨rfl, rfl, rfl, rfl⟩ := h3'
      exact ver5 e w _ rfl
    · obtain ⟨a, b, c, d, e, f, rfl⟩ := ls6 s (by omega)
      have h3' : (⟨#[a, b, c, d]⟩ : ByteArray) = ⟨#[103, 111, 49, 46]⟩ := h3
      simp only [ByteArray.mk.injEq, Array.mk.injEq, List.cons.injEq, and_true] at h3'
      obtain ⟨rfl, rfl, rfl, rfl⟩ := h3'
      exact ver6 e f w _ rfl
  · rw [hpre h3]
    exact ver_off s hs w (.inr (.inr ⟨by omega, by omega, h3⟩))
end Go.Proofs.YtojdhlmmnhjolaaDoor
