/- Tokens and notes stand in the text as they are, one behind the other, blanks between. -/
import Derived.Test.YtijinpnbhnfiiaaDoorTok20
namespace Go.Proofs.YtijinpnbhnfiiaaDoor
open Go.RowKit
set_option linter.unusedVariables false

/-- Is it put in? -/
def putB (tk : Tk) : Bool := tk.kind == 6 && (tk.text.toList == [10])
/-- How much room it takes. -/
def room (tk : Tk) : Nat := if putB tk then 0 else tk.text.size
def Span (tk : Tk) (k : Nat) : Prop := putB tk = false ∧ tk.at_ ≤ k ∧ k < tk.at_ + tk.text.size
def Off (a b : Tk) : Prop := ∀ k, Span a k → ¬ Span b k
/-- It stands in the text. -/
def Piece (t : ByteArray) (tk : Tk) : Prop := 0 < tk.text.size ∧ tk.at_ + tk.text.size ≤ t.size ∧ t.extract tk.at_ (tk.at_ + tk.text.size) = tk.text
def blankAt (t : ByteArray) (k : Nat) : Bool := (bt t k == 32 || bt t k == 9 || bt t k == 13 || bt t k == 10) || (decide (k < 3) && decide (3 ≤ t.size) && bt t 0 == 239)

theorem putB_iff (tk : Tk) : putB tk = true ↔ tk.kind = 6 ∧ tk.text = nlT := by
  unfold putB
  rw [Bool.and_eq_true, beq_iff_eq, beq_iff_eq, ByteArray.toList_eq]
  constructor
  · rintro ⟨h1, h2⟩
    exact ⟨h1, ByteArray.ext (Array.ext' h2)⟩
  · rintro ⟨h1, h2⟩
    exact ⟨h1, by rw [h2]; rfl⟩
theorem putB_first (tk : Tk) (h : bt tk.text 0 ≠ 10) : putB tk = false := by
  cases e : putB tk
  · rfl
  · exact absurd ((putB_iff tk).1 e).2 (nl_first tk h)
theorem putB_kind (tk : Tk) (h : tk.kind ≠ 6) : putB tk = false := by
  cases e : putB tk
  · rfl
  · exact absurd ((putB_iff tk).1 e).1 h
theorem putB_nl (p : Nat) : putB ⟨6, nlT, p⟩ = true := (putB_iff _).2 ⟨rfl, rfl⟩
theorem room_le (tk : Tk) : room tk ≤ tk.text.size := by unfold room; split <;> omega
theorem span_room {tk : Tk} {k : Nat} (h : Span tk k) : tk.at_ ≤ k ∧ k < tk.at_ + room tk := by
  obtain ⟨h1, h2, h3⟩ := h
  unfold room
  rw [h1]
  exact ⟨h2, h3⟩

structure Stand (t : ByteArray) (p : Nat) (x : St) : Prop where
  al : x.at_ ≤ p ∨ Edge t x.at_
  atLe : x.at_ ≤ t.size
  pLe : p ≤ t.size
  pieceT : ∀ a ∈ x.toks, putB a = false → Piece t a
  pieceN : ∀ a ∈ x.notes, a.kind = 0 ∧ Piece t a
  rise : x.toks.Pairwise (fun a b => a.at_ + room a ≤ b.at_)
  boundT : ∀ a ∈ x.toks, a.at_ + room a ≤ max x.at_ p
  boundN : ∀ a ∈ x.notes, a.at_ + room a ≤ max x.at_ p
  offN : x.notes.Pairwise (fun a b => a.at_ + room a ≤ b.at_)
  off : ∀ a ∈ x.toks, ∀ b ∈ x.notes, Off a b
  cover : ∀ k, k < max x.at_ p → (∃ a ∈ x.toks ++ x.notes, Span a k) ∨ blankAt t k = true
  valid : ∃ f, t.size ≤ p + f ∧ wrongF t f p = -1

theorem valid_next {t : ByteArray} {p : Nat} (hp : p < t.size) (h : ∃ f, t.size ≤ p + f ∧ wrongF t f p = -1) : bad t p (sig t p) = false ∧ ∃ f, t.size ≤ p + wid t p + f ∧ wrongF t f (p + wid t p) = -1 := by
  obtain ⟨f, hf, hw⟩ := h
  have hwp := wid_pos t p
  obtain ⟨f, rfl⟩ : ∃ f', f = f' + 1 := ⟨f - 1, by omega⟩
  rw [wrongF, if_pos hp] at hw
  split at hw
  · omega
  · rename_i hb
    exact ⟨by simpa using hb, f, by omega, hw⟩

theorem Stand.put {t : ByteArray} {p : Nat} {l : List Tk} {at_ : Nat} {notes : List Tk} (h : Stand t p ⟨at_, l, notes⟩) (ha : at_ ≤ p) : Stand t p ⟨at_, endL l p, notes⟩ := by
  have hm : ∀ a ∈ endL l p, a ∈ l ∨ a = ⟨6, nlT, p⟩ := fun a ha => endL_mem ha
  have hl : ∀ a ∈ l, a ∈ endL l p := fun a ha => by
    unfold endL
    split
    · split
      · exact List.mem_append_left _ ha
      · exact ha
    · exact ha
  have rnl : room ⟨6, nlT, p⟩ = 0 := by unfold room; rw [putB_nl]; rfl
  have snl : ∀ k, ¬ Span ⟨6, nlT, p⟩ k := fun k hs => by have := hs.1; rw [putB_nl] at this; cases this
  refine ⟨h.al, h.atLe, h.pLe, fun a ham hp => ?_, h.pieceN, ?_, fun a ham => ?_, h.boundN, h.offN, fun a ham b hb => ?_, fun k hk => ?_, h.valid⟩
  · rcases hm a ham with h' | h'
    · exact h.pieceT a h' hp
    · rw [h', putB_nl] at hp; cases hp
  · show (endL l p).Pairwise _
    unfold endL
    split
    · split
      · rw [List.pairwise_append]
        refine ⟨h.rise, List.pairwise_singleton .., fun a ha' b hb => ?_⟩
        rw [List.mem_singleton.1 hb]
        have := h.boundT a ha'
        show a.at_ + room a ≤ p
        have hx : (⟨at_, l, notes⟩ : St).at_ = at_ := rfl
        rw [hx] at this
        omega
      · exact h.rise
    · exact h.rise
  · rcases hm a ham with h' | h'
    · exact h.boundT a h'
    · rw [h', rnl]; show p + 0 ≤ max at_ p; omega
  · rcases hm a ham with h' | h'
    · exact h.off a h' b hb
    · rw [h']; exact fun k hs => absurd hs (snl k)
  · rcases h.cover k hk with ⟨a, ha', hs⟩ | hb
    · refine .inl ⟨a, ?_, hs⟩
      rcases List.mem_append.1 ha' with h1 | h1
      · exact List.mem_append_left _ (hl a h1)
      · exact List.mem_append_right _ h1
    · exact .inr hb

theorem off_of_le {a b : Tk} (h : a.at_ + room a ≤ b.at_) : Off a b ∧ Off b a :=
  ⟨fun k h1 h2 => by have := span_room h1; have := span_room h2; omega, fun k h1 h2 => by have := span_room h1; have := span_room h2; omega⟩

theorem stand_step {t : ByteArray} {p : Nat} {x x' : St} (hp : p < t.size) (ha : x.at_ ≤ p) (hS : Stand t p x) (hb : beginP t x p (sig t p : Int) = some x') : Stand t (p + wid t p) x' := by
  obtain ⟨hgood, hval⟩ := valid_next hp hS.valid
  have hw := wid_pos t p
  have hwl := wid_le t p hp
  have hmax : max x.at_ p = p := by omega
  -- what the sign's bytes are, if it is a blank
  cases begin_step hp hb with
  | nl h10 e =>
    subst e
    have hw1 : wid t p = 1 := by rcases sign_kind t p with ⟨h1, h2, h3⟩ | ⟨h1, h2, h3⟩ <;> omega
    have hq := hS.put ha
    obtain ⟨q1, q2, q3, q4, q5, q6, q7, q8, q9, q10, q11, q12⟩ := hq
    refine ⟨.inl (by show x.at_ ≤ _; omega), q2, hwl, q4, q5, q6, fun a h => ?_, fun a h => ?_, q9, q10, fun k hk => ?_, hval⟩
    · have := q7 a h; show _ ≤ max x.at_ _; have hx : max x.at_ p ≤ max x.at_ (p + wid t p) := by omega
      exact Nat.le_trans this hx
    · have := q8 a h; show _ ≤ max x.at_ _; have hx : max x.at_ p ≤ max x.at_ (p + wid t p) := by omega
      exact Nat.le_trans this hx
    · have hk' : k < max x.at_ (p + wid t p) := hk
      by_cases hkp : k < p
      · exact q11 k (by show k < max x.at_ p; omega)
      · have : k = p := by omega
        subst this
        right
        unfold blankAt
        rw [h10]
        rfl
  | blank hbl e =>
    subst e
    have hcov : ∀ k, p ≤ k → k < p + wid t p → blankAt t k = true := fun k h1 h2 => by
      unfold isBlank at hbl
      have hc : sig t p = 32 ∨ sig t p = 9 ∨ sig t p = 13 ∨ sig t p = 65279 := by
        simp only [Bool.or_eq_true, beq_iff_eq] at hbl
        omega
      by_cases hf : sig t p = 65279
      · have hp0 : p = 0 := by
          unfold bad at hgood
          rw [hf] at hgood
          rcases Nat.eq_zero_or_pos p with h | h
          · exact h
          · rw [decide_eq_true h] at hgood
            simp at hgood
        subst hp0
        have hb0 : bt t 0 = 239 ∧ 3 ≤ t.size ∧ wid t 0 = 3 := by
          unfold sig at hf
          unfold wid
          have hlt := bt_lt t 0
          by_cases g1 : bt t 0 < 128
          · rw [dec_1 t 0 g1] at hf; simp at hf; omega
          by_cases g2 : bt t 0 < 192 ∨ 248 ≤ bt t 0
          · rw [dec_x t 0 (by omega) g2] at hf; simp at hf
          by_cases g3 : bt t 0 < 224
          · rw [dec_2 t 0 (by omega) g3] at hf
            split at hf
            · dsimp only at hf; have := bt_lt t (0 + 1); omega
            · simp at hf
          by_cases g4 : bt t 0 < 240
          · rw [dec_3 t 0 (by omega) g4] at hf ⊢
            split at hf
            · rename_i hh
              simp at hf hh
              rw [if_pos (by simpa using hh)]
              refine ⟨by omega, by omega, rfl⟩
            · simp at hf
          · rw [dec_4 t 0 (by omega) (by omega)] at hf
            split at hf
            · rename_i hh; simp at hf hh; omega
            · simp at hf
        obtain ⟨g1, g2, g3⟩ := hb0
        unfold blankAt
        rw [g1, decide_eq_true (show k < 3 by omega), decide_eq_true g2]
        simp
      · have hsm : sig t p < 128 := by omega
        rcases sign_kind t p with ⟨e1, e2, e3⟩ | ⟨e1, e2, e3⟩
        · have hk : k = p := by omega
          subst hk
          unfold blankAt
          rw [← e2]
          rcases hc with h | h | h | h
          · rw [h]; rfl
          · rw [h]; rfl
          · rw [h]; rfl
          · omega
        · omega
    obtain ⟨q1, q2, q3, q4, q5, q6, q7, q8, q9, q10, q11, q12⟩ := hS
    refine ⟨.inl (by omega), q2, hwl, q4, q5, q6, fun a h => ?_, fun a h => ?_, q9, q10, fun k hk => ?_, hval⟩
    · have := q7 a h; omega
    · have := q8 a h; omega
    · by_cases hkp : k < p
      · exact q11 k (by omega)
      · exact .inr (hcov k (by omega) (by omega))
  | note n h0 hn he e =>
    subst e
    have hq : Stand t p ⟨x.at_, noteToks (t.extract p (p + n)) x.toks p, x.notes⟩ := by
      unfold noteToks
      split
      · exact hS.put ha
      · exact hS
    have hz : (t.extract p (p + n)).size = n := by rw [ext_size _ _ _ hn]; omega
    have hpn : putB ⟨0, t.extract p (p + n), p⟩ = false := putB_kind _ (by show (0 : Nat) ≠ 6; decide)
    have hrn : room ⟨0, t.extract p (p + n), p⟩ = n := by unfold room; rw [hpn]; exact hz
    have hedge := edge_skip hp (show p < p + n by omega) hn he
    have hmx : max (p + n) (p + wid t p) = p + n := by omega
    generalize noteToks (t.extract p (p + n)) x.toks p = tk at *
    obtain ⟨q1, q2, q3, q4, q5, q6, q7, q8, q9, q10, q11, q12⟩ := hq
    simp only at q7 q8 q11
    refine ⟨.inr he, hn, hwl, q4, fun a h => ?_, q6, fun a h => ?_, fun a h => ?_, ?_, fun a h b hb => ?_, fun k hk => ?_, hval⟩
    · rcases List.mem_append.1 h with h | h
      · exact q5 a h
      · rw [List.mem_singleton.1 h]
        refine ⟨rfl, ?_, ?_, ?_⟩
        · show 0 < (t.extract p (p + n)).size; omega
        · show p + (t.extract p (p + n)).size ≤ _; omega
        · show t.extract p (p + (t.extract p (p + n)).size) = _; rw [hz]
    · have := q7 a h; show _ ≤ max (p + n) _; omega
    · show _ ≤ max (p + n) _
      rcases List.mem_append.1 h with h | h
      · have := q8 a h; omega
      · rw [List.mem_singleton.1 h, hrn]; show p + n ≤ _; omega
    · show List.Pairwise _ (x.notes ++ _)
      rw [List.pairwise_append]
      refine ⟨q9, List.pairwise_singleton .., fun a h b hb => ?_⟩
      rw [List.mem_singleton.1 hb]
      have := q8 a h
      show a.at_ + room a ≤ p
      omega
    · rcases List.mem_append.1 hb with h' | h'
      · exact q10 a h b h'
      · rw [List.mem_singleton.1 h']
        have := q7 a h
        exact (off_of_le (by show a.at_ + room a ≤ p; omega)).1
    · have hk' : k < max (p + n) (p + wid t p) := hk
      by_cases hkp : k < p
      · rcases q11 k (by omega) with ⟨a, h1, h2⟩ | h
        · refine .inl ⟨a, ?_, h2⟩
          rcases List.mem_append.1 h1 with h | h
          · exact List.mem_append_left _ h
          · exact List.mem_append_right _ (List.mem_append_left _ h)
        · exact .inr h
      · exact .inl ⟨⟨0, t.extract p (p + n), p⟩, by simp, hpn, by show p ≤ k; omega, by show k < p + (t.extract p (p + n)).size; omega⟩
  | take kd n hk0 h0 hn he hb10 e =>
    subst e
    have hz : (t.extract p (p + n)).size = n := by rw [ext_size _ _ _ hn]; omega
    have hpn : putB ⟨kd, t.extract p (p + n), p⟩ = false := putB_first _ (by show bt (t.extract p (p + n)) 0 ≠ 10; rw [bt_ext t p (p + n) 0 (by omega) hn]; exact hb10)
    have hrn : room ⟨kd, t.extract p (p + n), p⟩ = n := by unfold room; rw [hpn]; exact hz
    have hedge := edge_skip hp (show p < p + n by omega) hn he
    obtain ⟨q1, q2, q3, q4, q5, q6, q7, q8, q9, q10, q11, q12⟩ := hS
    refine ⟨.inr he, hn, hwl, fun a h hput => ?_, q5, ?_, fun a h => ?_, fun a h => ?_, q9, fun a h b hb => ?_, fun k hk => ?_, hval⟩
    · rcases List.mem_append.1 h with h | h
      · exact q4 a h hput
      · rw [List.mem_singleton.1 h]
        refine ⟨?_, ?_, ?_⟩
        · show 0 < (t.extract p (p + n)).size; omega
        · show p + (t.extract p (p + n)).size ≤ _; omega
        · show t.extract p (p + (t.extract p (p + n)).size) = _; rw [hz]
    · show List.Pairwise _ (x.toks ++ _)
      rw [List.pairwise_append]
      refine ⟨q6, List.pairwise_singleton .., fun a h b hb => ?_⟩
      rw [List.mem_singleton.1 hb]
      have := q7 a h
      show a.at_ + room a ≤ p
      omega
    · show _ ≤ max (p + n) _
      rcases List.mem_append.1 h with h | h
      · have := q7 a h; omega
      · rw [List.mem_singleton.1 h, hrn]; show p + n ≤ _; omega
    · have := q8 a h; show _ ≤ max (p + n) _; omega
    · rcases List.mem_append.1 h with h' | h'
      · exact q10 a h' b hb
      · rw [List.mem_singleton.1 h']
        have := q8 b hb
        exact (off_of_le (by show b.at_ + room b ≤ p; omega)).2
    · have hk' : k < max (p + n) (p + wid t p) := hk
      by_cases hkp : k < p
      · rcases q11 k (by omega) with ⟨a, h1, h2⟩ | h
        · refine .inl ⟨a, ?_, h2⟩
          rcases List.mem_append.1 h1 with h | h
          · exact List.mem_append_left _ (List.mem_append_left _ h)
          · exact List.mem_append_right _ h
        · exact .inr h
      · exact .inl ⟨⟨kd, t.extract p (p + n), p⟩, by simp, hpn, by show p ≤ k; omega, by show k < p + (t.extract p (p + n)).size; omega⟩

theorem stand_skip {t : ByteArray} {p : Nat} {x : St} (hp : p < t.size) (ha : ¬ x.at_ ≤ p) (hS : Stand t p x) : Stand t (p + wid t p) x := by
  obtain ⟨hgood, hval⟩ := valid_next hp hS.valid
  have hwl := wid_le t p hp
  obtain ⟨q1, q2, q3, q4, q5, q6, q7, q8, q9, q10, q11, q12⟩ := hS
  have hE : Edge t x.at_ := q1.resolve_left ha
  have hedge := edge_skip hp (show p < x.at_ by omega) q2 hE
  have e1 : max x.at_ (p + wid t p) = x.at_ := by omega
  have e2 : max x.at_ p = x.at_ := by omega
  rw [e2] at q7 q8 q11
  exact ⟨.inr hE, q2, hwl, q4, q5, q6, by rw [e1]; exact q7, by rw [e1]; exact q8, q9, q10, by rw [e1]; exact q11, hval⟩

/-- Where nothing is wrong: what is told stands in the text. -/
theorem allP_stand {t : ByteArray} {y : St} (hw : wrongR t = -1) (h : allP t = .ok y) : Stand t t.size y := by
  obtain ⟨x, hx, rfl⟩ := allP_inv (Stand t) (fun p x x' hp ha hx hb => stand_step hp ha hx hb) (fun p x hp ha hx => stand_skip hp ha hx)
    ⟨.inl (Nat.le_refl _), Nat.zero_le _, Nat.zero_le _, (fun _ h => by cases h), (fun _ h => by cases h), .nil, (fun _ h => by cases h), (fun _ h => by cases h), .nil, (fun _ h => by cases h), (fun k hk => by simp at hk), t.size, by omega, hw⟩ h
  exact hx.put hx.atLe

theorem wrongR_neg (t : ByteArray) (h : ¬ 0 ≤ wrongR t) : wrongR t = -1 := by
  have aux : ∀ f p, wrongF t f p = -1 ∨ 0 ≤ wrongF t f p := by
    intro f
    induction f with
    | zero => intro p; exact .inl rfl
    | succ f ih =>
      intro p
      rw [wrongF]
      split
      · split
        · right; omega
        · exact ih _
      · exact .inl rfl
  rcases aux t.size 0 with h' | h'
  · exact h'
  · exact absurd h' h
end Go.Proofs.YtijinpnbhnfiiaaDoor
