/- Tokens that are written with blanks between are scanned as they were. No program stands in it. -/
import Derived.Test.YthpengbglbgidaaDoorTok32
namespace Go.Proofs.YthpengbglbgidaaDoor
open Go.RowKit
set_option linter.unusedVariables false

theorem quoteI_last (t : ByteArray) (q : Nat) : ∀ f k (m : Nat), quoteI t q f k = (m : Int) → bt t (m - 1) = q
  | 0, k, m, h => by rw [quoteI] at h; omega
  | f + 1, k, m, h => by
    rw [quoteI] at h
    split at h
    · split at h
      · omega
      split at h
      · rename_i hb
        obtain rfl : k + 1 = m := by omega
        exact hb
      split at h
      · split at h
        · omega
        · exact quoteI_last t q f _ m h
      · exact quoteI_last t q f _ m h
    · omega

theorem Cls.low {t : ByteArray} {p k e : Nat} (h : Cls t p k e) (hp : p < t.size) : bt t p < 128 ∧ bt t (e - 1) < 128 := by
  have hg := h.gt hp
  cases h with
  | run h =>
    have h0 := isIn128 _ h
    refine ⟨by omega, ?_⟩
    by_cases e : runB t isIn t.size (p + 1) = p + 1
    · rw [e]; simp; omega
    · have := isIn128 _ (runB_all t isIn t.size (p + 1) (runB t isIn t.size (p + 1) - 1) (by omega) (by omega))
      omega
  | quote h e he =>
    have := quoteI_last t _ _ _ _ he
    omega
  | sign hI hn hq h0 =>
    have hle := signN_le (t.extract p t.size)
    have hz := ext_size t p t.size (Nat.le_refl _)
    have hb : ∀ i, i < signN (t.extract p t.size) → bt t (p + i) < 128 := fun i hi => by
      have := sign_bytes _ (signN_isSign _ h0) i (by rw [ext_size _ _ _ hle]; omega)
      rw [bt_ext _ _ _ _ (by omega) hle, Nat.zero_add, bt_ext t p t.size i (by omega) (Nat.le_refl _)] at this
      exact this
    refine ⟨hb 0 (by omega), ?_⟩
    rw [show p + signN (t.extract p t.size) - 1 = p + (signN (t.extract p t.size) - 1) by omega]
    exact hb _ (by omega)

structure Orig (t : ByteArray) (tk : Tk) : Prop where
  pos : 0 < tk.text.size
  le : tk.at_ + tk.text.size ≤ t.size
  ext : t.extract tk.at_ (tk.at_ + tk.text.size) = tk.text
  valid : Valid t tk.at_
  cls : Cls t tk.at_ tk.kind (tk.at_ + tk.text.size)
  nb : bt t tk.at_ ≠ 10 ∧ bt t tk.at_ ≠ 32 ∧ bt t tk.at_ ≠ 9 ∧ bt t tk.at_ ≠ 13
def PutT (tk : Tk) : Prop := tk.kind = 6 ∧ tk.text = nlT

theorem orig_of {t : ByteArray} {p k e : Nat} (hp : p < t.size) (h : Cls t p k e) (hv : Valid t p) (hb : bt t p ≠ 10 ∧ bt t p ≠ 32 ∧ bt t p ≠ 9 ∧ bt t p ≠ 13) : Orig t ⟨k, t.extract p e, p⟩ := by
  obtain ⟨g1, g2⟩ := h.gt hp
  have hz := ext_size t p e g2
  have he : p + (t.extract p e).size = e := by omega
  refine ⟨by show 0 < (t.extract p e).size; omega, by show p + (t.extract p e).size ≤ _; omega, ?_, hv, ?_, hb⟩
  · show t.extract p (p + (t.extract p e).size) = t.extract p e
    rw [he]
  · show Cls t p k (p + (t.extract p e).size)
    rw [he]
    exact h

/-- What each token is, and where it stood. -/
theorem scanR_orig {s : ByteArray} (h : (scanR s).err = 0) : ∀ tk ∈ (scanR s).st.toks, PutT tk ∨ Orig s tk := by
  obtain ⟨-, hw, ha, -⟩ := scanR_ok h
  obtain ⟨x, hx, e⟩ := allP_inv (fun p x => Valid s p ∧ ∀ tk ∈ x.toks, PutT tk ∨ Orig s tk) (fun p x x' hp ha hI hb => by
    obtain ⟨hv, hI⟩ := hI
    obtain ⟨hg, hv'⟩ := valid_next hp hv
    refine ⟨hv', ?_⟩
    rcases step_same s x p hp hg with ⟨e1, e2⟩ | ⟨x2, y, e1, e2, s1, s2, s3⟩
    · rw [e1] at hb; cases hb
    · rw [e1] at hb
      cases hb
      rw [s1]
      rcases stepB_cls e2 with h | ⟨k, e, hc, hb, rfl⟩
      · intro tk htk
        rcases h tk htk with h | h
        · exact hI tk h
        · exact .inl h
      · intro tk htk
        rcases List.mem_append.1 htk with h | h
        · exact hI tk h
        · rw [List.mem_singleton.1 h]
          exact .inr (orig_of hp hc hv hb)) (fun p x hp ha hI => ⟨(valid_next hp hI.1).2, hI.2⟩) ⟨⟨s.size, by omega, hw⟩, fun _ h => by cases h⟩ ha
  rw [e]
  intro tk htk
  rcases endL_mem htk with h | h
  · exact hx.2 tk h
  · exact .inl (by rw [h]; exact ⟨rfl, rfl⟩)

theorem Orig.low {t : ByteArray} {tk : Tk} (h : Orig t tk) : bt t tk.at_ < 128 := (h.cls.low (by have := h.le; have := h.pos; omega)).1
theorem Orig.edge {t : ByteArray} {tk : Tk} (h : Orig t tk) : Edge t (tk.at_ + tk.text.size) :=
  .inr (.inr ⟨by have := h.pos; omega, (h.cls.low (by have := h.le; have := h.pos; omega)).2⟩)
theorem Orig.bt {t : ByteArray} {tk : Tk} (h : Orig t tk) (i : Nat) (hi : i < tk.text.size) : YthpengbglbgidaaDoor.bt tk.text i = YthpengbglbgidaaDoor.bt t (tk.at_ + i) := by
  have := bt_ext t tk.at_ (tk.at_ + tk.text.size) i (by omega) h.le
  rw [h.ext] at this
  exact this
theorem Orig.list {t : ByteArray} {tk : Tk} (h : Orig t tk) : (tk.text.toList == [10]) = false := by
  cases e : (tk.text.toList == [10])
  · rfl
  · have e1 := beq_iff_eq.1 e
    have h0 := (head_bt tk.text 10 [] e1).2
    have h1 := h.bt 0 h.pos
    have h2 := h.nb.1
    rw [Nat.add_zero] at h1
    rw [h1] at h0
    exact absurd h0 h2

/-! ### The tokens joined -/
def sepL (tk : Tk) : List UInt8 := tk.text.data.toList ++ (if tk.text.toList == [10] then [] else [32])
def joinL (l : List Tk) : List UInt8 := l.flatMap sepL
def joinB (l : List Tk) : ByteArray := ⟨(joinL l).toArray⟩
theorem joinB_list (l : List Tk) : (joinB l).data.toList = joinL l := rfl
theorem joinB_size (l : List Tk) : (joinB l).size = (joinL l).length := by show (joinL l).toArray.size = _; simp
theorem joinL_append (a b : List Tk) : joinL (a ++ b) = joinL a ++ joinL b := List.flatMap_append
theorem joinL_cons (tk : Tk) (b : List Tk) : joinL (tk :: b) = sepL tk ++ joinL b := rfl

def kt (tk : Tk) : Nat × ByteArray := (tk.kind, tk.text)
def Like (a b : List Tk) : Prop := a.map kt = b.map kt
theorem endsB_kt {a b : Tk} (h : kt a = kt b) : endsB a = endsB b := by
  unfold kt at h
  injection h with h1 h2
  unfold endsB
  rw [h1, h2]

theorem seg_bt (c : ByteArray) (A B C : List UInt8) (h : c.data.toList = A ++ (B ++ C)) (i : Nat) (x : UInt8) (hx : B[i]? = some x) : bt c (A.length + i) = x.toNat := by
  refine bt_of_list c _ x ?_
  have hi := (List.getElem?_eq_some_iff.1 hx).1
  rw [h, List.getElem?_append_right (by omega), show A.length + i - A.length = i by omega, List.getElem?_append_left hi]
  exact hx

section
variable {t : ByteArray} {l : List Tk}

theorem at_put {a b : List Tk} {tk : Tk} (hl : l = a ++ tk :: b) (hp : PutT tk) : bt (joinB l) (joinL a).length = 10 ∧ (joinL a).length + 1 = (joinL (a ++ [tk])).length ∧ (joinL a).length < (joinB l).size := by
  have hs : sepL tk = [10] := by
    have e : (nlT.toList == [10]) = true := by rw [ByteArray.toList_eq]; rfl
    unfold sepL
    rw [hp.2, if_pos e]
    rfl
  have h1 := seg_bt (joinB l) (joinL a) (sepL tk) (joinL b) (by rw [joinB_list, hl, joinL_append, joinL_cons]) 0 10 (by rw [hs]; rfl)
  refine ⟨h1, ?_, ?_⟩
  · rw [joinL_append]; show _ = (joinL a ++ (sepL tk ++ [])).length; rw [hs]; simp
  · rw [joinB_size, hl, joinL_append, joinL_cons, hs]; simp
theorem at_orig {a b : List Tk} {tk : Tk} (hl : l = a ++ tk :: b) (ho : Orig t tk) : Moved t (joinB l) tk.at_ (joinL a).length tk.text.size ∧ bt (joinB l) ((joinL a).length + tk.text.size) = 32 ∧ (joinL a).length + tk.text.size + 1 = (joinL (a ++ [tk])).length ∧ (joinL a).length + tk.text.size < (joinB l).size := by
  have hs : sepL tk = tk.text.data.toList ++ [32] := by
    unfold sepL
    rw [ho.list]
    rfl
  have hlen : tk.text.data.toList.length = tk.text.size := rfl
  have hseg := seg_bt (joinB l) (joinL a) (sepL tk) (joinL b) (by rw [joinB_list, hl, joinL_append, joinL_cons])
  refine ⟨fun i hi => ?_, ?_, ?_, ?_⟩
  · have h1 := hseg i (UInt8.ofNat (bt tk.text i)) (by rw [hs, List.getElem?_append_left (by omega)]; exact bt_list tk.text i hi)
    have h2 := bt_lt tk.text i
    rw [h1, ← ho.bt i hi]
    simp
    omega
  · exact hseg tk.text.size 32 (by rw [hs, List.getElem?_append_right (by omega), hlen, Nat.sub_self]; rfl)
  · rw [joinL_append]; show _ = (joinL a ++ (sepL tk ++ [])).length; rw [hs]; simp <;> omega
  · rw [joinB_size, hl, joinL_append, joinL_cons, hs]; simp <;> omega

theorem joined_valid (hO : ∀ tk ∈ l, PutT tk ∨ Orig t tk) : ∀ b a, l = a ++ b → Valid (joinB l) (joinL a).length
  | [], a, hl => by
    rw [List.append_nil] at hl
    rw [← hl, ← joinB_size]
    exact ⟨0, by omega, rfl⟩
  | tk :: b, a, hl => by
    have ih := joined_valid hO b (a ++ [tk]) (by rw [hl]; simp)
    rcases hO tk (by rw [hl]; simp) with hp | ho
    · obtain ⟨h1, h2, h3⟩ := at_put hl hp
      rw [← h2] at ih
      exact ih.low h3 (by omega) (by omega)
    · obtain ⟨h1, h2, h3, h4⟩ := at_orig hl ho
      rw [← h3] at ih
      exact valid_move t (joinB l) tk.text.size tk.text.size tk.at_ _ (Nat.le_refl _) ho.le ho.edge ho.valid (.inr ho.low) (by omega) h1 (ih.low h4 (by omega) (by omega))

theorem joined_scan (hO : ∀ tk ∈ l, PutT tk ∨ Orig t tk) (hP : PutOk l) : ∀ b a la k, l = a ++ b → Like a la → (joinB l).size ≤ (joinL a).length + k →
    ∃ lb, scanF (joinB l) k ⟨(joinL a).length, la, []⟩ = .ok ⟨(joinB l).size, la ++ lb, []⟩ ∧ Like b lb
  | [], a, la, k, hl, hla, hk => by
    rw [List.append_nil] at hl
    have e : (joinL a).length = (joinB l).size := by rw [← hl, joinB_size]
    refine ⟨[], ?_, rfl⟩
    rw [e, List.append_nil]
    cases k with
    | zero => rfl
    | succ k => rw [scanF, if_neg (by simp)]
  | tk :: b, a, la, k, hl, hla, hk => by
    have ih := fun la' k' => joined_scan hO hP b (a ++ [tk]) la' k' (by rw [hl]; simp)
    rcases hO tk (by rw [hl]; simp) with hp | ho
    · obtain ⟨h1, h2, h3⟩ := at_put hl hp
      rw [← h2] at ih
      obtain ⟨k, rfl⟩ : ∃ k', k = k' + 1 := ⟨k - 1, by omega⟩
      obtain ⟨j, u, hj, hu, he⟩ := hP a.length tk (by rw [hl]; simp) hp.2
      have hlen : la.length = a.length := by have := congrArg List.length hla; simpa using this.symm
      have hlast : la.getLast? = some (la[j]'(by omega)) := by
        rw [List.getLast?_eq_getElem?, show la.length - 1 = j by omega, List.getElem?_eq_getElem]
      have hue : endsB (la[j]'(by omega)) = true := by
        rw [← he]
        refine (endsB_kt ?_).symm
        have e1 : a[j]? = some u := by rw [hl, List.getElem?_append_left (by omega)] at hu; exact hu
        have e2 : (a.map kt)[j]? = some (kt u) := by rw [List.getElem?_map, e1]; rfl
        rw [hla, List.getElem?_map, List.getElem?_eq_getElem (by omega)] at e2
        exact (Option.some.inj e2).symm
      have hend : endL la (joinL a).length = la ++ [⟨6, nlT, (joinL a).length⟩] := by
        unfold endL
        rw [hlast]
        simp only [hue, if_true]
      have hfe : ¬ feff (joinB l) (joinL a).length = true := fun h => by
        obtain ⟨h0, _, h4, _⟩ := (feff_iff _ _).1 h
        rw [h0] at h1
        omega
      have hstep : stepB (joinB l) ⟨(joinL a).length, la, []⟩ = some ⟨(joinL a).length + 1, la ++ [⟨6, nlT, (joinL a).length⟩], []⟩ := by
        unfold stepB
        dsimp only
        rw [if_neg hfe, if_pos h1, hend]
      obtain ⟨lb, e1, e2⟩ := ih (la ++ [⟨6, nlT, (joinL a).length⟩]) k (by
        unfold Like at hla ⊢
        rw [List.map_append, List.map_append, hla]
        unfold kt
        simp [hp.1, hp.2]) (by omega)
      refine ⟨⟨6, nlT, (joinL a).length⟩ :: lb, ?_, ?_⟩
      · rw [scanF, if_pos h3, hstep]
        dsimp only
        rw [e1]
        simp
      · unfold Like at e2 ⊢
        rw [List.map_cons, List.map_cons, e2]
        unfold kt
        simp [hp.1, hp.2]
    · obtain ⟨h1, h2, h3, h4⟩ := at_orig hl ho
      rw [← h3] at ih
      have hpos := ho.pos
      have hle := ho.le
      obtain ⟨k, rfl⟩ : ∃ k', k = k' + 1 + 1 := ⟨k - 2, by omega⟩
      have hs1 := ho.cls.move (by omega) h1 h4 h2 ho.low ho.nb la []
      have hfe : ¬ feff (joinB l) ((joinL a).length + tk.text.size) = true := fun h => by
        obtain ⟨h0, _⟩ := (feff_iff _ _).1 h
        omega
      have hs2 : stepB (joinB l) ⟨(joinL a).length + tk.text.size, la ++ [⟨tk.kind, t.extract tk.at_ (tk.at_ + tk.text.size), (joinL a).length⟩], []⟩ = some ⟨(joinL a).length + tk.text.size + 1, la ++ [⟨tk.kind, t.extract tk.at_ (tk.at_ + tk.text.size), (joinL a).length⟩], []⟩ := by
        unfold stepB
        dsimp only
        rw [if_neg hfe, if_neg (by omega), if_pos (.inl h2)]
      rw [ho.ext] at hs1 hs2
      obtain ⟨lb, e1, e2⟩ := ih (la ++ [⟨tk.kind, tk.text, (joinL a).length⟩]) k (by
        unfold Like at hla ⊢
        rw [List.map_append, List.map_append, hla]
        rfl) (by omega)
      refine ⟨⟨tk.kind, tk.text, (joinL a).length⟩ :: lb, ?_, ?_⟩
      · rw [scanF, if_pos (by show (joinL a).length < _; omega), hs1]
        dsimp only
        rw [scanF, if_pos (by show (joinL a).length + tk.text.size < _; omega), hs2]
        dsimp only
        rw [e1]
        simp
      · unfold Like at e2 ⊢
        rw [List.map_cons, List.map_cons, e2]
        rfl
end

/-! ### How long they are -/
theorem room_sum (N : Nat) : ∀ (l : List Tk) (lo : Nat), (∀ a ∈ l, lo ≤ a.at_) → l.Pairwise (fun a b => a.at_ + room a ≤ b.at_) → (∀ a ∈ l, a.at_ + room a ≤ N) → lo ≤ N → lo + (l.map room).sum ≤ N
  | [], lo, h1, h2, h3, h4 => by simpa using h4
  | a :: l, lo, h1, h2, h3, h4 => by
    rw [List.pairwise_cons] at h2
    have := room_sum N l (a.at_ + room a) h2.1 h2.2 (fun b hb => h3 b (List.mem_cons_of_mem _ hb)) (h3 a (List.mem_cons_self ..))
    have h5 := h1 a (List.mem_cons_self ..)
    rw [List.map_cons, List.sum_cons]
    omega
theorem sepL_len (tk : Tk) : (sepL tk).length ≤ room tk + 1 := by
  have hlen : tk.text.data.toList.length = tk.text.size := rfl
  unfold sepL room putB
  cases e : (tk.text.toList == [10])
  · simp <;> omega
  · have e1 := beq_iff_eq.1 e
    have := list_size tk.text
    rw [e1] at this
    simp at this
    simp
    omega
theorem joinL_len : ∀ l : List Tk, (joinL l).length ≤ (l.map room).sum + l.length
  | [] => Nat.le_refl _
  | tk :: l => by
    have h1 := sepL_len tk
    have h2 := joinL_len l
    rw [joinL_cons, List.length_append, List.map_cons, List.sum_cons, List.length_cons]
    omega
theorem scanR_len {s : ByteArray} (h : (scanR s).err = 0) : (scanR s).st.toks.length ≤ s.size + 1 := by
  obtain ⟨-, hw, ha, -⟩ := scanR_ok h
  obtain ⟨x, hx, e⟩ := allP_inv (fun p x => x.toks.length ≤ p) (fun p x x' hp ha hI hb => by have := (beginP_len hb).1; have := wid_pos s p; omega) (fun p x hp ha hI => by have := wid_pos s p; omega) (Nat.le_refl _) ha
  rw [e]
  have := endL_len x.toks s.size
  show (endL x.toks s.size).length ≤ _
  omega
theorem joined_size {s : ByteArray} (h : (scanR s).err = 0) : (joinB (scanR s).st.toks).size ≤ 2 * s.size + 1 := by
  have h1 := scanR_len h
  have hS := scanR_stand h
  have h2 := room_sum s.size _ 0 (fun _ _ => Nat.zero_le _) hS.rise (fun a ha => by have := hS.boundT a ha; have := hS.atLe; omega) (Nat.zero_le _)
  have h3 := joinL_len (scanR s).st.toks
  rw [joinB_size]
  omega

/-- Joined, they are scanned as they were. -/
theorem joined (s : ByteArray) (h : (scanR s).err = 0) (hs : s.size ≤ 1000) : (scanR (joinB (scanR s).st.toks)).err = 0 ∧ Like (scanR s).st.toks (scanR (joinB (scanR s).st.toks)).st.toks := by
  have hO := scanR_orig h
  have hP := scanR_put h
  have hL := scanR_last h
  have hsz := joined_size h
  obtain ⟨e1, -, e3, -⟩ := scanR_scanB (joinB (scanR s).st.toks)
  rw [e1, e3]
  generalize (scanR s).st.toks = l at *
  obtain ⟨f, hf, hv⟩ := joined_valid hO l [] rfl
  have hw : ¬ 0 ≤ wrongR (joinB l) := by
    unfold wrongR
    rw [wrongF_more _ _ f 0 (by omega) hf]
    have hv' : wrongF (joinB l) f 0 = -1 := hv
    omega
  obtain ⟨lb, g1, g2⟩ := joined_scan hO hP l [] [] (joinB l).size rfl rfl (by show _ ≤ 0 + _; omega)
  rw [List.nil_append] at g1
  have g1' : scanF (joinB l) (joinB l).size st0 = .ok ⟨(joinB l).size, lb, []⟩ := g1
  have hend : endL lb (joinB l).size = lb := by
    unfold endL
    split
    · rename_i u hu
      have : endsB u = false := by
        have e2 : (l.map kt).getLast? = (lb.map kt).getLast? := by rw [show l.map kt = lb.map kt from g2]
        rw [List.getLast?_map, List.getLast?_map, hu] at e2
        cases e3 : l.getLast? with
        | none => rw [e3] at e2; cases e2
        | some v =>
          rw [e3] at e2
          have e4 : kt v = kt u := Option.some.inj e2
          rw [← endsB_kt e4]
          exact hL v e3
      rw [this]; rfl
    · rfl
  unfold scanB
  rw [if_neg (by omega), if_neg hw, g1']
  exact ⟨rfl, by show Like l (endL lb _); rw [hend]; exact g2⟩
end Go.Proofs.YthpengbglbgidaaDoor
