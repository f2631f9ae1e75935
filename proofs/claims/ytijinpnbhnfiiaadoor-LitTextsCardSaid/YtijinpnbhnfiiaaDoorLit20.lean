/- A number of one figure again and again: pure. What a number means is plain: pure. -/
import Derived.Test.YtijinpnbhnfiiaaDoorLit18
namespace Go.Proofs.YtijinpnbhnfiiaaDoor
open Go.RowKit
set_option linter.unusedVariables false

theorem sig_one (s : ByteArray) (p : Nat) (h : bt s p < 128) : sig s p = bt s p ∧ wid s p = 1 := by
  have e := dec_1 s p h
  unfold sig wid
  rw [e]
  exact ⟨rfl, rfl⟩

theorem growN_same (f : Nat) (h0 : 1 ≤ f) (h1 : f ≤ 9) : ∀ n, growN 10 (List.replicate n f) f = List.replicate (n + 1) f
  | 0 => by
    show tailN f f = [f]
    obtain ⟨k, rfl⟩ : ∃ k, f = k + 1 := ⟨f - 1, by omega⟩
    rw [tailN, if_neg (by omega), Nat.mod_eq_of_lt (by omega), Nat.div_eq_of_lt (by omega)]
    cases k with
    | zero => rfl
    | succ k => rw [tailN, if_pos rfl]
  | n + 1 => by
    rw [List.replicate_succ, growN, show (f + f * 10) % 10 = f by omega, show (f + f * 10) / 10 = f by omega, growN_same f h0 h1 n, ← List.replicate_succ]

theorem numF_same (s : ByteArray) (f : Nat) (h0 : 1 ≤ f) (h1 : f ≤ 9) (hs : ∀ i, i < s.size → bt s i = 48 + f) : ∀ k p a, p ≤ s.size → s.size ≤ p + k → (p = 0 ∨ a = 48 + (f : Int)) → 0 < s.size →
    numF s 10 k p a (List.replicate p f) = some (48 + (f : Int), List.replicate s.size f)
  | 0, p, a, hp, hk, ha, hz => by
    have : p = s.size := by omega
    subst this
    rw [numF]
    rcases ha with h | h
    · omega
    · rw [h]
  | k + 1, p, a, hp, hk, ha, hz => by
    rw [numF]
    by_cases hlt : p < s.size
    · have hb := hs p hlt
      obtain ⟨e1, e2⟩ := sig_one s p (by omega)
      rw [if_pos hlt, e1, e2, hb, if_neg (by omega)]
      have hd : digW ((48 + f : Nat) : Int) ((10 : Nat) : Int) = f := by unfold digW; rw [if_pos (by omega)]; omega
      rw [hd, if_pos (by omega), Int.toNat_natCast, growN_same f h0 h1 p]
      rw [numF_same s f h0 h1 hs k (p + 1) _ (by omega) (by omega) (.inr (by omega)) hz]
    · rw [if_neg hlt]
      have : p = s.size := by omega
      subst this
      rcases ha with h | h
      · omega
      · rw [h]

theorem num_same (s : ByteArray) (f : Nat) (h0 : 1 ≤ f) (h1 : f ≤ 9) (hs : ∀ i, i < s.size → bt s i = 48 + f) (hz : 0 < s.size) (hm : s.size ≤ 200) : numR s = (s, 0) := by
  have hsp : splitN s = (10, 0) := by
    unfold splitN
    rw [if_pos (.inr (by rw [hs 0 hz]; omega))]
  unfold numR
  rw [if_neg (by omega)]
  unfold numberP
  rw [hsp]
  show meantV (numberE (s.extract 0 s.size) (numF (s.extract 0 s.size) 10 (s.extract 0 s.size).size 0 95 [])) = _
  rw [extract_whole, show ([] : List Nat) = List.replicate 0 f from rfl, numF_same s f h0 h1 hs s.size 0 95 (by omega) (by omega) (.inl rfl) hz]
  show meantV (if s.size = 0 ∨ (48 + (f : Int)) = 95 then none else some (writtenB (List.replicate s.size f))) = _
  rw [if_neg (by omega)]
  show (writtenB (List.replicate s.size f), (0 : Int)) = _
  congr 1
  unfold writtenB writtenL
  rw [List.length_replicate, if_neg (by omega), List.reverse_replicate, List.map_replicate]
  apply ByteArray.ext
  apply Array.ext
  · simp
  · intro i g1 g2
    have hi : i < s.size := g2
    have e := hs i hi
    rw [bt_eq s i hi] at e
    show (List.replicate s.size (UInt8.ofNat (48 + f))).toArray[i]'(by simpa using hi) = s.data[i]
    rw [List.getElem_toArray, List.getElem_replicate]
    apply UInt8.toNat_inj.1
    have e2 : s.data[i].toNat = 48 + f := e.symm.symm
    rw [e2, UInt8.toNat_ofNat']
    omega
end Go.Proofs.YtijinpnbhnfiiaaDoor

namespace Go.Proofs.YtijinpnbhnfiiaaDoor
open Go.RowKit
set_option linter.unusedVariables false

/-- No nought in front (the last figure stands first). -/
def NZ (l : List Nat) : Prop := ∀ h : l ≠ [], l.getLast h ≠ 0
theorem NZ.nil : NZ [] := fun h => absurd rfl h
theorem NZ.tail {f : Nat} {l : List Nat} (h : NZ (f :: l)) : NZ l := fun hl => by
  have := h (by simp)
  rwa [List.getLast_cons hl] at this
theorem NZ.cons {f : Nat} {l : List Nat} (h : NZ l) (hf : l = [] → f ≠ 0) : NZ (f :: l) := fun _ => by
  by_cases hl : l = []
  · subst hl; exact hf rfl
  · rw [List.getLast_cons hl]; exact h hl
theorem tailN_empty : ∀ k m, m ≤ k → tailN k m = [] → m = 0
  | 0, m, h, _ => by omega
  | k + 1, m, h, e => by
    rw [tailN] at e
    split at e
    · assumption
    · cases e
theorem tailN_nz : ∀ k m, m ≤ k → NZ (tailN k m)
  | 0, m, h => NZ.nil
  | k + 1, m, h => by
    rw [tailN]
    split
    · exact NZ.nil
    · rename_i h0
      refine (tailN_nz k (m / 10) (by omega)).cons fun e => ?_
      have := tailN_empty k (m / 10) (by omega) e
      omega
theorem growN_empty (base : Nat) : ∀ l m, growN base l m = [] → l = [] ∧ m = 0
  | [], m, e => ⟨rfl, tailN_empty m m (Nat.le_refl _) e⟩
  | f :: l, m, e => by cases e
theorem growN_nz (base : Nat) (hb : 2 ≤ base) : ∀ l m, NZ l → NZ (growN base l m)
  | [], m, h => tailN_nz m m (Nat.le_refl _)
  | f :: l, m, h => by
    rw [growN]
    refine (growN_nz base hb l _ h.tail).cons fun e => ?_
    obtain ⟨rfl, h0⟩ := growN_empty base l _ e
    have hf : f ≠ 0 := h (by simp)
    have : f * 2 ≤ f * base := Nat.mul_le_mul_left f hb
    omega
theorem numF_nz (d : ByteArray) (base : Nat) (hb : 2 ≤ base) : ∀ k p a l r, numF d base k p a l = some r → NZ l → (∀ x ∈ l, x < 10) → NZ r.2 ∧ ∀ x ∈ r.2, x < 10
  | 0, p, a, l, r, h, hl, hd => by rw [numF] at h; cases h; exact ⟨hl, hd⟩
  | k + 1, p, a, l, r, h, hl, hd => by
    rw [numF] at h
    split at h
    · split at h
      · split at h
        · cases h
        · exact numF_nz d base hb k _ _ l r h hl hd
      · split at h
        · exact numF_nz d base hb k _ _ _ r h (growN_nz base hb l _ hl) (growN_lt base l _)
        · cases h
    · cases h; exact ⟨hl, hd⟩

theorem plainF_all (s : ByteArray) (h : ∀ i, i < s.size → 48 ≤ bt s i ∧ bt s i ≤ 57) : ∀ k p, plainF s k p = true
  | 0, p => rfl
  | k + 1, p => by
    rw [plainF]
    by_cases hp : p < s.size
    · obtain ⟨h1, h2⟩ := h p hp
      obtain ⟨e1, e2⟩ := sig_one s p (by omega)
      have := plainF_all s h k (p + 1)
      simp [hp, e1, e2, this]
      omega
    · simp [hp]

theorem written_plain (l : List Nat) (hz : NZ l) (hd : ∀ x ∈ l, x < 10) (hs : (writtenB l).size ≤ 200) : plainB (writtenB l) = true := by
  by_cases h0 : l = []
  · subst h0; decide +kernel
  have hl : l.length ≠ 0 := fun e => h0 (List.eq_nil_of_length_eq_zero e)
  have hw : writtenB l = ⟨(writtenL l).toArray⟩ := by unfold writtenB; rw [if_neg hl]
  have hsz : (writtenB l).size = l.length := by rw [hw, ByteArray.size]; simp [writtenL]
  have hb : ∀ i (hi : i < l.length), bt (writtenB l) i = 48 + l.reverse[i]'(by simpa using hi) := fun i hi => by
    rw [bt_eq _ i (by rw [hsz]; exact hi)]
    have hx := hd _ (List.mem_reverse.1 (List.getElem_mem (l := l.reverse) (by simpa using hi)))
    have e : (writtenB l)[i]'(by rw [hsz]; exact hi) = UInt8.ofNat (48 + l.reverse[i]'(by simpa using hi)) := by
      simp only [hw]
      show (writtenL l).toArray[i]'(by simpa [writtenL] using hi) = _
      rw [List.getElem_toArray]
      unfold writtenL
      rw [List.getElem_map]
    rw [e, UInt8.toNat_ofNat']
    omega
  have hr : ∀ i, i < (writtenB l).size → 48 ≤ bt (writtenB l) i ∧ bt (writtenB l) i ≤ 57 := fun i hi => by
    rw [hsz] at hi
    have hx := hd _ (List.mem_reverse.1 (List.getElem_mem (l := l.reverse) (n := i) (by simpa using hi)))
    rw [hb i hi]
    omega
  have h1 : bt (writtenB l) 0 ≠ 48 := by
    rw [hb 0 (by omega)]
    have := hz h0
    have e : l.reverse[0]'(by simp; omega) = l.getLast h0 := by
      rw [List.getElem_reverse, List.getLast_eq_getElem]
      congr 1
    rw [e]
    omega
  unfold plainB
  rw [if_neg (by omega)]
  exact plainF_all _ hr _ _

theorem num_plain (s t : ByteArray) (h : numR s = (t, 0)) (ht : t.size ≤ 200) : plainB t = true := by
  unfold numR at h
  split at h
  · cases h
  · unfold numberP at h
    generalize hF : numF _ _ _ _ _ _ = r at h
    cases r with
    | none => cases h
    | some al =>
      obtain ⟨a, l⟩ := al
      have hb := splitN_base s
      have := numF_nz _ _ (by omega) _ _ _ _ _ hF NZ.nil (fun _ h => by cases h)
      change meantV (if _ then none else some (writtenB l)) = _ at h
      split at h
      · cases h
      · obtain rfl : writtenB l = t := congrArg Prod.fst h
        exact written_plain l this.1 this.2 ht
theorem num_err (s : ByteArray) : (numR s).2 = 0 ∨ (numR s).1 = ⟨#[]⟩ ∧ (numR s).2 ≠ 0 := by
  unfold numR
  split
  · exact .inr ⟨rfl, by decide⟩
  · generalize numberP s = r
    cases r with
    | none => exact .inr ⟨rfl, by decide⟩
    | some t => exact .inl rfl

theorem dropB_shift (d e : ByteArray) (h : e.data.toList = 48 :: d.data.toList) (p : Nat) : dropB e (p + 1) = dropB d p := by
  apply ByteArray.ext
  apply Array.toList_inj.1
  unfold dropB
  simp [h]
theorem sig_shift (d e : ByteArray) (h : e.data.toList = 48 :: d.data.toList) (p : Nat) (hp : p < d.size) : sig e (p + 1) = sig d p ∧ wid e (p + 1) = wid d p := by
  have hz : e.size = d.size + 1 := by
    have := congrArg List.length h
    simpa using this
  have h1 := dropB_go e (p + 1) (by omega)
  have h2 := dropB_go d p hp
  rw [dropB_shift d e h p, h2] at h1
  exact ⟨(congrArg Prod.fst h1).symm, (congrArg Prod.snd h1).symm⟩
theorem numF_shift (d e : ByteArray) (h : e.data.toList = 48 :: d.data.toList) (base : Nat) : ∀ k p a l, numF e base k (p + 1) a l = numF d base k p a l
  | 0, p, a, l => rfl
  | k + 1, p, a, l => by
    have hz : e.size = d.size + 1 := by
      have := congrArg List.length h
      simpa using this
    rw [numF, numF]
    by_cases hp : p < d.size
    · obtain ⟨e1, e2⟩ := sig_shift d e h p hp
      rw [if_pos (by omega), if_pos hp, e1, e2, show p + 1 + wid d p = (p + wid d p) + 1 by omega, numF_shift d e h base k, numF_shift d e h base k]
    · rw [if_neg (by omega), if_neg hp]
theorem numE_nought (d e : ByteArray) (hd : e.data.toList = 48 :: d.data.toList) (hz : 0 < d.size) (base : Nat) (hbase : base = 16 ∨ base = 2 ∨ base = 8) :
    numberE e (numF e base e.size 0 (if base = 10 then 95 else 48) []) = numberE d (numF d base d.size 0 (if base = 10 then 95 else 48) []) := by
  have z2 : e.size = d.size + 1 := by
    have := congrArg List.length hd
    simpa using this
  have hb0 : bt e 0 = 48 := by
    rw [bt_eq _ 0 (by omega)]
    have q : e.data.toList[0]? = some e[0] := by rw [Array.getElem?_toList]; exact Array.getElem?_eq_getElem (by show 0 < e.size; omega)
    rw [hd] at q
    rw [← Option.some.inj q]
    rfl
  rw [if_neg (by omega), z2, numF, if_pos (by omega)]
  obtain ⟨e1, e2⟩ := sig_one e 0 (by omega)
  have hdw : digW ((48 : Nat) : Int) base = 0 := by unfold digW; rw [if_pos (by omega)]; rfl
  have hg : growN base [] 0 = [] := rfl
  rw [e1, e2, hb0, if_neg (by decide), hdw, if_pos (by omega), Int.toNat_zero, hg, numF_shift d e hd base]
  show numberE e (numF d base d.size 0 48 []) = _
  generalize numF d base d.size 0 48 [] = r
  cases r with
  | none => rfl
  | some al =>
    obtain ⟨a, l⟩ := al
    show (if e.size = 0 ∨ a = 95 then none else some (writtenB l)) = (if d.size = 0 ∨ a = 95 then none else some (writtenB l))
    by_cases ha : a = 95
    · rw [if_pos (.inr ha), if_pos (.inr ha)]
    · rw [if_neg (by omega), if_neg (by omega)]
theorem num_nought (s t : ByteArray) (h0 : bt s 0 = 48) (h1 : bt s 1 = 120 ∨ bt s 1 = 98 ∨ bt s 1 = 111) (hz : 2 < s.size) (hs : s.size ≤ 199)
    (ht : t.data.toList = s.data.toList.take 2 ++ 48 :: s.data.toList.drop 2) : numR t = numR s := by
  have hl : (s.data.toList.take 2).length = 2 := by simp; omega
  have htz : t.size = s.size + 1 := by
    have := congrArg List.length ht
    simp at this
    omega
  have hb : ∀ i, i < 2 → bt t i = bt s i := fun i hi => by
    rw [bt_eq t i (by omega), bt_eq s i (by omega)]
    congr 1
    have e1 : t.data.toList[i]? = s.data.toList[i]? := by
      rw [ht, List.getElem?_append_left (by omega), List.getElem?_take_of_lt hi]
    have e2 : t.data.toList[i]? = some t[i] := by rw [Array.getElem?_toList]; exact Array.getElem?_eq_getElem (by show i < t.size; omega)
    have e3 : s.data.toList[i]? = some s[i] := by rw [Array.getElem?_toList]; exact Array.getElem?_eq_getElem (by show i < s.size; omega)
    rw [e2, e3] at e1
    exact Option.some.inj e1
  obtain ⟨base, hbase, hsp⟩ : ∃ base, (base = 16 ∨ base = 2 ∨ base = 8) ∧ splitN s = (base, 2) := by
    unfold splitN
    rw [if_neg (by omega)]
    rcases h1 with h | h | h <;> rw [h] <;> simp
  have hst : splitN t = (base, 2) := by
    have b0 := hb 0 (by omega)
    unfold splitN at hsp ⊢
    rw [if_neg (by omega)] at hsp
    rw [if_neg (by omega), hb 1 (by omega)]
    exact hsp
  have hd : (t.extract 2 t.size).data.toList = 48 :: (s.extract 2 s.size).data.toList := by
    rw [ByteArray.data_extract, ByteArray.data_extract, Array.toList_extract, Array.toList_extract, List.extract_eq_take_drop, List.extract_eq_take_drop, ht, List.drop_append_of_le_length (by omega), List.drop_of_length_le (by omega), List.nil_append]
    rw [List.take_of_length_le (by simp; omega), List.take_of_length_le (by simp)]
  have hds : 0 < (s.extract 2 s.size).size := by rw [ByteArray.size_extract]; omega
  have hE := numE_nought _ _ hd hds base hbase
  have hP : numberP t = numberP s := by
    unfold numberP
    rw [hsp, hst]
    exact hE
  unfold numR
  rw [if_neg (by omega), if_neg (by omega), hP]
end Go.Proofs.YtijinpnbhnfiiaaDoor
