/- Plain laws on places: two texts with a line's end between. No program stands in it. -/
import Derived.Test.YthpengbglbgidaaDoorMore
namespace Go.Proofs.YthpengbglbgidaaDoor

def jn (a b : ByteArray) : ByteArray := ⟨(a.data.toList ++ 10 :: b.data.toList).toArray⟩
theorem jn_size (a b : ByteArray) : (jn a b).size = a.size + 1 + b.size := by
  show (a.data.toList ++ 10 :: b.data.toList).toArray.size = _
  simp
  show a.size + (b.size + 1) = _
  omega
theorem jn_list (a b : ByteArray) : (jn a b).data.toList = a.data.toList ++ 10 :: b.data.toList := rfl
theorem bt_list (s : ByteArray) (k : Nat) (h : k < s.size) : s.data.toList[k]? = some (UInt8.ofNat (bt s k)) := by
  rw [bt_eq s k h, List.getElem?_eq_getElem (by simpa using h)]
  simp
  rfl
theorem bt_of_list (s : ByteArray) (k : Nat) (x : UInt8) (h : s.data.toList[k]? = some x) : bt s k = x.toNat := by
  have hk : k < s.size := by
    rcases Nat.lt_or_ge k s.size with h' | h'
    · exact h'
    · rw [List.getElem?_eq_none (by simpa using h')] at h; cases h
  rw [bt_list s k hk] at h
  have := Option.some.inj h
  rw [← this]
  have := bt_lt s k
  simp; omega

theorem bt_jn_l (a b : ByteArray) (k : Nat) (h : k < a.size) : bt (jn a b) k = bt a k := by
  refine bt_of_list _ _ (UInt8.ofNat (bt a k)) ?_ |>.trans (by have := bt_lt a k; simp; omega)
  rw [jn_list, List.getElem?_append_left (by simpa using h), bt_list a k h]
theorem bt_jn_m (a b : ByteArray) : bt (jn a b) a.size = 10 := by
  refine bt_of_list _ _ 10 ?_
  have e : a.data.toList.length = a.size := by simp
  rw [jn_list, List.getElem?_append_right (by omega), e]
  simp
theorem bt_jn_r (a b : ByteArray) (k : Nat) (h : k < b.size) : bt (jn a b) (a.size + 1 + k) = bt b k := by
  refine bt_of_list _ _ (UInt8.ofNat (bt b k)) ?_ |>.trans (by have := bt_lt b k; simp; omega)
  have e : a.data.toList.length = a.size := by simp
  rw [jn_list, List.getElem?_append_right (by omega), e, show a.size + 1 + k - a.size = k + 1 by omega, List.getElem?_cons_succ, bt_list b k h]

def cont (s : ByteArray) (p i : Nat) : Bool := decide (p + i < s.size) && bt s (p + i) / 64 == 2

theorem dec_ct (s : ByteArray) (p : Nat) : Utf8.decode s p =
    (if bt s p < 128 then (bt s p, 1)
    else if bt s p / 32 == 6 && cont s p 1 then
      if (bt s p % 32) * 64 + bt s (p + 1) % 64 ≥ 128 then ((bt s p % 32) * 64 + bt s (p + 1) % 64, 2) else (65533, 1)
    else if bt s p / 16 == 14 && cont s p 1 && cont s p 2 then
      if ((bt s p % 16) * 4096 + (bt s (p + 1) % 64) * 64 + bt s (p + 2) % 64 ≥ 2048 && Utf8.valid ((bt s p % 16) * 4096 + (bt s (p + 1) % 64) * 64 + bt s (p + 2) % 64 : Nat)) = true then
        ((bt s p % 16) * 4096 + (bt s (p + 1) % 64) * 64 + bt s (p + 2) % 64, 3) else (65533, 1)
    else if bt s p / 8 == 30 && cont s p 1 && cont s p 2 && cont s p 3 then
      if ((bt s p % 8) * 262144 + (bt s (p + 1) % 64) * 4096 + (bt s (p + 2) % 64) * 64 + bt s (p + 3) % 64 ≥ 65536 && Utf8.valid ((bt s p % 8) * 262144 + (bt s (p + 1) % 64) * 4096 + (bt s (p + 2) % 64) * 64 + bt s (p + 3) % 64 : Nat)) = true then
        ((bt s p % 8) * 262144 + (bt s (p + 1) % 64) * 4096 + (bt s (p + 2) % 64) * 64 + bt s (p + 3) % 64, 4) else (65533, 1)
    else (65533, 1)) := rfl

/-- What a sign is hangs on its bytes alone. -/
theorem dec_same (s t : ByteArray) (p q : Nat) (h0 : bt s p = bt t q) (h1 : cont s p 1 = cont t q 1) (v1 : cont s p 1 = true → bt s (p + 1) = bt t (q + 1))
    (h2 : cont s p 1 = true → cont s p 2 = cont t q 2) (v2 : cont s p 1 = true → cont s p 2 = true → bt s (p + 2) = bt t (q + 2))
    (h3 : cont s p 1 = true → cont s p 2 = true → cont s p 3 = cont t q 3) (v3 : cont s p 1 = true → cont s p 2 = true → cont s p 3 = true → bt s (p + 3) = bt t (q + 3)) :
    Utf8.decode s p = Utf8.decode t q := by
  rw [dec_ct, dec_ct, ← h0, ← h1]
  cases c1 : cont s p 1
  · simp only [Bool.and_false, Bool.false_and, Bool.false_eq_true, if_false]
  · rw [← v1 c1, ← h2 c1]
    cases c2 : cont s p 2
    · simp only [Bool.and_false, Bool.false_and, Bool.false_eq_true, if_false]
    · rw [← v2 c1 c2, ← h3 c1 c2]
      cases c3 : cont s p 3
      · simp only [Bool.and_false, Bool.false_eq_true, if_false]
      · rw [← v3 c1 c2 c3]

theorem cont_l (a b : ByteArray) (p i : Nat) (h : p + i ≤ a.size) : cont (jn a b) p i = cont a p i := by
  unfold cont
  rcases Nat.lt_or_ge (p + i) a.size with h' | h'
  · rw [bt_jn_l a b _ h', jn_size, decide_eq_true (show p + i < a.size + 1 + b.size by omega), decide_eq_true h']
  · have e : p + i = a.size := by omega
    rw [e, bt_jn_m, decide_eq_false (Nat.lt_irrefl a.size)]
    simp
theorem cont_lt (a : ByteArray) (p i : Nat) (h : cont a p i = true) : p + i < a.size := by
  unfold cont at h
  simp at h
  exact h.1

theorem dec_l (a b : ByteArray) (p : Nat) (h : p < a.size) : Utf8.decode (jn a b) p = Utf8.decode a p := by
  have k1 := cont_l a b p 1 (by omega)
  have g1 : cont (jn a b) p 1 = true → p + 1 < a.size := fun h => cont_lt a p 1 (k1 ▸ h)
  have k2 : cont (jn a b) p 1 = true → cont (jn a b) p 2 = cont a p 2 := fun h => cont_l a b p 2 (by have := g1 h; omega)
  have g2 : cont (jn a b) p 1 = true → cont (jn a b) p 2 = true → p + 2 < a.size := fun h h' => cont_lt a p 2 (k2 h ▸ h')
  have k3 : cont (jn a b) p 1 = true → cont (jn a b) p 2 = true → cont (jn a b) p 3 = cont a p 3 := fun h h' => cont_l a b p 3 (by have := g2 h h'; omega)
  exact dec_same _ _ _ _ (bt_jn_l a b p h) k1 (fun h => bt_jn_l a b _ (g1 h)) k2 (fun h h' => bt_jn_l a b _ (g2 h h')) k3
    (fun h h' h'' => bt_jn_l a b _ (cont_lt a p 3 (k3 h h' ▸ h'')))
theorem dec_m (a b : ByteArray) : Utf8.decode (jn a b) a.size = (10, 1) := by
  rw [dec_1 _ _ (by rw [bt_jn_m]; omega), bt_jn_m]
theorem cont_r (a b : ByteArray) (p i : Nat) : cont (jn a b) (a.size + 1 + p) i = cont b p i := by
  unfold cont
  rcases Nat.lt_or_ge (p + i) b.size with h' | h'
  · rw [Nat.add_assoc (a.size + 1), bt_jn_r a b _ h', jn_size, decide_eq_true (show a.size + 1 + (p + i) < a.size + 1 + b.size by omega), decide_eq_true h']
  · rw [jn_size, decide_eq_false (show ¬ a.size + 1 + p + i < a.size + 1 + b.size by omega), decide_eq_false (show ¬ p + i < b.size by omega)]
    simp
theorem dec_r (a b : ByteArray) (p : Nat) (h : p < b.size) : Utf8.decode (jn a b) (a.size + 1 + p) = Utf8.decode b p := by
  have v : ∀ i, cont (jn a b) (a.size + 1 + p) i = true → bt (jn a b) (a.size + 1 + p + i) = bt b (p + i) := fun i hc => by
    rw [Nat.add_assoc (a.size + 1)]
    exact bt_jn_r a b _ (cont_lt b p i (cont_r a b p i ▸ hc))
  exact dec_same _ _ _ _ (bt_jn_r a b p h) (cont_r a b p 1) (v 1) (fun _ => cont_r a b p 2) (fun _ => v 2) (fun _ _ => cont_r a b p 3) (fun _ _ => v 3)

/-- Up to the line's end the walk is that over the first text. -/
theorem seek_l (a b : ByteArray) : ∀ f g p l c, a.size ≤ p + g → (jn a b).size ≤ p + f → p ≤ a.size → seek (jn a b) a.size f p l c = seek a a.size g p l c
  | f, 0, p, l, c, hg, hf, hp => by
    rw [seek_stop _ _ _ _ _ (by omega), seek]
  | 0, g + 1, p, l, c, hg, hf, hp => by
    have := jn_size a b
    omega
  | f + 1, g + 1, p, l, c, hg, hf, hp => by
    rw [seek, seek]
    have hs := jn_size a b
    by_cases h : p < a.size
    · have e := dec_l a b p h
      have e1 : wid (jn a b) p = wid a p := congrArg Prod.snd e
      have e2 : sig (jn a b) p = sig a p := congrArg Prod.fst e
      have hw := wid_pos a p
      rw [if_pos (show p < (jn a b).size ∧ p < a.size by omega), if_pos (show p < a.size ∧ p < a.size from ⟨h, h⟩), lineN, colN, lineN, colN, e1, e2]
      exact seek_l a b f g _ _ _ (by omega) (by omega) (wid_le a p h)
    · rw [if_neg (by omega), if_neg (by omega)]

theorem seek_end (s : ByteArray) : ∀ f p l c, s.size ≤ p + f → p ≤ s.size → (seek s s.size f p l c).1 = s.size
  | 0, p, l, c, hf, hp => by rw [seek]; simp only []; omega
  | f + 1, p, l, c, hf, hp => by
    rw [seek]
    by_cases h : p < s.size
    · have hw := wid_pos s p
      rw [if_pos ⟨h, h⟩]
      exact seek_end s f _ _ _ (by omega) (wid_le s p h)
    · rw [if_neg (by omega)]; simp only []; omega

/-- Behind the line's end it is that over the second text, d lines on. -/
theorem seek_r (a b : ByteArray) (k d : Nat) : ∀ f g q l c, b.size ≤ q + g → (jn a b).size ≤ a.size + 1 + q + f → q ≤ b.size →
    seek (jn a b) (a.size + 1 + k) f (a.size + 1 + q) (d + l) c = (a.size + 1 + (seek b k g q l c).1, d + (seek b k g q l c).2.1, (seek b k g q l c).2.2)
  | f, 0, q, l, c, hg, hf, hq => by
    have := jn_size a b
    rw [seek_stop _ _ _ _ _ (by omega), seek]
  | 0, g + 1, q, l, c, hg, hf, hq => by
    have := jn_size a b
    rw [seek_stop b k q l c (by omega), seek]
  | f + 1, g + 1, q, l, c, hg, hf, hq => by
    rw [seek, seek]
    have hs := jn_size a b
    by_cases h : q < b.size ∧ q < k
    · have e := dec_r a b q h.1
      have e1 : wid (jn a b) (a.size + 1 + q) = wid b q := congrArg Prod.snd e
      have e2 : sig (jn a b) (a.size + 1 + q) = sig b q := congrArg Prod.fst e
      have hw := wid_pos b q
      have e3 : lineN (jn a b) (a.size + 1 + q) (d + l) = d + lineN b q l := by unfold lineN; rw [e2]; split <;> omega
      have e4 : colN (jn a b) (a.size + 1 + q) c = colN b q c := by unfold colN; rw [e2]
      rw [if_pos (show a.size + 1 + q < (jn a b).size ∧ a.size + 1 + q < a.size + 1 + k by omega), if_pos h, e1, e3, e4, Nat.add_assoc (a.size + 1)]
      exact seek_r a b k d f g _ _ _ (by omega) (by omega) (wid_le b q h.1)
    · rw [if_neg (show ¬ (a.size + 1 + q < (jn a b).size ∧ a.size + 1 + q < a.size + 1 + k) by omega), if_neg h]

theorem st_jn (a b : ByteArray) (k : Nat) : (st (jn a b) (a.size + 1 + k)).2.1 = (st a a.size).2.1 + (st b k).2.1 ∧ (st (jn a b) (a.size + 1 + k)).2.2 = (st b k).2.2 := by
  have hs := jn_size a b
  have e1 := seek_l a b (jn a b).size a.size 0 1 1 (by omega) (by omega) (Nat.zero_le _)
  have e2 := seek_end a a.size 0 1 1 (by omega) (Nat.zero_le _)
  have e3 := seek_seek (jn a b) a.size (a.size + 1 + k) (by omega) (jn a b).size 0 1 1 (by omega)
  rw [e1, e2] at e3
  have e4 := seek_step (jn a b) (a.size + 1 + k) a.size (seek a a.size a.size 0 1 1).2.1 (seek a a.size a.size 0 1 1).2.2 (by omega) (by omega) (jn a b).size (jn a b).size (by omega) (by omega)
  have f1 : wid (jn a b) a.size = 1 := congrArg Prod.snd (dec_m a b)
  have f2 : sig (jn a b) a.size = 10 := congrArg Prod.fst (dec_m a b)
  rw [e4, f1, lineN, colN, if_pos f2, if_pos f2] at e3
  have e5 := seek_r a b k (seek a a.size a.size 0 1 1).2.1 (jn a b).size b.size 0 1 1 (by omega) (by omega) (Nat.zero_le _)
  rw [Nat.add_zero] at e5
  rw [e5] at e3
  unfold st
  rw [← e3]
  exact ⟨rfl, rfl⟩

theorem nl_jn (a b : ByteArray) : nl (jn a b) = nl a + 1 + nl b := by
  unfold nl
  rw [jn_list, List.count_append, List.count_cons]
  simp
  omega

/-- What PlaceJoins asks. -/
theorem of_jn (a b : ByteArray) (k : Nat) (hk : k ≤ b.size) : ofL (jn a b) ((a.size : Int) + 1 + k) = ofL b k + ofL a a.size ∧ ofC (jn a b) ((a.size : Int) + 1 + k) = ofC b k := by
  have hs := jn_size a b
  have h := st_jn a b k
  have e : ((a.size : Int) + 1 + k).toNat = a.size + 1 + k := by omega
  unfold ofL ofC
  rw [if_neg (by omega), if_neg (by omega), if_neg (by omega), if_neg (by omega), if_neg (by omega), e, Int.toNat_natCast, Int.toNat_natCast]
  omega
end Go.Proofs.YthpengbglbgidaaDoor
