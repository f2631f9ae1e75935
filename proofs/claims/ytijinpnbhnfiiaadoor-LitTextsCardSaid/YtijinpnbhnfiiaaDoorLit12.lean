/- package lit: parts: a text with strokes. -/
import Derived.Test.YtijinpnbhnfiiaaDoorLit11
import Derived.Test.YtijinpnbhnfiiaaDoorApp
namespace Go.Proofs.YtijinpnbhnfiiaaDoor
open Go.RowKit
set_option linter.unusedVariables false

def partsF (t : ByteArray) : Nat → Nat → List UInt8 → Option (List UInt8)
  | 0, _, l => some l
  | k + 1, p, l => if p < t.size then (if sig t p = 34 ∨ sig t p = 10 then none else if sig t p = 92 then
      (match strokeP t (p + wid t p) l with
      | some (r, m) => partsF t k r m
      | none => none) else partsF t k (p + wid t p) (l ++ Lib.encodeRune (sig t p))) else some l
/-- What a text with strokes means. -/
def partsP (t : ByteArray) : Option ByteArray := (partsF t t.size 0 []).map fun l => ⟨l.toArray⟩

theorem encodeRune_le (c : Int) : 1 ≤ (Lib.encodeRune c).length ∧ (Lib.encodeRune c).length ≤ 4 := by
  have := Lib.runeCells_le c
  rwa [Lib.runeCells_length] at this

theorem digitsP_pos {t : ByteArray} {p count base : Nat} {ahead n : Int} {r : Nat} (h : digitsP t p count base ahead = some (n, r)) : r = p + count ∧ r ≤ t.size := by
  unfold digitsP at h
  split at h
  · rename_i hle
    split at h
    · cases h
      exact ⟨rfl, hle⟩
    · cases h
  · cases h

theorem strokeP_bounds {t : ByteArray} {p : Nat} {l m : List UInt8} {r : Nat} (h : strokeP t p l = some (r, m)) : p < r ∧ r ≤ t.size ∧ m.length ≤ l.length + 4 := by
  unfold strokeP at h
  cases hs : signP t p with
  | none => rw [hs] at h; cases h
  | some cq =>
    obtain ⟨c, q⟩ := cq
    rw [hs] at h
    have hq : p < q ∧ q ≤ t.size := by
      unfold signP at hs
      split at hs
      · rename_i hlt
        cases hs
        exact ⟨by have := wid_pos t p; omega, wid_le t p hlt⟩
      · cases hs
    have h : strokeB t c q l = some (r, m) := h
    unfold strokeB at h
    split at h
    · cases h
      simp
      omega
    · have hB : ∀ cnt base ah, byteP (digitsP t q cnt base ah) l = some (r, m) → p < r ∧ r ≤ t.size ∧ m.length ≤ l.length + 4 := by
        intro cnt base ah h
        unfold byteP at h
        split at h
        · rename_i n q2 hd
          have := digitsP_pos hd
          cases h
          simp
          omega
        · cases h
      have hR : ∀ cnt base ah, runeP (digitsP t q cnt base ah) l = some (r, m) → p < r ∧ r ≤ t.size ∧ m.length ≤ l.length + 4 := by
        intro cnt base ah h
        unfold runeP at h
        split at h
        · rename_i n q2 hd
          have := digitsP_pos hd
          split at h
          · rename_i c2 _
            have := encodeRune_le c2
            cases h
            simp
            omega
          · cases h
        · cases h
      have hO : ∀ cnt base ah, octalP (digitsP t q cnt base ah) l = some (r, m) → p < r ∧ r ≤ t.size ∧ m.length ≤ l.length + 4 := by
        intro cnt base ah h
        unfold octalP at h
        split at h
        · rename_i n q2 hd
          have := digitsP_pos hd
          split at h
          · cases h
            simp
            omega
          · cases h
        · cases h
      split at h
      · exact hB _ _ _ h
      · split at h
        · exact hR _ _ _ h
        · split at h
          · exact hR _ _ _ h
          · split at h
            · exact hO _ _ _ h
            · cases h

theorem told_text {w : World} {B : Nat} {l : List UInt8} {v : Value} (h : w.ownsRow B 5 1 v l.length (Lib.byteCells l)) : ∃ a cap, v = .slice a (⟨l.toArray⟩ : ByteArray).size cap ∧ Text w a ⟨l.toArray⟩ := by
  have e : Lib.byteCells l = byteCells (⟨l.toArray⟩ : ByteArray) := by simp [Lib.byteCells, byteCells]
  have z : (⟨l.toArray⟩ : ByteArray).size = l.length := by rw [ByteArray.size]; simp
  rw [e, ← z] at h
  obtain ⟨a, cap, rfl, ht, _⟩ := copied h
  exact ⟨a, cap, rfl, ht⟩

/-- How much of the text the reader has still to read. -/
def restOf (w : World) (b : Nat) : Nat := match w.cell? ⟨b, 0, none⟩ with
  | some (.string x) => x.size
  | _ => 0
theorem restOf_rd {w : World} {b : Nat} {mv : Value} {t : ByteArray} {p : Nat} {l : List UInt8} {tv : Value} (h : Rd w b mv t p l tv) : restOf w b = t.size - p := by
  unfold restOf
  rw [h.cells.1]
  show (t.extract p t.size).size = _
  rw [ByteArray.size_extract]
  omega

theorem empty_rest (t : ByteArray) (p : Nat) (h : p ≤ t.size) : (t.extract p t.size).toList.isEmpty = decide (t.size ≤ p) := by
  have e := empty_list (t.extract p t.size)
  have hz : (t.extract p t.size).size = t.size - p := by rw [ByteArray.size_extract]; omega
  rw [hz] at e
  rw [show (t.extract p t.size).toList.isEmpty = ((t.extract p t.size).toList == []) from by cases (t.extract p t.size).toList <;> rfl, e]
  exact decide_eq_decide.2 (by omega)
def PartsEnds (w : World) (r : Option ByteArray) (e : Ending) (w' : World) : Prop := Below w.heap.size w w' ∧ match r with
  | some s => e = .returned (.string s)
  | none => e = wrongE

set_option maxHeartbeats 2000000 in
set_option maxRecDepth 100000 in
theorem parts_any (t : ByteArray) (w : World) (hT : Tabs w) (ht : t.size ≤ 65536) :
    Calls Tryd.prog 36 #[.string t] w fun e w' => PartsEnds w (partsP t) e w' := by
  have HS := Lib.hid (strokes_any w)
  have HP : Hid (partsP t = (partsF t t.size 0 []).map fun l => ⟨l.toArray⟩) := rfl
  have HT := Lib.hid hT
  clear hT
  generalize hres : partsF t t.size 0 [] = res at *
  have HRES := Lib.hid hres
  clear hres
  go_enter Tryd.func36, Tryd.ntmps36
  go_wp2_with fail
  refine HS.out.mono ?_
  rintro e w1 ⟨rfl, hm, hb1⟩
  have HM := Lib.hid hm
  have HB1 := Lib.hid hb1
  clear HS hm hb1
  go_wp2_with fail
  have hfx : Hid (Rd (w1.alloc (.cells #[.string t, .map (some w.heap.size), .slice none 0 0] 84)) w1.heap.size (.map (some w.heap.size)) t 0 [] (.slice none 0 0)) := by
    refine ⟨?_, World.ownsRow_nil _ _ _ _⟩
    rw [extract_whole]
    exact heap_alloc_new _ _
  have hmx : Hid (MapAt (w1.alloc (.cells #[.string t, .map (some w.heap.size), .slice none 0 0] 84)) w.heap.size strokeL) := by
    have h : Below w1.heap.size w1 (w1.alloc (.cells #[.string t, .map (some w.heap.size), .slice none 0 0] 84)) := (Below.refl _ _).alloc (Nat.le_refl _) _
    exact (h.block _ (lt_of_block HM.out)).trans HM.out
  have hbx := Lib.hid (HB1.out.alloc HB1.out.size (.cells #[.string t, .map (some w.heap.size), .slice none 0 0] 84))
  have hmb : w.heap.size < w1.heap.size := lt_of_block HM.out
  clear HM HB1
  generalize w1.alloc (.cells #[.string t, .map (some w.heap.size), .slice none 0 0] 84) = W0 at *
  obtain ⟨b, hb⟩ : ∃ b, b = w1.heap.size := ⟨_, rfl⟩
  obtain ⟨mb, hme⟩ : ∃ mb, mb = w.heap.size := ⟨_, rfl⟩
  rw [← hb, ← hme] at hfx ⊢
  rw [← hb, ← hme] at hmb
  rw [← hme] at hmx
  have HMB := Lib.hid hme
  have hmw : w.heap.size ≤ b := by omega
  clear hb hme
  go_loopw [4] (fun _ wr => ∃ (p k : Nat) (l : List UInt8) (tv : Value), Hid (Rd wr b (.map (some mb)) t p l tv) ∧ p ≤ t.size ∧ t.size ≤ p + k ∧ l.length ≤ 4 * p ∧ Hid (Below w.heap.size w wr) ∧ Hid (MapAt wr mb strokeL) ∧ Hid (partsF t k p l = res)) (fun _ wr => restOf wr b)
  case atStart => exact ⟨0, t.size, [], _, hfx, Nat.zero_le _, by omega, by simp, hbx, hmx, HRES⟩
  case round =>
    obtain ⟨p, k, l, tv, HR, hp, hk, hl, HB, HM, HE⟩ := hrel
    clear hfx hmx hbx HRES
    have hbw : b < wr.heap.size := HR.out.lt
    have her := empty_rest t p hp
    have HRO := Lib.hid (restOf_rd HR.out)
    obtain ⟨c0, c1, c2, kb⟩ := HR.out.cells
    by_cases hlt : p < t.size
    · rw [decide_eq_false (by omega)] at her
      obtain ⟨k, rfl⟩ : ∃ k', k = k' + 1 := ⟨k - 1, by omega⟩
      have HE2 : Hid ((if sig t p = 34 ∨ sig t p = 10 then none else if sig t p = 92 then
          (match strokeP t (p + wid t p) l with
          | some (r, m) => partsF t k r m
          | none => none) else partsF t k (p + wid t p) (l ++ Lib.encodeRune (sig t p))) = res) := by
        show _ = _
        have e := HE.out
        rw [partsF, if_pos hlt] at e
        exact e
      have hs := sign_any wr b _ t p l tv HR.out (HT.out.below HB.out) hp (by omega)
      rw [show signP t p = some (sig t p, p + wid t p) from by unfold signP; rw [if_pos hlt]] at hs
      have HS := Lib.hid hs
      have hwd := wid_pos t p
      have hwl := wid_le t p hlt
      have hsl := sig_le t p
      clear hs HE
      generalize sig t p = c at *
      generalize wid t p = wd at *
      go_wp2_with fail
      refine HS.out.mono ?_
      rintro e w2 ⟨hb2, rfl, hR2⟩
      have HR2 := Lib.hid hR2
      have HB2 := Lib.hid (HB.out.trans (hb2.mono (by omega)))
      have HM2 : Hid (MapAt w2 mb strokeL) := (hb2.block mb (by omega)).trans HM.out
      clear hb2 hR2 HS HB HM HR c0 c1 c2 kb her
      by_cases h34 : c = 34
      · have g34 : (((c : Nat) : Int) == 34) = true := beq_iff_eq.2 (by omega)
        have gn34 : (((c : Nat) : Int) != 34) = false := by rw [bne, g34]; rfl
        have HE3 : Hid (none = res) := by show _ = _; rw [← HE2.out, if_pos (.inl h34)]
        clear HE2 h34
        go_wp2_with fail
        refine (must_f w2).mono ?_
        rintro e w3 ⟨rfl, rfl⟩
        refine ⟨rfl, HB2.out, ?_⟩
        rw [HP.out, ← HE3.out]
        rfl
      have g34 : (((c : Nat) : Int) == 34) = false := beq_eq_false_iff_ne.2 (by omega)
      have gn34 : (((c : Nat) : Int) != 34) = true := by rw [bne, g34]; rfl
      by_cases h10 : c = 10
      · have g10 : (((c : Nat) : Int) == 10) = true := beq_iff_eq.2 (by omega)
        have gn10 : (((c : Nat) : Int) != 10) = false := by rw [bne, g10]; rfl
        have HE3 : Hid (none = res) := by show _ = _; rw [← HE2.out, if_pos (.inr h10)]
        clear HE2 h10
        go_wp2_with fail
        refine (must_f w2).mono ?_
        rintro e w3 ⟨rfl, rfl⟩
        refine ⟨rfl, HB2.out, ?_⟩
        rw [HP.out, ← HE3.out]
        rfl
      have g10 : (((c : Nat) : Int) == 10) = false := beq_eq_false_iff_ne.2 (by omega)
      have gn10 : (((c : Nat) : Int) != 10) = true := by rw [bne, g10]; rfl
      by_cases h92 : c = 92
      · have g92 : (((c : Nat) : Int) == 92) = true := beq_iff_eq.2 (by omega)
        have HE3 : Hid ((match strokeP t (p + wd) l with
          | some (r, m) => partsF t k r m
          | none => none) = res) := by show _ = _; rw [← HE2.out, if_neg (by omega), if_pos h92]
        have hsb : Hid (∀ r m, strokeP t (p + wd) l = some (r, m) → p + wd < r ∧ r ≤ t.size ∧ m.length ≤ l.length + 4) := fun r m h => strokeP_bounds h
        have HST := Lib.hid (stroke_any w2 b mb t (p + wd) l tv HR2.out hmb HM2.out (HT.out.below HB2.out) hwl (by omega) (by omega))
        clear HE2 h92
        generalize strokeP t (p + wd) l = sp at *
        go_wp2_with fail
        refine (must_t w2).mono ?_
        rintro e w3 ⟨rfl, rfl⟩
        go_wp2_with fail
        refine HST.out.mono ?_
        rintro e w4 ⟨hb4, hE⟩
        have HB4 := Lib.hid (HB2.out.trans (hb4.mono hmw))
        have HM4 : Hid (MapAt w4 mb strokeL) := (hb4.block mb hmb).trans HM2.out
        clear hb4 HB2 HM2 HST
        cases sp with
        | none =>
          have he : e = .panicked [{ v := .iface 59 (.agg #[]), recovered := false }] := hE
          subst he
          have HE4 : Hid (none = res) := HE3.out
          refine ⟨rfl, HB4.out, ?_⟩
          rw [HP.out, ← HE4.out]
          rfl
        | some rm =>
          obtain ⟨r, m⟩ := rm
          obtain ⟨rfl, tv4, hR4⟩ := hE
          obtain ⟨hr, hrt, hml⟩ := hsb.out r m rfl
          have HR4 := Lib.hid hR4
          have HE4 : Hid (partsF t k r m = res) := HE3.out
          have hm4 := restOf_rd hR4
          clear hR4 hsb HE3
          go_wp2
          go_roundw
          case rel => exact ⟨r, k, m, tv4, HR4.out, hrt, by omega, by omega, HB4.out, HM4.out, HE4.out⟩
          case measure => rw [hm4, HRO.out]; omega
      · have g92 : (((c : Nat) : Int) == 92) = false := beq_eq_false_iff_ne.2 (by omega)
        have HE3 : Hid (partsF t k (p + wd) (l ++ Lib.encodeRune c) = res) := by show _ = _; rw [← HE2.out, if_neg (by omega), if_neg h92]
        obtain ⟨c0, c1, c2, kb⟩ := HR2.out.cells
        have hsz : b + 1 ≤ w2.heap.size := HR2.out.lt
        have hel := (encodeRune_le c).2
        clear HE2 h92
        go_wp2_with fail
        refine (must_t w2).mono ?_
        rintro e w3 ⟨rfl, rfl⟩
        go_wp2_with fail
        refine (Tryd.utf8_AppendRune_plain (b + 1) tv l.length (Lib.byteCells l) c (by omega) (by omega) _ HR2.out.row (by omega) hsz).mono ?_
        rintro e w7 ⟨v1, rfl, hown1, o1, hgr1⟩
        rw [← Lib.byteCells_encodeRune, Lib.byteCells_length] at hown1
        obtain ⟨e1, hR3, hB3⟩ := HR2.out.told hgr1 hown1
        obtain ⟨d0, d1, d2, kd⟩ := box_cells (e1.trans HR2.out.box)
        have HR3 := Lib.hid hR3
        have HB3 := Lib.hid (HB2.out.trans (hB3.mono hmw))
        have HM3 : Hid (MapAt (w7.setCell ⟨b, 2, none⟩ v1) mb strokeL) := (hB3.block mb hmb).trans HM2.out
        have hm3 := Lib.hid (restOf_rd hR3)
        obtain ⟨ao, n', cap, rfl⟩ := row_form hown1
        clear hR3 hB3 hown1 hgr1 e1 HR2 HB2 HM2
        go_wp2
        go_roundw
        case rel => exact ⟨p + wd, k, _, _, HR3.out, hwl, by omega, by rw [List.length_append]; omega, HB3.out, HM3.out, HE3.out⟩
        case measure => rw [hm3.out, HRO.out]; omega
    · rw [decide_eq_true (by omega)] at her
      have HE3 : Hid (some l = res) := by
        show _ = _
        rw [← HE.out]
        cases k with
        | zero => rfl
        | succ k => rw [partsF, if_neg hlt]
      obtain ⟨a, cap, rfl, htx⟩ := told_text HR.out.row
      have kc := htx.conv cap
      rw [show (⟨l.toArray⟩ : ByteArray).size = l.length from by rw [ByteArray.size]; simp] at kc
      clear HE htx
      go_wp2
      go_ret
      refine ⟨HB.out, ?_⟩
      rw [HP.out, ← HE3.out]
      rfl
end Go.Proofs.YtijinpnbhnfiiaaDoor
