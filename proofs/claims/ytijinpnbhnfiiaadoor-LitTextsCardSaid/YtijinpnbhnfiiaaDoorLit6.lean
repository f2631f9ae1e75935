/- package lit: number. -/
import Derived.Test.YtijinpnbhnfiiaaDoorLit5
import Derived.Lib.OthersKept
namespace Go.Proofs.YtijinpnbhnfiiaaDoor
open Go.RowKit
set_option linter.unusedVariables false

/-- What a part of the call ends with: a text, or wrong. -/
def told? (r : Option ByteArray) : Ending := match r with
  | some t => .returned (.string t)
  | none => .panicked [{ v := .iface 59 (.agg #[]), recovered := false }]
def Tells (w : World) (r : Option ByteArray) (e : Ending) (w' : World) : Prop := e = told? r ∧ Below w.heap.size w w'

/-- The figures of digits, from p on, behind the sign a. -/
def numF (d : ByteArray) (base : Nat) : Nat → Nat → Int → List Nat → Option (Int × List Nat)
  | 0, _, a, l => some (a, l)
  | k + 1, p, a, l => if p < d.size then
      (if (sig d p : Int) = 95 then (if a = 95 then none else numF d base k (p + wid d p) 95 l)
      else if digW (sig d p) base < base then numF d base k (p + wid d p) (sig d p) (growN base l (digW (sig d p) base).toNat) else none)
    else some (a, l)
def numberE (d : ByteArray) : Option (Int × List Nat) → Option ByteArray
  | none => none
  | some (a, l) => if d.size = 0 ∨ a = 95 then none else some (writtenB l)
/-- A number's value. -/
def numberP (s : ByteArray) : Option ByteArray :=
  numberE (s.extract (splitN s).2 s.size) (numF (s.extract (splitN s).2 s.size) (splitN s).1 (s.extract (splitN s).2 s.size).size 0 (if (splitN s).1 = 10 then 95 else 48) [])

theorem splitN_base (s : ByteArray) : (splitN s).1 = 10 ∨ (splitN s).1 = 16 ∨ (splitN s).1 = 2 ∨ (splitN s).1 = 8 := by
  unfold splitN
  repeat' split
  all_goals simp

theorem Figs.iterAt {w : World} {B : Nat} {v : Value} {l : List Nat} {R : Nat} {s : ByteArray} {q : Nat} (h : Figs w B v l) (hR : R < B) : Figs (w.iterAt R s q) B v l := by
  refine ⟨h.1, ?_⟩
  rcases h.2 with h' | ⟨g, cap, cur, hv, hB, hg, r⟩
  · exact .inl h'
  · exact .inr ⟨g, cap, cur, hv, hB, (Lib.iterAt_other w R g s q (by omega)).trans hg, r⟩

theorem empty_list (s : ByteArray) : (s.toList == []) = decide (s.size = 0) := by
  have : s.toList.length = s.size := by rw [ByteArray.toList_eq]; rfl
  cases e : s.toList with
  | nil => rw [e] at this; rw [decide_eq_true (show s.size = 0 by simpa using this.symm)]; rfl
  | cons x l => rw [e] at this; rw [decide_eq_false (by simp at this; omega)]; rfl

set_option maxHeartbeats 4000000 in
set_option maxRecDepth 100000 in
theorem number_any (s : ByteArray) (hs : s.size ≤ 1000) (w : World) : Calls Tryd.prog 18 #[.string s] w fun e w' => Tells w (numberP s) e w' := by
  have HN : Hid (numberP s = numberE (s.extract (splitN s).2 s.size) (numF (s.extract (splitN s).2 s.size) (splitN s).1 (s.extract (splitN s).2 s.size).size 0 (if (splitN s).1 = 10 then 95 else 48) [])) := rfl
  have hspl := split_any s w
  have hbs := splitN_base s
  have hdz : (s.extract (splitN s).2 s.size).size ≤ 1000 := by rw [ByteArray.size_extract]; omega
  unfold SplitEnds at hspl
  generalize (splitN s).1 = base at *
  generalize s.extract (splitN s).2 s.size = d at *
  have HS := Lib.hid hspl
  have HBS := Lib.hid hbs
  have hb16 : base ≤ 16 := by omega
  clear hspl hbs
  go_enter Tryd.func18, Tryd.ntmps18
  go_wp2_with fail
  refine HS.out.mono ?_
  rintro e w1 ⟨rfl, hb1⟩
  have HB1 := Lib.hid hb1
  clear hb1 HS
  obtain ⟨a0, ha0, hab⟩ : ∃ a0 : Int, a0 = (if base = 10 then 95 else 48) ∧ (a0 = 95 ∨ a0 = 48) := ⟨_, rfl, by split <;> simp⟩
  rw [← ha0] at HN
  generalize hres : numF d base d.size 0 a0 [] = res at *
  have HRES := Lib.hid hres
  clear hres
  have hc : ((((base : Nat) : Int) == 10) = true ∧ a0 = 95) ∨ ((((base : Nat) : Int) == 10) = false ∧ a0 = 48) := by
    by_cases h10 : base = 10
    · exact .inl ⟨beq_iff_eq.2 (by omega), by rw [ha0, if_pos h10]⟩
    · exact .inr ⟨beq_eq_false_iff_ne.2 (by omega), by rw [ha0, if_neg h10]⟩
  clear ha0 hab
  rcases hc with ⟨g10, rfl⟩ | ⟨g10, rfl⟩
  all_goals
    go_wp2
    go_loopw [5, 6] (fun av fv wr => ∃ (a : Int) (l : List Nat) (p k : Nat), av = .int .i32 a ∧ -2147483648 ≤ a ∧ a ≤ 2147483647 ∧ wr.heap[w1.heap.size]? = some (.stringIter d p) ∧ w1.heap.size + 1 ≤ wr.heap.size ∧ p ≤ d.size ∧ d.size ≤ p + k ∧ l.length ≤ 3 * p ∧ Hid (∀ x ∈ l, x < 10) ∧ Hid (Figs wr (w1.heap.size + 1) fv l) ∧ Hid (Below w.heap.size w wr) ∧ Hid (numF d base k p a l = res)) (fun _ _ wr => d.size - wr.iterPos w1.heap.size)
    case atStart =>
      refine ⟨_, [], 0, d.size, rfl, by decide, by decide, World.iter_heap w1 d 0, by simp [World.iter], Nat.zero_le _, by omega, by simp, (fun _ h => by cases h), World.ownsRow_nil _ _ _ _, ?_, HRES⟩
      exact HB1.out.alloc HB1.out.size _
    case round =>
      obtain ⟨a, l, p, k, rfl, ha0, ha1, hit, hsz, hp, hk, hll, HL, HF, HB, HR⟩ := hrel
      have hsw := HB1.out.size
      have hpos0 := iterPos_of hit
      by_cases hlt : p < d.size
      · have hnx : ∀ ty, (Instr.next (.pointer (some ⟨w1.heap.size, 0, none⟩)) true ty).run Tryd.prog wr = _ := fun ty => Lib.run_next_any_at wr w1.heap.size d p ty hit hlt
        have hit2 := Lib.iterAt_heap wr w1.heap.size d p (p + (Utf8.decode d p).2) hit
        have hsz1 := Lib.iterAt_size wr w1.heap.size d (p + (Utf8.decode d p).2)
        have HF1 := Lib.hid (HF.out.iterAt (R := w1.heap.size) (s := d) (q := p + (Utf8.decode d p).2) (Nat.lt_succ_self _))
        have HB2 := Lib.hid (Lib.below_iterAt HB.out (k := w1.heap.size) hsw d (p + (Utf8.decode d p).2))
        have hwd := wid_pos d p
        have hwl := wid_le d p hlt
        have hsl := sig_le d p
        obtain ⟨k, rfl⟩ : ∃ k', k = k' + 1 := ⟨k - 1, by omega⟩
        have HR2 : Hid ((if (sig d p : Int) = 95 then (if a = 95 then none else numF d base k (p + wid d p) 95 l)
            else if digW (sig d p) base < base then numF d base k (p + wid d p) (sig d p) (growN base l (digW (sig d p) base).toNat) else none) = res) := by
          show _ = _
          have e := HR.out
          rw [numF, if_pos hlt] at e
          exact e
        have hqs : (Utf8.decode d p).1 = sig d p := rfl
        have hqw : (Utf8.decode d p).2 = wid d p := rfl
        rw [hqs, hqw] at hnx
        rw [hqw] at hit2 hsz1 HF1 HB2
        clear hqs hqw HR HF HB hit
        generalize wr.iterAt w1.heap.size d (p + wid d p) = W1 at *
        generalize sig d p = c at *
        generalize wid d p = wd at *
        by_cases hc : c = 95
        · subst hc
          by_cases ha : a = 95
          · subst ha
            have HE : Hid (none = res) := by
              show _ = _
              rw [← HR2.out, if_pos (show ((95 : Nat) : Int) = 95 from rfl), if_pos rfl]
            clear HR2
            go_wp2_with fail
            refine (must_f W1).mono ?_
            rintro e w5 ⟨rfl, rfl⟩
            refine ⟨rfl, ?_, HB2.out⟩
            rw [HN.out, ← HE.out]
            rfl
          · have gn : (a == 95) = false := beq_eq_false_iff_ne.2 ha
            have gn2 : (a != 95) = true := by rw [bne, gn]; rfl
            have HE : Hid (numF d base k (p + wd) 95 l = res) := by
              show _ = _
              rw [← HR2.out, if_pos (show ((95 : Nat) : Int) = 95 from rfl), if_neg ha]
            clear HR2
            go_wp2_with fail
            refine (must_t W1).mono ?_
            rintro e w5 ⟨rfl, rfl⟩
            go_wp2
            go_roundw
            case rel => exact ⟨95, l, p + wd, k, rfl, by decide, by decide, hit2, by omega, hwl, by omega, by omega, HL.out, HF1.out, HB2.out, HE.out⟩
            case measure => rw [iterPos_of hit2, hpos0]; omega
        · have gc : (((c : Nat) : Int) == 95) = false := beq_eq_false_iff_ne.2 (by omega)
          have gc2 : (((c : Nat) : Int) != 95) = true := by rw [bne, gc]; rfl
          have hdb := digW_bounds c base (by omega) (by omega)
          go_wp2_with fail
          refine (must_t W1).mono ?_
          rintro e w5 ⟨rfl, rfl⟩
          go_wp2_with fail
          refine (digit_any c base W1 (by omega) (by omega) (by omega) (by omega)).mono ?_
          rintro e w5 ⟨rfl, rfl⟩
          by_cases hd : digW c base < base
          · rw [decide_eq_true hd, orWrong_t]
            obtain ⟨dn, hdn⟩ : ∃ n : Nat, digW c base = n := ⟨(digW c base).toNat, by omega⟩
            have HE : Hid (numF d base k (p + wd) c (growN base l dn) = res) := by
              show _ = _
              rw [← HR2.out, if_neg (by omega), if_pos hd, hdn]
              rfl
            rw [hdn] at hd ⊢
            clear HR2 hdn hdb
            have hgl := growN_len base hb16 l dn (by omega) HL.out
            have hgd := growN_lt base l dn
            have hgr := grown_any (w1.heap.size + 1) _ l base dn W1 HF1.out (by omega) hb16 (by omega) HL.out (by omega)
            have HGR := Lib.hid hgr
            have HGD := Lib.hid hgd
            clear hgr hgd
            go_wp2_with fail
            refine HGR.out.mono ?_
            rintro e w5 ⟨v', rfl, hf5, hb5⟩
            have hit5 : w5.heap[w1.heap.size]? = some (.stringIter d (p + wd)) := (hb5.block _ (Nat.lt_succ_self _)).trans hit2
            have HF5 := Lib.hid hf5
            have HB5 := Lib.hid (HB2.out.trans (hb5.mono (by omega)))
            have hs5 := hb5.size
            clear hf5 hb5 HGR hit2
            go_wp2
            go_roundw
            case rel => exact ⟨c, _, p + wd, k, rfl, by omega, by omega, hit5, by omega, hwl, by omega, by omega, HGD.out, HF5.out, HB5.out, HE.out⟩
            case measure => rw [iterPos_of hit5, hpos0]; omega
          · rw [decide_eq_false hd, orWrong_f]
            have HE : Hid (none = res) := by
              show _ = _
              rw [← HR2.out, if_neg (by omega), if_neg hd]
            clear HR2 hdb
            refine ⟨rfl, ?_, HB2.out⟩
            rw [HN.out, ← HE.out]
            rfl
      · have hnx : ∀ ty, (Instr.next (.pointer (some ⟨w1.heap.size, 0, none⟩)) true ty).run Tryd.prog wr = _ := fun ty => Lib.run_next_end_at wr w1.heap.size d p ty hit hlt
        have HE : Hid (some (a, l) = res) := by
          show _ = _
          rw [← HR.out]
          cases k with
          | zero => rfl
          | succ k => rw [numF, if_neg hlt]
        clear HR
        have HN2 : Hid (numberP s = if d.size = 0 ∨ a = 95 then none else some (writtenB l)) := by
          show _ = _
          rw [HN.out, ← HE.out]
          rfl
        have hl2 := empty_list d
        by_cases hz : d.size = 0
        · rw [decide_eq_true hz] at hl2
          have HN3 : Hid (numberP s = none) := by
            show _ = _
            rw [HN2.out, if_pos (.inl hz)]
          clear hz
          go_wp2_with fail
          refine (must_f wr).mono ?_
          rintro e w5 ⟨rfl, rfl⟩
          refine ⟨rfl, ?_, HB.out⟩
          rw [HN3.out]
          rfl
        · rw [decide_eq_false hz] at hl2
          by_cases ha : a = 95
          · subst ha
            have HN3 : Hid (numberP s = none) := by
              show _ = _
              rw [HN2.out, if_pos (.inr rfl)]
            go_wp2_with fail
            refine (must_f wr).mono ?_
            rintro e w5 ⟨rfl, rfl⟩
            refine ⟨rfl, ?_, HB.out⟩
            rw [HN3.out]
            rfl
          · have HN3 : Hid (numberP s = some (writtenB l)) := by
              show _ = _
              rw [HN2.out, if_neg (by omega)]
            have gn : (a == 95) = false := beq_eq_false_iff_ne.2 ha
            have gn2 : (a != 95) = true := by rw [bne, gn]; rfl
            go_wp2_with fail
            refine (must_t wr).mono ?_
            rintro e w5 ⟨rfl, rfl⟩
            go_wp2_with fail
            refine (written_any _ _ l wr HF.out HL.out (by omega)).mono ?_
            rintro e w5 ⟨rfl, hb5⟩
            have HB5 := Lib.hid (HB.out.trans (hb5.mono HB.out.size))
            clear hb5
            go_wp2
            go_ret
            refine ⟨?_, HB5.out⟩
            rw [HN3.out]
            rfl
end Go.Proofs.YtijinpnbhnfiiaaDoor
