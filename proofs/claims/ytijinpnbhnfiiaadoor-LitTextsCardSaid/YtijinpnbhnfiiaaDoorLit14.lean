/- package lit: raw: a text between backquotes. -/
import Derived.Test.YtijinpnbhnfiiaaDoorLit13
namespace Go.Proofs.YtijinpnbhnfiiaaDoor
open Go.RowKit
set_option linter.unusedVariables false

def rawF (t : ByteArray) : Nat → Nat → List UInt8 → Option (List UInt8)
  | 0, _, l => some l
  | k + 1, p, l => if p < t.size then (if sig t p = 96 then none else if sig t p = 13 then rawF t k (p + wid t p) l else rawF t k (p + wid t p) (l ++ Lib.encodeRune (sig t p))) else some l
/-- What a raw text means. -/
def rawP (t : ByteArray) : Option ByteArray := (rawF t t.size 0 []).map fun l => ⟨l.toArray⟩

theorem Bx.iterAt {w : World} {b B : Nat} {l : List UInt8} (h : Bx w b B l) {R : Nat} {s : ByteArray} {q : Nat} (hR : R ≠ b) (hRB : R < B) : Bx (w.iterAt R s q) b B l := by
  obtain ⟨u, v, hu, hbk, hr⟩ := h
  refine ⟨u, v, hu, (Lib.iterAt_other w R b s q hR.symm).trans hbk, hr.1, ?_⟩
  rcases hr.2 with h' | ⟨g, cap, cur, hv, hB, hg, r⟩
  · exact .inl h'
  · exact .inr ⟨g, cap, cur, hv, hB, (Lib.iterAt_other w R g s q (by omega)).trans hg, r⟩

set_option maxHeartbeats 2000000 in
set_option maxRecDepth 100000 in
theorem raw_any (t : ByteArray) (w : World) (ht : t.size ≤ 65536) :
    Calls Tryd.prog 37 #[.string t] w fun e w' => PartsEnds w (rawP t) e w' := by
  have HP : Hid (rawP t = (rawF t t.size 0 []).map fun l => ⟨l.toArray⟩) := rfl
  generalize hres : rawF t t.size 0 [] = res at *
  have HRES := Lib.hid hres
  clear hres
  go_enter Tryd.func37, Tryd.ntmps37
  go_wp2
  have h1 : (w.alloc (.cells #[.pointer none, .slice none 0 0] 46)).heap[w.heap.size]? = some (.cells #[.pointer none, .slice none 0 0] 46 (0, 0)) := heap_alloc_new _ _
  have hz : (w.alloc (.cells #[.pointer none, .slice none 0 0] 46)).heap.size = w.heap.size + 1 := by simp
  have hB0 : Below w.heap.size w (w.alloc (.cells #[.pointer none, .slice none 0 0] 46)) := (Below.refl _ _).alloc (Nat.le_refl _) _
  generalize w.alloc (.cells #[.pointer none, .slice none 0 0] 46) = W0 at *
  have hB1 := Lib.hid (hB0.alloc (by omega) (.stringIter t 0))
  have hi0 : (W0.iter t 0).heap[w.heap.size + 1]? = some (.stringIter t 0) := by rw [← hz]; exact World.iter_heap W0 t 0
  have hi1 : (W0.iter t 0).heap.size = w.heap.size + 2 := by simp [World.iter, hz]
  have hX : Hid (Bx (W0.iter t 0) w.heap.size (w.heap.size + 2) []) := ⟨_, _, .inl rfl, (Below.heap_alloc W0 _ _ (by omega)).trans h1, World.ownsRow_nil _ _ _ _⟩
  have hB2 : Hid (Below w.heap.size w (W0.iter t 0)) := hB1.out
  clear h1 hz hB0 hB1
  generalize W0.iter t 0 = W1 at *
  go_loopw [5] (fun _ wr => ∃ (p k : Nat) (l : List UInt8), wr.heap[w.heap.size + 1]? = some (.stringIter t p) ∧ p ≤ t.size ∧ t.size ≤ p + k ∧ l.length ≤ 4 * p ∧ Hid (Bx wr w.heap.size (w.heap.size + 2) l) ∧ Hid (Below w.heap.size w wr) ∧ w.heap.size + 2 ≤ wr.heap.size ∧ Hid (rawF t k p l = res)) (fun _ wr => t.size - wr.iterPos (w.heap.size + 1))
  case atStart => exact ⟨0, t.size, [], hi0, Nat.zero_le _, by omega, by simp, hX, hB2, by omega, HRES⟩
  case round =>
    obtain ⟨p, k, l, hit, hp, hk, hl, HX, HB, hsz, HE⟩ := hrel
    clear hi0 hi1 hX hB2 HRES
    have hpos0 := iterPos_of hit
    by_cases hlt : p < t.size
    · have hnx : ∀ ty, (Instr.next (.pointer (some ⟨w.heap.size + 1, 0, none⟩)) true ty).run Tryd.prog wr = _ := fun ty => Lib.run_next_any_at wr (w.heap.size + 1) t p ty hit hlt
      have hit2 := Lib.iterAt_heap wr (w.heap.size + 1) t p (p + (Utf8.decode t p).2) hit
      have hsz1 := Lib.iterAt_size wr (w.heap.size + 1) t (p + (Utf8.decode t p).2)
      have HX1 := Lib.hid (HX.out.iterAt (R := w.heap.size + 1) (s := t) (q := p + (Utf8.decode t p).2) (by omega) (by omega))
      have HB1 := Lib.hid (Lib.below_iterAt HB.out (k := w.heap.size + 1) (by omega) t (p + (Utf8.decode t p).2))
      have hwd := wid_pos t p
      have hwl := wid_le t p hlt
      have hsl := sig_le t p
      obtain ⟨k, rfl⟩ : ∃ k', k = k' + 1 := ⟨k - 1, by omega⟩
      have HE2 : Hid ((if sig t p = 96 then none else if sig t p = 13 then rawF t k (p + wid t p) l else rawF t k (p + wid t p) (l ++ Lib.encodeRune (sig t p))) = res) := by
        show _ = _
        have e := HE.out
        rw [rawF, if_pos hlt] at e
        exact e
      have hqs : (Utf8.decode t p).1 = sig t p := rfl
      have hqw : (Utf8.decode t p).2 = wid t p := rfl
      rw [hqs, hqw] at hnx
      rw [hqw] at hit2 hsz1 HX1 HB1
      clear hqs hqw HE HX HB hit
      generalize wr.iterAt (w.heap.size + 1) t (p + wid t p) = W2 at *
      generalize sig t p = c at *
      generalize wid t p = wd at *
      by_cases h96 : c = 96
      · have g96 : (((c : Nat) : Int) == 96) = true := beq_iff_eq.2 (by omega)
        have gn96 : (((c : Nat) : Int) != 96) = false := by rw [bne, g96]; rfl
        have HE3 : Hid (none = res) := by show _ = _; rw [← HE2.out, if_pos h96]
        clear HE2 h96
        go_wp2_with fail
        refine (must_f W2).mono ?_
        rintro e w3 ⟨rfl, rfl⟩
        refine ⟨rfl, HB1.out, ?_⟩
        rw [HP.out, ← HE3.out]
        rfl
      have g96 : (((c : Nat) : Int) == 96) = false := beq_eq_false_iff_ne.2 (by omega)
      have gn96 : (((c : Nat) : Int) != 96) = true := by rw [bne, g96]; rfl
      by_cases h13 : c = 13
      · have g13 : (((c : Nat) : Int) == 13) = true := beq_iff_eq.2 (by omega)
        have gn13 : (((c : Nat) : Int) != 13) = false := by rw [bne, g13]; rfl
        have HE3 : Hid (rawF t k (p + wd) l = res) := by show _ = _; rw [← HE2.out, if_neg (by omega), if_pos h13]
        clear HE2 h13
        go_wp2_with fail
        refine (must_t W2).mono ?_
        rintro e w3 ⟨rfl, rfl⟩
        go_wp2
        go_roundw
        case rel => exact ⟨p + wd, k, l, hit2, hwl, by omega, by omega, HX1.out, HB1.out, by omega, HE3.out⟩
        case measure => rw [iterPos_of hit2, hpos0]; omega
      · have g13 : (((c : Nat) : Int) == 13) = false := beq_eq_false_iff_ne.2 (by omega)
        have gn13 : (((c : Nat) : Int) != 13) = true := by rw [bne, g13]; rfl
        have HE3 : Hid (rawF t k (p + wd) (l ++ Lib.encodeRune c) = res) := by show _ = _; rw [← HE2.out, if_neg (by omega), if_neg h13]
        have hel := (encodeRune_le c).2
        clear HE2 h13
        go_wp2_with fail
        refine (must_t W2).mono ?_
        rintro e w3 ⟨rfl, rfl⟩
        go_wp2_with fail
        refine (wrune_any W2 w.heap.size (w.heap.size + 2) l c HX1.out (by omega) (by omega) (by omega) (by omega) (by omega)).mono ?_
        rintro e w4 ⟨⟨n, rfl⟩, hx4, hs4⟩
        have hit4 : w4.heap[w.heap.size + 1]? = some (.stringIter t (p + wd)) := (hs4.2 _ (by omega) (by omega)).trans hit2
        have HX4 := Lib.hid hx4
        have HB4 := Lib.hid (HB1.out.trans hs4.1)
        have hsz4 := hs4.1.size
        clear hx4 hs4
        go_wp2
        go_roundw
        case rel => exact ⟨p + wd, k, _, hit4, hwl, by omega, by rw [List.length_append]; omega, HX4.out, HB4.out, by omega, HE3.out⟩
        case measure => rw [iterPos_of hit4, hpos0]; omega
    · have hnx : ∀ ty, (Instr.next (.pointer (some ⟨w.heap.size + 1, 0, none⟩)) true ty).run Tryd.prog wr = _ := fun ty => Lib.run_next_end_at wr (w.heap.size + 1) t p ty hit hlt
      have HE3 : Hid (some l = res) := by
        show _ = _
        rw [← HE.out]
        cases k with
        | zero => rfl
        | succ k => rw [rawF, if_neg hlt]
      clear HE
      go_wp2_with fail
      refine (Tryd.Builder_String_any w.heap.size w.heap.size l wr (HX.out.bld (by omega)) HB.out.size).mono ?_
      rintro e w4 ⟨rfl, hb4⟩
      have HB4 := Lib.hid (HB.out.trans hb4)
      clear hb4
      go_wp2
      go_ret
      refine ⟨HB4.out, ?_⟩
      rw [HP.out, ← HE3.out]
      rfl
end Go.Proofs.YtijinpnbhnfiiaaDoor
