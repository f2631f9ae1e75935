/- package lit: the reader: sign, digits, point. -/
import Derived.Test.YtijinpnbhnfiiaaDoorLit8
import Derived.Test.YtijinpnbhnfiiaaDoorWrongs
import Derived.Lib.RuneBytes
namespace Go.Proofs.YtijinpnbhnfiiaaDoor
open Go.RowKit
set_option linter.unusedVariables false

theorem dropB_ext (t : ByteArray) (p : Nat) : dropB t p = t.extract p t.size := by
  apply ByteArray.ext
  apply Array.ext'
  unfold dropB
  simp
  exact (List.take_of_length_le (by rw [List.length_drop]; exact Nat.le_refl _)).symm

/-- The reader in memory: what is left of t from p on, the map of strokes, what was told. -/
structure Rd (w : World) (b : Nat) (mv : Value) (t : ByteArray) (p : Nat) (l : List UInt8) (tv : Value) : Prop where
  box : w.heap[b]? = some (.cells #[.string (t.extract p t.size), mv, tv] 84 (0, 0))
  row : w.ownsRow (b + 1) 5 1 tv l.length (Lib.byteCells l)

theorem Rd.lt {w : World} {b : Nat} {mv : Value} {t : ByteArray} {p : Nat} {l : List UInt8} {tv : Value} (h : Rd w b mv t p l tv) : b < w.heap.size := lt_of_block h.box
theorem Rd.cells {w : World} {b : Nat} {mv : Value} {t : ByteArray} {p : Nat} {l : List UInt8} {tv : Value} (h : Rd w b mv t p l tv) :
    w.cell? ⟨b, 0, none⟩ = some (.string (t.extract p t.size)) ∧ w.cell? ⟨b, 1, none⟩ = some mv ∧ w.cell? ⟨b, 2, none⟩ = some tv ∧ (∀ o, w.frozen? ⟨b, o, none⟩ = false) := by
  have := h.box
  exact ⟨by simp [World.cell?, this], by simp [World.cell?, this], by simp [World.cell?, this], fun o => by simp [World.frozen?, this]⟩
theorem Rd.below {w W : World} {b : Nat} {mv : Value} {t : ByteArray} {p : Nat} {l : List UInt8} {tv : Value} (h : Rd w b mv t p l tv) (hb : Below w.heap.size w W) : Rd W b mv t p l tv :=
  ⟨(hb.block b h.lt).trans h.box, owns_below h.row hb⟩
theorem owns_set {w : World} {B : Nat} {e : TypeId} {v : Value} {n : Nat} {xs : List Value} (h : w.ownsRow B e 1 v n xs) {b : Nat} (hb : b < B) (o : Nat) (u : Value) : (w.setCell ⟨b, o, none⟩ u).ownsRow B e 1 v n xs := by
  refine ⟨h.1, ?_⟩
  rcases h.2 with h' | ⟨g, cap, cur, hv, hB, hg, r⟩
  · exact .inl h'
  · exact .inr ⟨g, cap, cur, hv, hB, (Below.heap_setCell w ⟨b, o, none⟩ u g (by show g ≠ b; omega)).trans hg, r⟩
theorem set3 {w : World} {b : Nat} {x y z : Value} {t : TypeId} (h : w.heap[b]? = some (.cells #[x, y, z] t (0, 0))) :
    (∀ u, (w.setCell ⟨b, 0, none⟩ u).heap[b]? = some (.cells #[u, y, z] t (0, 0))) ∧ (∀ u, (w.setCell ⟨b, 2, none⟩ u).heap[b]? = some (.cells #[x, y, u] t (0, 0))) := by
  have hlt := lt_of_block h
  have h' : w.heap[b] = .cells #[x, y, z] t (0, 0) := by simpa [Array.getElem?_eq_getElem hlt] using h
  constructor
  · intro u
    show (w.heap.modify b _)[b]? = _
    rw [Array.getElem?_eq_getElem (by simpa using hlt), Array.getElem_modify_self, h']
    rfl
  · intro u
    show (w.heap.modify b _)[b]? = _
    rw [Array.getElem?_eq_getElem (by simpa using hlt), Array.getElem_modify_self, h']
    rfl
/-- The reader moved on to q. -/
theorem Rd.move {w : World} {b : Nat} {mv : Value} {t : ByteArray} {p : Nat} {l : List UInt8} {tv : Value} (h : Rd w b mv t p l tv) (q : Nat) : Rd (w.setCell ⟨b, 0, none⟩ (.string (t.extract q t.size))) b mv t q l tv ∧ Below b w (w.setCell ⟨b, 0, none⟩ (.string (t.extract q t.size))) :=
  ⟨⟨(set3 h.box).1 _, owns_set h.row (Nat.lt_succ_self b) 0 _⟩, (Below.refl b w).setCell (p := ⟨b, 0, none⟩) (Nat.le_refl _) _⟩

theorem ext_more (t : ByteArray) (p n : Nat) (h : p + n ≤ t.size) : (t.extract p t.size).extract n (t.extract p t.size).size = t.extract (p + n) t.size := by
  rw [ByteArray.size_extract, ByteArray.extract_extract]
  congr 1
  omega

/-- The next sign. -/
def signP (t : ByteArray) (p : Nat) : Option (Nat × Nat) := if p < t.size then some (sig t p, p + wid t p) else none
def wrongE : Ending := .panicked [{ v := .iface 59 (.agg #[]), recovered := false }]
def SignEnds (b : Nat) (mv : Value) (t : ByteArray) (l : List UInt8) (tv : Value) (w : World) (r : Option (Nat × Nat)) (e : Ending) (w' : World) : Prop := Below b w w' ∧ match r with
  | some (c, q) => e = .returned (.int .i32 c) ∧ Rd w' b mv t q l tv
  | none => e = wrongE

set_option maxHeartbeats 1000000 in
set_option maxRecDepth 100000 in
theorem sign_any (w : World) (b : Nat) (mv : Value) (t : ByteArray) (p : Nat) (l : List UInt8) (tv : Value) (h : Rd w b mv t p l tv) (hT : Tabs w) (hp : p ≤ t.size) (ht : t.size ≤ 100000) :
    Calls Tryd.prog 48 #[.pointer (some ⟨b, 0, none⟩)] w fun e w' => SignEnds b mv t l tv w (signP t p) e w' := by
  have hz : (t.extract p t.size).size = t.size - p := by rw [ByteArray.size_extract]; omega
  obtain ⟨c0, c1, c2, kb⟩ := h.cells
  have hd := Tryd.utf8_DecodeRuneInString (t.extract p t.size) w hT
  have hblt := h.lt
  have HS : Hid (signP t p = if p < t.size then some (sig t p, p + wid t p) else none) := rfl
  have HRd := Lib.hid h
  by_cases hlt : p < t.size
  · have hgo : Lib.decodeGo (t.extract p t.size) = (sig t p, wid t p) := by rw [← dropB_ext]; exact dropB_go t p hlt
    rw [hgo] at hd
    have HE : Hid (signP t p = some (sig t p, p + wid t p)) := by show _ = _; rw [HS.out, if_pos hlt]
    have HD := Lib.hid hd
    have hw1 := wid_pos t p
    have hw2 := wid_le t p hlt
    have hmove := h.move (p + wid t p)
    have hxt := ext_more t p (wid t p) hw2
    rw [hz] at hxt
    clear hd hgo h HS
    generalize sig t p = c at *
    generalize wid t p = n at *
    go_enter Tryd.func48, Tryd.ntmps48
    go_wp2_with fail
    refine HD.out.mono ?_
    rintro e w1 ⟨rfl, hb1⟩
    have HB1 := Lib.hid hb1
    have hR1 := HRd.out.below hb1
    obtain ⟨c0', c1', c2', kb'⟩ := hR1.cells
    have HM := Lib.hid (hR1.move (p + n))
    have gn : decide (0 < n) = true := decide_eq_true (by omega)
    clear hb1 HD c0 c1 c2 kb hR1 hmove
    go_wp2_with fail
    refine (must_t w1).mono ?_
    rintro e w2 ⟨rfl, rfl⟩
    go_wp2
    go_ret
    refine ⟨(HB1.out.mono (by omega)).trans HM.out.2, ?_⟩
    rw [HE.out]
    exact ⟨rfl, HM.out.1⟩
  · have hgo : Lib.decodeGo (t.extract p t.size) = (65533, 0) := by unfold Lib.decodeGo; rw [if_pos (by omega)]
    rw [hgo] at hd
    have HE : Hid (signP t p = none) := by show _ = _; rw [HS.out, if_neg hlt]
    have HD := Lib.hid hd
    clear hd hgo h HS
    go_enter Tryd.func48, Tryd.ntmps48
    go_wp2_with fail
    refine HD.out.mono ?_
    rintro e w1 ⟨rfl, hb1⟩
    have HB1 := Lib.hid hb1
    clear hb1
    go_wp2_with fail
    refine (must_f w1).mono ?_
    rintro e w2 ⟨rfl, rfl⟩
    refine ⟨rfl, HB1.out.mono (by omega), ?_⟩
    rw [HE.out]
    rfl

/-! ### Digits -/
def digF (u : ByteArray) (base : Nat) : Nat → Nat → Int → Option Int
  | 0, _, n => some n
  | k + 1, q, n => if q < u.size then (if digW (sig u q) base < base then digF u base k (q + wid u q) (n * base + digW (sig u q) base) else none) else some n
/-- So many digits of a base from p on, behind what stands ahead. -/
def digitsP (t : ByteArray) (p count base : Nat) (ahead : Int) : Option (Int × Nat) := if p + count ≤ t.size then
    (match digF (t.extract p (p + count)) base count 0 ahead with | some n => some (n, p + count) | none => none)
  else none
def DigitsEnds (b : Nat) (mv : Value) (t : ByteArray) (l : List UInt8) (tv : Value) (w : World) (r : Option (Int × Nat)) (e : Ending) (w' : World) : Prop := Below b w w' ∧ match r with
  | some (n, q) => e = .returned (.int .i64 n) ∧ Rd w' b mv t q l tv
  | none => e = wrongE

theorem ext_pre (t : ByteArray) (p n : Nat) (h : p + n ≤ t.size) : (t.extract p t.size).extract 0 n = t.extract p (p + n) := by
  rw [ByteArray.extract_extract]
  congr 1
  · omega

theorem Rd.iterAt {w : World} {b : Nat} {mv : Value} {t : ByteArray} {p : Nat} {l : List UInt8} {tv : Value} (h : Rd w b mv t p l tv) {R : Nat} {s : ByteArray} {a q : Nat} (hit : w.heap[R]? = some (.stringIter s a)) : Rd (w.iterAt R s q) b mv t p l tv := by
  refine ⟨(Lib.iterAt_other w R b s q (fun e => by subst e; have := h.box; rw [hit] at this; cases this)).trans h.box, h.row.1, ?_⟩
  rcases h.row.2 with h' | ⟨g, cap, cur, hv, hB, hg, r⟩
  · exact .inl h'
  · exact .inr ⟨g, cap, cur, hv, hB, (Lib.iterAt_other w R g s q (fun e => by subst e; rw [hit] at hg; cases hg)).trans hg, r⟩

set_option maxHeartbeats 2000000 in
set_option maxRecDepth 100000 in
theorem digits_any (w : World) (b : Nat) (mv : Value) (t : ByteArray) (p : Nat) (l : List UInt8) (tv : Value) (h : Rd w b mv t p l tv) (hp : p ≤ t.size) (ht : t.size ≤ 100000) (count base : Nat) (ahead : Int) (hc : count ≤ 8) (hb0 : 0 < base) (hb : base ≤ 16) (ha0 : 0 ≤ ahead) (ha : ahead ≤ 16) :
    Calls Tryd.prog 57 #[.pointer (some ⟨b, 0, none⟩), .int .i64 count, .int .i64 base, .int .i64 ahead] w fun e w' => DigitsEnds b mv t l tv w (digitsP t p count base ahead) e w' := by
  have hz : (t.extract p t.size).size = t.size - p := by rw [ByteArray.size_extract]; omega
  obtain ⟨c0, c1, c2, kb⟩ := h.cells
  have hblt := h.lt
  by_cases hlt : p + count ≤ t.size
  case neg =>
    have HE : Hid (digitsP t p count base ahead = none) := by show _ = _; unfold digitsP; rw [if_neg hlt]
    have gl : decide (count ≤ t.size - p) = false := decide_eq_false (by omega)
    clear h
    go_enter Tryd.func57, Tryd.ntmps57
    go_wp2_with fail
    refine (must_f w).mono ?_
    rintro e w2 ⟨rfl, rfl⟩
    refine ⟨rfl, Below.refl _ _, ?_⟩
    rw [HE.out]
    rfl
  have hu : (t.extract p (p + count)).size = count := by rw [ByteArray.size_extract]; omega
  have hpre := ext_pre t p count hlt
  have hxt := ext_more t p count hlt
  rw [hz] at hxt
  have HD : Hid (digitsP t p count base ahead = match digF (t.extract p (p + count)) base count 0 ahead with | some n => some (n, p + count) | none => none) := by show _ = _; unfold digitsP; rw [if_pos hlt]
  have HRd := Lib.hid h
  have gl : decide (count ≤ t.size - p) = true := decide_eq_true (by omega)
  have gl3 : count ≤ t.size - p := by omega
  clear h
  generalize t.extract p (p + count) = u at *
  generalize hres : digF u base count 0 ahead = res at *
  have HRES := Lib.hid hres
  clear hres
  go_enter Tryd.func57, Tryd.ntmps57
  go_wp2_with fail
  refine (must_t w).mono ?_
  rintro e w2 ⟨rfl, rfl⟩
  go_wp2
  go_loopw [9] (fun nv wr => ∃ (n q k : Nat), nv = .int .i64 n ∧ n < 16 ^ (q + 2) ∧ wr.heap[w.heap.size]? = some (.stringIter u q) ∧ w.heap.size + 1 ≤ wr.heap.size ∧ q ≤ u.size ∧ u.size ≤ q + k ∧ Hid (Rd wr b mv t p l tv) ∧ Hid (Below b w wr) ∧ Hid (digF u base k q n = res)) (fun _ wr => u.size - wr.iterPos w.heap.size)
  case atStart =>
    obtain ⟨m, rfl⟩ : ∃ m : Nat, ahead = m := ⟨ahead.toNat, by omega⟩
    refine ⟨m, 0, count, rfl, by omega, World.iter_heap w u 0, by simp [World.iter], Nat.zero_le _, by omega, ?_, ?_, HRES⟩
    · exact HRd.out.below ((Below.refl _ w).alloc (Nat.le_refl _) _)
    · exact (Below.refl b w).alloc (by omega) _
  case round =>
    obtain ⟨n, q, k, rfl, hn, hit, hsz, hq, hk, HR, HB, HE⟩ := hrel
    have hpos0 := iterPos_of hit
    have hpow : (16 : Nat) ^ (q + 2) ≤ 16 ^ 10 := Nat.pow_le_pow_right (by decide) (by omega)
    have hp10 : (16 : Nat) ^ 10 = 1099511627776 := by decide
    clear c0 c1 c2 kb
    by_cases hlt : q < u.size
    · have hnx : ∀ ty, (Instr.next (.pointer (some ⟨w.heap.size, 0, none⟩)) true ty).run Tryd.prog wr = _ := fun ty => Lib.run_next_any_at wr w.heap.size u q ty hit hlt
      have hit2 := Lib.iterAt_heap wr w.heap.size u q (q + (Utf8.decode u q).2) hit
      have hsz1 := Lib.iterAt_size wr w.heap.size u (q + (Utf8.decode u q).2)
      have HR1 := Lib.hid (HR.out.iterAt (R := w.heap.size) (s := u) (q := q + (Utf8.decode u q).2) hit)
      have HB1 := Lib.hid (Lib.below_iterAt HB.out (k := w.heap.size) (by omega) u (q + (Utf8.decode u q).2))
      have hwd := wid_pos u q
      have hwl := wid_le u q hlt
      have hsl := sig_le u q
      obtain ⟨k, rfl⟩ : ∃ k', k = k' + 1 := ⟨k - 1, by omega⟩
      have HE2 : Hid ((if digW (sig u q) base < base then digF u base k (q + wid u q) (n * base + digW (sig u q) base) else none) = res) := by
        show _ = _
        have e := HE.out
        rw [digF, if_pos hlt] at e
        exact e
      have hqs : (Utf8.decode u q).1 = sig u q := rfl
      have hqw : (Utf8.decode u q).2 = wid u q := rfl
      rw [hqs, hqw] at hnx
      rw [hqw] at hit2 hsz1 HR1 HB1
      clear hqs hqw HE HR HB hit
      generalize wr.iterAt w.heap.size u (q + wid u q) = W1 at *
      generalize sig u q = c at *
      generalize wid u q = wd at *
      have hdb := digW_bounds c base (by omega) (by omega)
      obtain ⟨nb, hnb⟩ : ∃ m : Nat, m = n * base := ⟨_, rfl⟩
      have hnbI : (n : Int) * (base : Int) = (nb : Int) := by rw [hnb]; push_cast; rfl
      have hnb2 : nb ≤ (16 ^ (q + 2) - 1) * 16 := by rw [hnb]; exact Nat.mul_le_mul (by omega) hb
      have HNB := Lib.hid hnb
      clear hnb
      go_wp2_with fail
      refine (digit_any c base W1 (by omega) (by omega) (by omega) (by omega)).mono ?_
      rintro e w5 ⟨rfl, rfl⟩
      by_cases hd : digW c base < base
      · rw [decide_eq_true hd, orWrong_t]
        obtain ⟨dn, hdn⟩ : ∃ m : Nat, digW c base = m := ⟨(digW c base).toNat, by omega⟩
        have HE3 : Hid (digF u base k (q + wd) ((nb + dn : Nat) : Int) = res) := by
          show _ = _
          rw [← HE2.out, if_pos hd, hdn, hnbI]
          push_cast
          rfl
        rw [hdn] at hd ⊢
        have hstep : nb + dn < 16 ^ (q + wd + 2) := by
          have h1 : (16 : Nat) ^ (q + 3) ≤ 16 ^ (q + wd + 2) := Nat.pow_le_pow_right (by decide) (by omega)
          have h2 : (16 : Nat) ^ (q + 3) = 16 ^ (q + 2) * 16 := by rw [show q + 3 = (q + 2) + 1 by omega, Nat.pow_succ]
          have h3 : 0 < (16 : Nat) ^ (q + 2) := Nat.pow_pos (by decide)
          generalize (16 : Nat) ^ (q + 2) = X at *
          omega
        have hbig : (nb : Int) + dn < 17592186044416 := by omega
        clear HE2 hdn hdb hnb2 hpow
        go_wp2
        go_roundw
        case rel => exact ⟨nb + dn, q + wd, k, by go_num, hstep, hit2, by omega, hwl, by omega, HR1.out, HB1.out, HE3.out⟩
        case measure => rw [iterPos_of hit2, hpos0]; omega
      · rw [decide_eq_false hd, orWrong_f]
        have HE3 : Hid (none = res) := by
          show _ = _
          rw [← HE2.out, if_neg hd]
        refine ⟨rfl, HB1.out, ?_⟩
        rw [HD.out, ← HE3.out]
        rfl
    · have hnx : ∀ ty, (Instr.next (.pointer (some ⟨w.heap.size, 0, none⟩)) true ty).run Tryd.prog wr = _ := fun ty => Lib.run_next_end_at wr w.heap.size u q ty hit hlt
      have HE3 : Hid (some (n : Int) = res) := by
        show _ = _
        rw [← HE.out]
        cases k with
        | zero => rfl
        | succ k => rw [digF, if_neg hlt]
      obtain ⟨c0, c1, c2, kb⟩ := HR.out.cells
      have HM := Lib.hid (HR.out.move (p + count))
      clear HE
      go_wp2
      go_ret
      refine ⟨HB.out.trans HM.out.2, ?_⟩
      rw [HD.out, ← HE3.out]
      exact ⟨rfl, HM.out.1⟩

/-! ### The sign of a number -/
def pointP (n : Int) : Option Int := if n ≤ 1114111 ∧ Lib.validRune n = true then some n else none

def pointE (r : Option Int) : Ending := match r with
  | some r => .returned (.int .i32 r)
  | none => wrongE
set_option maxRecDepth 100000 in
theorem point_any (n : Int) (w : World) (h0 : 0 ≤ n) (h1 : n < 1099511627776) : Calls Tryd.prog 58 #[.int .i64 n] w fun e w' => w = w' ∧ e = pointE (pointP n) := by
  by_cases hn : n ≤ 1114111
  · cases hv : Lib.validRune n
    · have HE : Hid (pointP n = none) := by show _ = _; unfold pointP; rw [if_neg (by rw [hv]; simp)]
      have HV := Lib.hid hv
      clear hv
      go_enter Tryd.func58, Tryd.ntmps58
      go_wp2_with fail
      refine (Tryd.utf8_ValidRune n w).mono ?_
      rintro e w2 ⟨rfl, rfl⟩
      rw [HV.out]
      go_wp2_with fail
      refine (must_f w2).mono ?_
      rintro e w3 ⟨rfl, rfl⟩
      refine ⟨rfl, rfl, ?_⟩
      rw [HE.out]
      rfl
    · have HE : Hid (pointP n = some n) := by show _ = _; unfold pointP; rw [if_pos ⟨hn, hv⟩]
      have HV := Lib.hid hv
      clear hv
      go_enter Tryd.func58, Tryd.ntmps58
      go_wp2_with fail
      refine (Tryd.utf8_ValidRune n w).mono ?_
      rintro e w2 ⟨rfl, rfl⟩
      rw [HV.out]
      go_wp2_with fail
      refine (must_t w2).mono ?_
      rintro e w3 ⟨rfl, rfl⟩
      go_wp2
      go_ret
      refine ⟨rfl, ?_⟩
      rw [HE.out]
      rfl
  · have HE : Hid (pointP n = none) := by show _ = _; unfold pointP; rw [if_neg (fun h => hn h.1)]
    go_enter Tryd.func58, Tryd.ntmps58
    go_wp2_with fail
    refine (must_f w).mono ?_
    rintro e w3 ⟨rfl, rfl⟩
    refine ⟨rfl, rfl, ?_⟩
    rw [HE.out]
    rfl
end Go.Proofs.YtijinpnbhnfiiaaDoor
