/- The walk over the signs of a text (place.signs): each sign is told to the closure, one behind the other, until it says no; last the end is. For every closure with a contract. -/
import Derived.Test.YtijinpnbhnfiiaaDoorRows
import Derived.Test.YtijinpnbhnfiiaaDoorBase
import Derived.WalkKit
import Derived.WalkSmall
import Derived.WalkSpells
import Derived.WalkLawsBesides

import Derived.OneCell
import Derived.Below
import Derived.Lib.OthersKept
import Derived.Lib.Hide
namespace Go.Proofs.YtijinpnbhnfiiaaDoor
open Go.RowKit

/-- But one block b, all that was there stands. -/
structure But (b : Nat) (w w' : World) : Prop where
  os : w'.os = w.os
  tape : w'.tape = w.tape
  output : w'.output = w.output
  size : w.heap.size ≤ w'.heap.size
  block : ∀ k, k < w.heap.size → k ≠ b → w'.heap[k]? = w.heap[k]?

theorem But.refl (b : Nat) (w : World) : But b w w := ⟨rfl, rfl, rfl, Nat.le_refl _, fun _ _ _ => rfl⟩
theorem But.trans {b : Nat} {u v w : World} (h : But b u v) (k : But b v w) : But b u w :=
  ⟨k.os.trans h.os, k.tape.trans h.tape, k.output.trans h.output, Nat.le_trans h.size k.size, fun i hi hb => (k.block i (Nat.lt_of_lt_of_le hi h.size) hb).trans (h.block i hi hb)⟩
theorem But.of_below {b : Nat} {w w' : World} (h : Below w.heap.size w w') : But b w w' := ⟨h.os, h.tape, h.output, h.size, fun k hk _ => h.block k hk⟩
theorem But.below {b B : Nat} {w w' : World} (h : But b w w') (hb : B ≤ b) (hB : B ≤ w.heap.size) : Below B w w' := ⟨h.os, h.tape, h.output, h.size, fun k hk => h.block k (by omega) (by omega)⟩
theorem But.iterAt {b : Nat} {u w : World} (h : But b u w) {k : Nat} (hk : u.heap.size ≤ k) (s : ByteArray) (pos : Nat) : But b u (w.iterAt k s pos) :=
  ⟨h.os, h.tape, h.output, by rw [Lib.iterAt_size]; exact h.size, fun i hi hb => (Lib.iterAt_other w k i s pos (by omega)).trans (h.block i hi hb)⟩
theorem But.setCell {b : Nat} {u w : World} (h : But b u w) {a : Addr} (hk : u.heap.size ≤ a.block ∨ a.block = b) (v : Value) : But b u (w.setCell a v) :=
  ⟨h.os, h.tape, h.output, by have := h.size; simpa [World.setCell] using this, fun i hi hb => (Below.heap_setCell w a v i (by omega)).trans (h.block i hi hb)⟩
theorem But.alloc {b : Nat} {u w : World} (h : But b u w) (o : Obj) : But b u (w.alloc o) :=
  ⟨h.os, h.tape, h.output, by have := h.size; simp; omega, fun i hi hb => (Below.heap_alloc w o i (Nat.lt_of_lt_of_le hi h.size)).trans (h.block i hi hb)⟩

theorem two_cells {w : World} {b : Nat} {x y : Value} {t : TypeId} (h : w.heap[b]? = some (.cells #[x, y] t (0, 0))) :
    w.cell? ⟨b, 0, none⟩ = some x ∧ w.cell? ⟨b, 1, none⟩ = some y ∧ w.frozen? ⟨b, 0, none⟩ = false ∧ w.frozen? ⟨b, 1, none⟩ = false := by
  simp [World.cell?, World.frozen?, h]
theorem two_set0 {w : World} {b : Nat} {x y u : Value} {t : TypeId} (h : w.heap[b]? = some (.cells #[x, y] t (0, 0))) : (w.setCell ⟨b, 0, none⟩ u).heap[b]? = some (.cells #[u, y] t (0, 0)) := by
  have hlt := lt_of_block h
  have h' : w.heap[b] = .cells #[x, y] t (0, 0) := by simpa [Array.getElem?_eq_getElem hlt] using h
  show (w.heap.modify b _)[b]? = _
  rw [Array.getElem?_eq_getElem (by simpa using hlt), Array.getElem_modify_self, h']
  rfl
theorem two_set1 {w : World} {b : Nat} {x y u : Value} {t : TypeId} (h : w.heap[b]? = some (.cells #[x, y] t (0, 0))) : (w.setCell ⟨b, 1, none⟩ u).heap[b]? = some (.cells #[x, u] t (0, 0)) := by
  have hlt := lt_of_block h
  have h' : w.heap[b] = .cells #[x, y] t (0, 0) := by simpa [Array.getElem?_eq_getElem hlt] using h
  show (w.heap.modify b _)[b]? = _
  rw [Array.getElem?_eq_getElem (by simpa using hlt), Array.getElem_modify_self, h']
  rfl

structure Clo (σ : Type) where
  go : σ → Nat → Int → Nat → Nat → Bool
  next : σ → Nat → Int → Nat → Nat → σ

/-- A closure that is told each sign, one behind the other, as long as it says so; and last the end. -/
def Clo.run {σ : Type} (C : Clo σ) (s : ByteArray) : Nat → σ → Nat → Nat → Nat → σ
  | 0, x, _, l, c => C.next x s.size (-1) l c
  | f + 1, x, p, l, c => if p < s.size then (if C.go x p (sig s p) l c = true then C.run s f (C.next x p (sig s p) l c) (p + wid s p) (lineN s p l) (colN s p c) else C.next x p (sig s p) l c) else C.next x s.size (-1) l c

theorem signs_any {σ : Type} (C : Clo σ) (x0 : σ) (F : FuncId) (p1 p2 : Value) (b : Nat) (Good : σ → World → Prop) (s : ByteArray) (a : Option Addr) (cap : Nat) (w : World)
    (hs : s.size ≤ 1000000) (hb : b < w.heap.size)
    (hconv : ∀ W, Below w.heap.size w W → (convert 33 9 (.slice a s.size cap)).run Tryd.prog W = .ok (.string s) W)
    (hgood : ∀ x W W', Good x W → w.heap.size ≤ W.heap.size → (∀ k, k < w.heap.size → W'.heap[k]? = W.heap[k]?) → Good x W')
    (h0 : Good x0 w) (hcf : ∀ args W, (callFunc F args).run Tryd.prog W = .ok (.enter F args) W)
    (hcl : ∀ x (p : Nat) (r : Int) (l c : Nat) (W : World), Good x W → p ≤ s.size → w.heap.size ≤ W.heap.size → (p < s.size ∧ r = (sig s p : Int)) ∨ (p = s.size ∧ r = -1) →
      Calls Tryd.prog F #[.int .i64 p, .int .i32 r, .agg #[.int .i64 l, .int .i64 c], p1, p2] W
        fun e W' => e = .returned (.bool (C.go x p r l c)) ∧ Good (C.next x p r l c) W' ∧ But b W W') :
    Calls Tryd.prog 44 #[.slice a s.size cap, .func (.func F) #[] #[p1, p2]] w
      fun e w' => e = .returned (.tuple #[]) ∧ Good (C.run s s.size x0 0 1 1) w' ∧ But b w w' := by
  have hc0 := hconv ((w.alloc (.cells #[.int .i64 1, .int .i64 1] 78))) ((Below.refl _ _).alloc (Nat.le_refl _) _)
  go_enter Tryd.func44, Tryd.ntmps44
  go_wp2
  go_loopw [5] (fun _ wr => ∃ (x : σ) (p l c f : Nat), wr.heap[w.heap.size]? = some (.cells #[.int .i64 l, .int .i64 c] 78 (0, 0)) ∧ wr.heap[w.heap.size + 1]? = some (.stringIter s p) ∧ Good x wr ∧ But b w wr ∧ w.heap.size + 2 ≤ wr.heap.size ∧ p ≤ s.size ∧ s.size ≤ p + f ∧ l ≤ p + 1 ∧ c ≤ p + 1 ∧ Hid (C.run s f x p l c = C.run s s.size x0 0 1 1)) (fun _ wr => s.size - wr.iterPos (w.heap.size + 1))
  case atStart =>
    have hA := heap_alloc_new w (.cells #[.int .i64 1, .int .i64 1] 78)
    exact ⟨x0, 0, 1, 1, s.size, (Below.heap_alloc _ _ _ (by simp)).trans hA, (by have h := World.iter_heap (w.alloc (.cells #[.int .i64 1, .int .i64 1] 78)) s 0; rw [World.size_alloc] at h; exact h), hgood x0 w _ h0 (Nat.le_refl _) (fun k hk => (Below.heap_alloc _ _ _ (by simp; omega)).trans (Below.heap_alloc _ _ _ hk)), ((But.refl b w).alloc _).alloc _, by simp [World.iter], Nat.zero_le _, by omega, by omega, by omega, rfl⟩
  case round =>
    obtain ⟨x, p, l, c, f, hB, hit, hG, hbut, hsz, hps, hpf, hl, hc, HR⟩ := hrel
    have hpos0 := iterPos_of hit
    by_cases hp : p < s.size
    · have hnx : ∀ ty, (Instr.next (.pointer (some ⟨w.heap.size + 1, 0, none⟩)) true ty).run Tryd.prog wr = _ := fun ty => Lib.run_next_any_at wr (w.heap.size + 1) s p ty hit hp
      have hit2 := Lib.iterAt_heap wr (w.heap.size + 1) s p (p + (Utf8.decode s p).2) hit
      have hoth := fun j (hj : j ≠ w.heap.size + 1) => Lib.iterAt_other wr (w.heap.size + 1) j s (p + (Utf8.decode s p).2) hj
      have hsz1 := Lib.iterAt_size wr (w.heap.size + 1) s (p + (Utf8.decode s p).2)
      have hbut1 : But b w (wr.iterAt (w.heap.size + 1) s (p + (Utf8.decode s p).2)) := hbut.iterAt (by omega) s _
      have hG1 : Good x (wr.iterAt (w.heap.size + 1) s (p + (Utf8.decode s p).2)) := hgood x wr _ hG (by omega) (fun k hk => hoth k (by omega))
      have hB1 : (wr.iterAt (w.heap.size + 1) s (p + (Utf8.decode s p).2)).heap[w.heap.size]? = some (.cells #[.int .i64 l, .int .i64 c] 78 (0, 0)) := (hoth _ (by omega)).trans hB
      generalize wr.iterAt (w.heap.size + 1) s (p + (Utf8.decode s p).2) = W1 at *
      obtain ⟨c0, c1, y0, y1⟩ := two_cells hB1
      have hwd := wid_pos s p
      have hwl := wid_le s p hp
      clear hoth hconv hc0 hbut hG hB hit
      obtain ⟨f, rfl⟩ : ∃ f', f = f' + 1 := ⟨f - 1, by omega⟩
      have Hgood := Lib.hid hgood
      have Hcl := Lib.hid hcl
      have HSG : Hid ((((Utf8.decode s p).1 : Nat) : Int) = (sig s p : Int)) := Lib.hid rfl
      clear hgood
      cases hgo : C.go x p ((Utf8.decode s p).1 : Int) l c
      · go_wp2_with ((with_reducible refine (hcl x p _ l c W1 hG1 hps (by omega) (.inl ⟨hp, HSG.out⟩)).mono ?_); rintro e W2 ⟨rfl, hG2, hbut2⟩; rw [hgo]; have hB2 := (hbut2.block w.heap.size (by omega) (by omega)).trans hB1; have hit3 := (hbut2.block (w.heap.size + 1) (by omega) (by omega)).trans hit2; obtain ⟨d0, d1, z0, z1⟩ := two_cells hB2; have hsz2 := hbut2.size)
        refine bodyPost_ret (results_none rfl _ _ _) rfl ?_
        refine ⟨rfl, ?_, hbut1.trans hbut2⟩
        rw [← HR.out, Clo.run, if_pos hp, if_neg (by rw [show ((sig s p : Nat) : Int) = ((Utf8.decode s p).1 : Int) from rfl, hgo]; simp)]
        exact hG2
      · cases hr : (((Utf8.decode s p).1 : Int) == 10)
        · go_wp2_with ((with_reducible refine (hcl x p _ l c W1 hG1 hps (by omega) (.inl ⟨hp, HSG.out⟩)).mono ?_); rintro e W2 ⟨rfl, hG2, hbut2⟩; rw [hgo]; have hB2 := (hbut2.block w.heap.size (by omega) (by omega)).trans hB1; have hit3 := (hbut2.block (w.heap.size + 1) (by omega) (by omega)).trans hit2; obtain ⟨d0, d1, z0, z1⟩ := two_cells hB2; have hsz2 := hbut2.size)
          go_roundw
          case rel =>
            refine ⟨_, _, l, c + 1, f, two_set1 hB2, (Below.heap_setCell _ _ _ _ (by simp)).trans hit3, Hgood.out _ W2 _ hG2 (by omega) (fun k hk => Below.heap_setCell _ _ _ _ (by simp; omega)), (hbut1.trans hbut2).setCell (.inl (Nat.le_refl _)) _, by simpa [World.setCell] using (show w.heap.size + 2 ≤ W2.heap.size by omega), hwl, (by have hq : (Utf8.decode s p).2 = wid s p := rfl; omega), (by have hq : (Utf8.decode s p).2 = wid s p := rfl; omega), (by have hq : (Utf8.decode s p).2 = wid s p := rfl; omega), ?_⟩
            show _ = _
            rw [← HR.out, Clo.run, if_pos hp, if_pos (by exact hgo)]
            have hr' : sig s p ≠ 10 := fun h => by rw [show ((Utf8.decode s p).1) = sig s p from rfl, h] at hr; simp at hr
            rw [lineN, colN, if_neg hr', if_neg hr']
            rfl
          case measure =>
            rw [iterPos_of ((Below.heap_setCell _ _ _ _ (by simp)).trans hit3), hpos0]
            unfold wid at hwd
            omega
        · go_wp2_with ((with_reducible refine (hcl x p _ l c W1 hG1 hps (by omega) (.inl ⟨hp, HSG.out⟩)).mono ?_); rintro e W2 ⟨rfl, hG2, hbut2⟩; rw [hgo]; have hB2 := (hbut2.block w.heap.size (by omega) (by omega)).trans hB1; have hit3 := (hbut2.block (w.heap.size + 1) (by omega) (by omega)).trans hit2; obtain ⟨d0, d1, z0, z1⟩ := two_cells hB2; have hsz2 := hbut2.size)
          go_roundw
          case rel =>
            refine ⟨_, _, l + 1, 1, f, two_set1 (two_set0 (two_set1 hB2)), ?_, Hgood.out _ W2 _ hG2 (by omega) (fun k hk => ?_), (((hbut1.trans hbut2).setCell (.inl (Nat.le_refl _)) _).setCell (.inl (Nat.le_refl _)) _).setCell (.inl (Nat.le_refl _)) _, by simpa [World.setCell] using (show w.heap.size + 2 ≤ W2.heap.size by omega), hwl, (by have hq : (Utf8.decode s p).2 = wid s p := rfl; omega), (by have hq : (Utf8.decode s p).2 = wid s p := rfl; omega), (by have hq : (Utf8.decode s p).2 = wid s p := rfl; omega), ?_⟩
            · rw [Below.heap_setCell _ _ _ _ (by simp), Below.heap_setCell _ _ _ _ (by simp), Below.heap_setCell _ _ _ _ (by simp)]; exact hit3
            · rw [Below.heap_setCell _ _ _ _ (by simp; omega), Below.heap_setCell _ _ _ _ (by simp; omega), Below.heap_setCell _ _ _ _ (by simp; omega)]
            show _ = _
            rw [← HR.out, Clo.run, if_pos hp, if_pos (by exact hgo)]
            have hr' : sig s p = 10 := by
              have h := beq_iff_eq.1 hr
              have : ((sig s p : Nat) : Int) = 10 := h
              omega
            rw [lineN, colN, if_pos hr', if_pos hr']
            rfl
          case measure =>
            rw [iterPos_of (show _ = some (Obj.stringIter s (p + (Utf8.decode s p).2)) by rw [Below.heap_setCell _ _ _ _ (by simp), Below.heap_setCell _ _ _ _ (by simp), Below.heap_setCell _ _ _ _ (by simp)]; exact hit3), hpos0]
            unfold wid at hwd
            omega
    · have hnx : ∀ ty, (Instr.next (.pointer (some ⟨w.heap.size + 1, 0, none⟩)) true ty).run Tryd.prog wr = _ := fun ty => Lib.run_next_end_at wr (w.heap.size + 1) s p ty hit hp
      obtain ⟨c0, c1, y0, y1⟩ := two_cells hB
      clear hgood hconv hc0
      have Hcl := Lib.hid hcl
      go_wp2_with ((with_reducible refine (hcl x s.size (-1) l c wr hG (Nat.le_refl _) (by omega) (.inr ⟨rfl, rfl⟩)).mono ?_); rintro e W2 ⟨rfl, hG2, hbut2⟩)
      go_end0
      refine ⟨rfl, ?_, hbut.trans hbut2⟩
      rw [← HR.out]
      cases f with
      | zero => exact hG2
      | succ f => rw [Clo.run, if_neg hp]; exact hG2
end Go.Proofs.YtijinpnbhnfiiaaDoor
