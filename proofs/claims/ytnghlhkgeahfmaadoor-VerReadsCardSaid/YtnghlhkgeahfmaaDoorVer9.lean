/- package ver: what each rule does with a word; what a line of words does. -/
import Derived.Test.YtnghlhkgeahfmaaDoorVer8
namespace Go.Proofs.YtnghlhkgeahfmaaDoor
open Go.RowKit Go.Maps Go.ChangeMaps
set_option linter.unusedVariables false

/-! ### What a go.mod has said so far, in memory -/
structure Three (bm bp bv : Nat) (w w' : World) : Prop where
  os : w'.os = w.os
  tape : w'.tape = w.tape
  output : w'.output = w.output
  size : w.heap.size ≤ w'.heap.size
  block : ∀ k, k < w.heap.size → k ≠ bm → k ≠ bp → k ≠ bv → w'.heap[k]? = w.heap[k]?
theorem Three.refl (bm bp bv : Nat) (w : World) : Three bm bp bv w w := ⟨rfl, rfl, rfl, Nat.le_refl _, fun _ _ _ _ _ => rfl⟩
theorem Three.trans {bm bp bv : Nat} {u v w : World} (h : Three bm bp bv u v) (k : Three bm bp bv v w) : Three bm bp bv u w :=
  ⟨k.os.trans h.os, k.tape.trans h.tape, k.output.trans h.output, Nat.le_trans h.size k.size, fun i hi h1 h2 h3 => (k.block i (Nat.lt_of_lt_of_le hi h.size) h1 h2 h3).trans (h.block i hi h1 h2 h3)⟩
theorem Three.of_below {bm bp bv : Nat} {w w' : World} (h : Below w.heap.size w w') : Three bm bp bv w w' := ⟨h.os, h.tape, h.output, h.size, fun k hk _ _ _ => h.block k hk⟩
theorem Three.setCell {bm bp bv : Nat} {u w : World} (h : Three bm bp bv u w) {a : Addr} (hk : a.block = bm ∨ a.block = bp ∨ a.block = bv) (v : Value) : Three bm bp bv u (w.setCell a v) :=
  ⟨h.os, h.tape, h.output, by have := h.size; simpa [World.setCell] using this, fun i hi h1 h2 h3 => (Below.heap_setCell w a v i (by omega)).trans (h.block i hi h1 h2 h3)⟩
theorem Three.below {bm bp bv B : Nat} {w w' : World} (h : Three bm bp bv w w') (h1 : B ≤ bm) (h2 : B ≤ bp) (h3 : B ≤ bv) (hB : B ≤ w.heap.size) : Below B w w' := ⟨h.os, h.tape, h.output, h.size, fun k hk => h.block k (by omega) (by omega) (by omega) (by omega)⟩

def gML : Nat := 0
theorem cell_of_heap {w w' : World} {b i : Nat} (h : w'.heap[b]? = w.heap[b]?) : w'.cell? ⟨b, i, none⟩ = w.cell? ⟨b, i, none⟩ := by simp [World.cell?, h]
theorem Three.maxLen {bm bp bv : Nat} {w w' : World} (h : Three bm bp bv w w') (hm : MaxLen w) (h1 : gML < bm) (h2 : gML < bp) (h3 : gML < bv) : MaxLen w' := by
  obtain ⟨m, hm⟩ := hm
  have hlt : gML < w.heap.size := by
    rcases Nat.lt_or_ge gML w.heap.size with h' | h'
    · exact h'
    · unfold gML at h'; simp [World.cell?, Array.getElem?_eq_none h'] at hm
  exact ⟨m, (cell_of_heap (h.block gML hlt (by omega) (by omega) (by omega))).trans hm⟩

theorem two_cells {w : World} {b : Nat} {x y : Value} {t : TypeId} (h : w.heap[b]? = some (.cells #[x, y] t (0, 0))) :
    w.cell? ⟨b, 0, none⟩ = some x ∧ w.cell? ⟨b, 1, none⟩ = some y ∧ w.frozen? ⟨b, 0, none⟩ = false ∧ w.frozen? ⟨b, 1, none⟩ = false := by
  simp [World.cell?, World.frozen?, h]
theorem two_set0 {w : World} {b : Nat} {x y u : Value} {t : TypeId} (h : w.heap[b]? = some (.cells #[x, y] t (0, 0))) : (w.setCell ⟨b, 0, none⟩ u).heap[b]? = some (.cells #[u, y] t (0, 0)) := by
  have hlt := lt_of_block h
  have h' : w.heap[b] = .cells #[x, y] t (0, 0) := by simpa [Array.getElem?_eq_getElem hlt] using h
  show (w.heap.modify b _)[b]? = _
  rw [Array.getElem?_eq_getElem (by simpa using hlt), Array.getElem_modify_self, h']
  rfl
theorem two_set1 {w : World} {b : Nat} {x y u : Value} {t : TypeId} (h : w.heap[b]? = some (.cells #[x, y] t (0, 0))) : (w.setCell ⟨b, 1, none⟩ u).heap[b]? = some (.cells #[x, u] t (0, 0)) := by
  have hlt := lt_of_block h
  have h' : w.heap[b] = .cells #[x, y] t (0, 0) := by simpa [Array.getElem?_eq_getElem hlt] using h
  show (w.heap.modify b _)[b]? = _
  rw [Array.getElem?_eq_getElem (by simpa using hlt), Array.getElem_modify_self, h']
  rfl
theorem one_cell {w : World} {b : Nat} {x : Value} {t : TypeId} (h : w.heap[b]? = some (.cells #[x] t (0, 0))) : w.cell? ⟨b, 0, none⟩ = some x ∧ w.frozen? ⟨b, 0, none⟩ = false := by
  simp [World.cell?, World.frozen?, h]
theorem one_set {w : World} {b : Nat} {x u : Value} {t : TypeId} (h : w.heap[b]? = some (.cells #[x] t (0, 0))) : (w.setCell ⟨b, 0, none⟩ u).heap[b]? = some (.cells #[u] t (0, 0)) := by
  have hlt := lt_of_block h
  have h' : w.heap[b] = .cells #[x] t (0, 0) := by simpa [Array.getElem?_eq_getElem hlt] using h
  show (w.heap.modify b _)[b]? = _
  rw [Array.getElem?_eq_getElem (by simpa using hlt), Array.getElem_modify_self, h']
  rfl

def St (bm bp bv : Nat) (x : Rd) (w : World) : Prop :=
  w.heap[bm]? = some (.cells #[.string ⟨x.path.toArray⟩, .int .i64 (x.minor : Nat)] 33 (0, 0)) ∧
  w.heap[bp]? = some (.cells #[.int .i64 (x.paths : Nat)] 3 (0, 0)) ∧ w.heap[bv]? = some (.cells #[.int .i64 (x.vers : Nat)] 3 (0, 0))
theorem St.below {bm bp bv : Nat} {x : Rd} {w w' : World} (h : St bm bp bv x w) {B : Nat} (hb : Below B w w') (h1 : bm < B) (h2 : bp < B) (h3 : bv < B) : St bm bp bv x w' :=
  ⟨(hb.block _ h1).trans h.1, (hb.block _ h2).trans h.2.1, (hb.block _ h3).trans h.2.2⟩

set_option maxRecDepth 100000 in
theorem read1_any (bm bp bv : Nat) (x : Rd) (t : ByteArray) (w : World) (ht : t.size ≤ 1000000) (h : St bm bp bv x w) (hm : MaxLen w) (g1 : gML < bm) (g2 : gML < bp) (g3 : gML < bv) (n1 : bm ≠ bp) (n2 : bm ≠ bv) (n3 : bp ≠ bv) (hb : x.paths ≤ 1000000) :
    Calls Tryd.prog 29 #[.string t, .pointer (some ⟨bm, 0, none⟩), .pointer (some ⟨bp, 0, none⟩)] w fun e w' => e = .returned (.bool (pathL (ls t))) ∧ St bm bp bv { x with path := ls t, paths := x.paths + 1 } w' ∧ Three bm bp bv w w' := by
  obtain ⟨s1, s2, s3⟩ := h
  obtain ⟨c0, c1, y0, y1⟩ := two_cells s1
  obtain ⟨d0, z0⟩ := one_cell s2
  have f1 : (x.paths : Int) ≤ 1000000 := by omega
  have HT2 : Hid (Three bm bp bv w ((w.setCell ⟨bm, 0, none⟩ (.string t)).setCell ⟨bp, 0, none⟩ (.int .i64 ((x.paths : Int) + 1)))) := ((Three.refl bm bp bv w).setCell (.inl rfl) _).setCell (.inr (.inl rfl)) _
  have hp := path_any t ht _ (HT2.out.maxLen hm g1 g2 g3)
  have t1 : ((w.setCell ⟨bm, 0, none⟩ (.string t)).setCell ⟨bp, 0, none⟩ (.int .i64 ((x.paths : Int) + 1))).heap[bm]? = _ := (Below.heap_setCell _ _ _ _ (by simpa using n1)).trans (two_set0 s1 (u := .string t))
  have t2 : ((w.setCell ⟨bm, 0, none⟩ (.string t)).setCell ⟨bp, 0, none⟩ (.int .i64 ((x.paths : Int) + 1))).heap[bp]? = _ := one_set ((Below.heap_setCell _ _ _ _ (by simpa using n1.symm)).trans s2)
  have t3 : ((w.setCell ⟨bm, 0, none⟩ (.string t)).setCell ⟨bp, 0, none⟩ (.int .i64 ((x.paths : Int) + 1))).heap[bv]? = _ := (Below.heap_setCell _ _ _ _ (by simpa using n3.symm)).trans ((Below.heap_setCell _ _ _ _ (by simpa using n2.symm)).trans s3)
  have l1 := lt_of_block t1
  have l2 := lt_of_block t2
  have l3 := lt_of_block t3
  have HS : Hid (St bm bp bv { x with path := ls t, paths := x.paths + 1 } ((w.setCell ⟨bm, 0, none⟩ (.string t)).setCell ⟨bp, 0, none⟩ (.int .i64 ((x.paths : Int) + 1)))) := ⟨t1, t2, t3⟩
  have HL1 := Lib.hid l1
  have HL2 := Lib.hid l2
  have HL3 := Lib.hid l3
  clear t1 t2 t3 s1 s2 s3 l1 l2 l3 hm g1 g2 g3 hb
  go_enter Tryd.func29, Tryd.ntmps29
  go_wp2_with ((with_reducible refine hp.mono ?_); rintro e w3 ⟨rfl, hb3⟩; have HB3 := Lib.hid hb3; clear hb3)
  go_ret
  exact ⟨rfl, HS.out.below HB3.out HL1.out HL2.out HL3.out, HT2.out.trans (.of_below HB3.out)⟩

set_option maxRecDepth 100000 in
theorem read2_any (bm bp bv : Nat) (x : Rd) (t : ByteArray) (w : World) (ht : t.size ≤ 1000000) (h : St bm bp bv x w) (n1 : bm ≠ bp) (n2 : bm ≠ bv) (n3 : bp ≠ bv) (hb : x.vers ≤ 1000000) :
    Calls Tryd.prog 30 #[.string t, .pointer (some ⟨bm, 0, none⟩), .pointer (some ⟨bv, 0, none⟩)] w fun e w' => e = .returned (.bool (minorL (ls t)).isSome) ∧ St bm bp bv { x with minor := (minorL (ls t)).getD 0, vers := x.vers + 1 } w' ∧ Three bm bp bv w w' := by
  have hmi := minor_any t ht w
  have f1 : (x.vers : Int) ≤ 1000000 := by omega
  have H := Lib.hid h
  have key : ∀ (w1 : World) (m : Nat), Below w.heap.size w w1 → St bm bp bv { x with minor := m, vers := x.vers + 1 } ((w1.setCell ⟨bm, 1, none⟩ (.int .i64 (m : Nat))).setCell ⟨bv, 0, none⟩ (.int .i64 ((x.vers : Int) + 1))) ∧ Three bm bp bv w ((w1.setCell ⟨bm, 1, none⟩ (.int .i64 (m : Nat))).setCell ⟨bv, 0, none⟩ (.int .i64 ((x.vers : Int) + 1))) := fun w1 m hb1 => by
    obtain ⟨s1, s2, s3⟩ := H.out.below hb1 (lt_of_block h.1) (lt_of_block h.2.1) (lt_of_block h.2.2)
    refine ⟨⟨?_, ?_, ?_⟩, Three.setCell (bm := bm) (bp := bp) (bv := bv) (a := ⟨bv, 0, none⟩) (Three.setCell (bm := bm) (bp := bp) (bv := bv) (a := ⟨bm, 1, none⟩) (.of_below hb1) (.inl rfl) _) (.inr (.inr rfl)) _⟩
    · exact (Below.heap_setCell _ _ _ _ (by simpa using n2)).trans (two_set1 s1)
    · exact (Below.heap_setCell _ _ _ _ (by simpa using n3)).trans ((Below.heap_setCell _ _ _ _ (by simpa using n1.symm)).trans s2)
    · exact one_set ((Below.heap_setCell _ _ _ _ (by simpa using n2.symm)).trans s3)
  have KEY := Lib.hid key
  have cells : ∀ w1, Below w.heap.size w w1 → (w1.cell? ⟨bm, 1, none⟩ = some (.int .i64 (x.minor : Nat)) ∧ w1.frozen? ⟨bm, 1, none⟩ = false) ∧ (w1.cell? ⟨bv, 0, none⟩ = some (.int .i64 (x.vers : Nat)) ∧ w1.frozen? ⟨bv, 0, none⟩ = false) := fun w1 hb1 => by
    obtain ⟨s1, s2, s3⟩ := H.out.below hb1 (lt_of_block h.1) (lt_of_block h.2.1) (lt_of_block h.2.2)
    exact ⟨⟨(two_cells s1).2.1, (two_cells s1).2.2.2⟩, one_cell s3⟩
  have CELLS := Lib.hid cells
  clear key cells h hb
  cases hm : minorL (ls t)
  all_goals
    rw [hm] at hmi
    unfold toldM at hmi
    go_enter Tryd.func30, Tryd.ntmps30
    go_wp2_with ((with_reducible refine hmi.mono ?_); rintro e w1 ⟨rfl, hb1⟩; obtain ⟨⟨k1, k2⟩, k3, k4⟩ := CELLS.out w1 hb1; have HB1 := Lib.hid hb1; clear hb1)
    go_ret
  · exact ⟨rfl, KEY.out w1 0 HB1.out⟩
  · exact ⟨rfl, KEY.out w1 _ HB1.out⟩

theorem read3_any (t : ByteArray) (w : World) : Calls Tryd.prog 31 #[.string t] w fun e w' => e = .returned (.bool true) ∧ w' = w := by
  go_enter Tryd.func31, Tryd.ntmps31
  go_wp2
  go_ret
  exact ⟨rfl, rfl⟩
end Go.Proofs.YtnghlhkgeahfmaaDoor
