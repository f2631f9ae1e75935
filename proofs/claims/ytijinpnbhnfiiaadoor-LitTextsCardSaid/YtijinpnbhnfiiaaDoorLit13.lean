/- package lit: raw: a text between backquotes; a strings.Builder ahead of an iterator. -/
import Derived.Test.YtijinpnbhnfiiaaDoorLit12
namespace Go.Proofs.YtijinpnbhnfiiaaDoor
open Go.RowKit
set_option linter.unusedVariables false

/-- A Builder at b with the bytes l in a row from B on. -/
def Bx (w : World) (b B : Nat) (l : List UInt8) : Prop := ∃ u v, (u = .pointer none ∨ u = .pointer (some ⟨b, 0, none⟩)) ∧ w.heap[b]? = some (.cells #[u, v] 46 (0, 0)) ∧ w.ownsRow B 5 1 v l.length (Lib.byteCells l)
/-- Nothing below b, nothing between b and B is written. -/
def Sid (b B : Nat) (w w' : World) : Prop := Below b w w' ∧ ∀ k, b < k → k < B → w'.heap[k]? = w.heap[k]?
theorem Sid.trans {b B : Nat} {x y z : World} (h : Sid b B x y) (g : Sid b B y z) : Sid b B x z := ⟨h.1.trans g.1, fun k h1 h2 => (g.2 k h1 h2).trans (h.2 k h1 h2)⟩
theorem set2 {w : World} {b : Nat} {x y : Value} {t : TypeId} (h : w.heap[b]? = some (.cells #[x, y] t (0, 0))) (u : Value) :
    (w.setCell ⟨b, 0, none⟩ u).heap[b]? = some (.cells #[u, y] t (0, 0)) ∧ (w.setCell ⟨b, 1, none⟩ u).heap[b]? = some (.cells #[x, u] t (0, 0)) := by
  have hlt := lt_of_block h
  have h' : w.heap[b] = .cells #[x, y] t (0, 0) := by simpa [Array.getElem?_eq_getElem hlt] using h
  constructor
  · show (w.heap.modify b _)[b]? = _
    rw [Array.getElem?_eq_getElem (by simpa using hlt), Array.getElem_modify_self, h']
    rfl
  · show (w.heap.modify b _)[b]? = _
    rw [Array.getElem?_eq_getElem (by simpa using hlt), Array.getElem_modify_self, h']
    rfl
theorem sid_set {w : World} {b B : Nat} (o : Nat) (u : Value) : Sid b B w (w.setCell ⟨b, o, none⟩ u) :=
  ⟨(Below.refl b w).setCell (p := ⟨b, o, none⟩) (Nat.le_refl _) _, fun k h1 h2 => Below.heap_setCell w ⟨b, o, none⟩ u k (by show k ≠ b; omega)⟩

theorem owns_lower {w : World} {B b : Nat} {e : TypeId} {v : Value} {n : Nat} {xs : List Value} (h : w.ownsRow B e 1 v n xs) (hb : b ≤ B) : w.ownsRow b e 1 v n xs := by
  refine ⟨h.1, ?_⟩
  rcases h.2 with h | ⟨g, cap, cur, h1, h2, h3⟩
  · exact .inl h
  · exact .inr ⟨g, cap, cur, h1, by omega, h3⟩

theorem Bx.bld {w : World} {b B : Nat} {l : List UInt8} (h : Bx w b B l) (hb : b < B) : Bld b b (Lib.byteCells l) w := by
  obtain ⟨u, v, hu, hbk, hr⟩ := h
  have hne : v.ownBlock ≠ some b := fun e => by
    rcases hr.2 with ⟨rfl, _⟩ | ⟨g, cap, cur, rfl, h2, _⟩
    · cases e
    · have : g = b := by simpa [Value.ownBlock] using e
      omega
  have hr2 : w.ownsRow b 5 1 v (Lib.byteCells l).length (Lib.byteCells l) := by rw [Lib.byteCells_length]; exact owns_lower hr (by omega)
  rcases hu with rfl | rfl
  · exact .inl ⟨Nat.le_refl _, v, hbk, hr2, hne⟩
  · exact .inr ⟨Nat.le_refl _, v, hbk, hr2, hne⟩

theorem check_bx (w : World) (b B : Nat) (l : List UInt8) (h : Bx w b B l) (hb : b < B) :
    Calls Tryd.prog 41 #[.pointer (some ⟨b, 0, none⟩)] w fun e w' => e = .returned (.tuple #[]) ∧ Sid b B w w' ∧ ∃ v, w'.heap[b]? = some (.cells #[.pointer (some ⟨b, 0, none⟩), v] 46 (0, 0)) ∧ w'.ownsRow B 5 1 v l.length (Lib.byteCells l) := by
  obtain ⟨u, v, hu, hbk, hr⟩ := h
  have c0 : w.cell? ⟨b, 0, none⟩ = some u := by simp [World.cell?, hbk]
  rcases hu with rfl | rfl
  · refine (check_fresh b w c0 (by simp [World.shape?, hbk]) (by simp [World.frozen?, hbk])).mono ?_
    rintro e w' ⟨rfl, rfl⟩
    exact ⟨rfl, sid_set _ _, v, (set2 hbk _).1, owns_set hr hb _ _⟩
  · refine (check_used b w c0).mono ?_
    rintro e w' ⟨rfl, rfl⟩
    exact ⟨rfl, ⟨Below.refl _ _, fun _ _ _ => rfl⟩, v, hbk, hr⟩

set_option maxHeartbeats 2000000 in
set_option maxRecDepth 100000 in
theorem wrune_any (w : World) (b B : Nat) (l : List UInt8) (r : Int) (h : Bx w b B l) (hb : b < B) (hr0 : -2147483648 ≤ r) (hr1 : r ≤ 2147483647) (hlen : l.length ≤ 1000000) (hBw : B ≤ w.heap.size) :
    Calls Tryd.prog 51 #[.pointer (some ⟨b, 0, none⟩), .int .i32 r] w fun e w' => (∃ n, e = .returned (.tuple #[.int .i64 n, .nilIface])) ∧ Bx w' b B (l ++ Lib.encodeRune r) ∧ Sid b B w w' := by
  go_enter Tryd.func51, Tryd.ntmps51
  go_wp2_with fail
  refine (check_bx w b B l h hb).mono ?_
  rintro e w1 ⟨rfl, hs1, v, hbk, hown⟩
  have hf := row_form hown
  obtain ⟨a0, n0, cap0, rfl⟩ := hf
  have hw1 : B ≤ w1.heap.size := Nat.le_trans hBw hs1.1.size
  have c0 : w1.cell? ⟨b, 0, none⟩ = some (.pointer (some ⟨b, 0, none⟩)) := by rw [Lib.cell_of_heap hbk]; rfl
  have c1 : w1.cell? ⟨b, 1, none⟩ = some (.slice a0 n0 cap0) := by rw [Lib.cell_of_heap hbk]; rfl
  have HOWN := Lib.hid hown
  have HBK := Lib.hid hbk
  have HS1 := Lib.hid hs1
  clear hown hbk hs1 h
  go_wp2_with fail
  refine (Tryd.utf8_AppendRune_plain B _ l.length (Lib.byteCells l) r hr0 hr1 _ HOWN.out (by omega) hw1).mono ?_
  rintro e w2 ⟨v2, rfl, hown2, o, hgr⟩
  rw [← Lib.byteCells_encodeRune, Lib.byteCells_length] at hown2
  have hlt : b < w1.heap.size := lt_of_block HBK.out
  have hne : ∀ k, k < B → some k ≠ (Value.slice a0 n0 cap0).ownBlock := fun k hk e => by
    have := (HOWN.out.lt k e.symm).1
    omega
  have hks : ∀ k, k < B → w2.heap[k]? = w1.heap[k]? := fun k hk => by
    rw [hgr.block k (by simp; omega) (hne k hk), Below.heap_alloc w1 o k (by omega)]
  have hbl : Below b w1 w2 := ((Below.refl b w1).alloc (by omega) o).grown hgr (by simp; omega) (fun k hk => by have := (HOWN.out.lt k hk).1; omega)
  have hb2 : w2.heap[b]? = some (.cells #[.pointer (some ⟨b, 0, none⟩), .slice a0 n0 cap0] 46 (0, 0)) := (hks b hb).trans HBK.out
  have d0 : w2.cell? ⟨b, 0, none⟩ = some (.pointer (some ⟨b, 0, none⟩)) := by rw [Lib.cell_of_heap hb2]; rfl
  have d1 : w2.cell? ⟨b, 1, none⟩ = some (.slice a0 n0 cap0) := by rw [Lib.cell_of_heap hb2]; rfl
  have f1 : w2.frozen? ⟨b, 1, none⟩ = false := Lib.frozen_of_heap hb2 1
  obtain ⟨ao, n', cap, rfl⟩ := row_form hown2
  have HS2 : Hid (Sid b B w (w2.setCell ⟨b, 1, none⟩ (.slice ao n' cap))) := HS1.out.trans ((show Sid b B w1 w2 from ⟨hbl, fun k _ h2 => hks k h2⟩).trans (sid_set _ _))
  have HX2 : Hid (Bx (w2.setCell ⟨b, 1, none⟩ (.slice ao n' cap)) b B (l ++ Lib.encodeRune r)) := by
    refine ⟨_, _, .inr rfl, (set2 hb2 _).2, ?_⟩
    rw [List.length_append, Lib.byteCells_append]
    exact owns_set hown2 hb _ _
  clear hown2 hgr hks hbl hb2 hne HOWN HBK HS1
  go_wp2
  go_ret2
  exact ⟨⟨_, rfl⟩, HX2.out, HS2.out⟩
end Go.Proofs.YtijinpnbhnfiiaaDoor
