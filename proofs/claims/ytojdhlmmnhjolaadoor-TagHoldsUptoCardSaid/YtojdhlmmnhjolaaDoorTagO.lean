/- A constraint that came in, opened: the document's Expr in memory. -/
import Derived.Test.YtojdhlmmnhjolaaDoorTag5
import Derived.Test.YtojdhlmmnhjolaaDoorTagW
import Derived.Lib.SmallJoins
namespace Go.Proofs.YtojdhlmmnhjolaaDoor
open Go.ChangeShapes Go.WideShapes Go.RowKit Go.Deep
set_option linter.unusedVariables false

mutual
/-- How much is in it. -/
def bulkE : Ex → Nat
  | .mk op tag kids => op.size + tag.size + bulkL kids + 4
def bulkL : List Ex → Nat
  | [] => 0
  | x :: r => bulkE x + bulkL r
end
theorem bulkL_len : ∀ l : List Ex, 4 * l.length ≤ bulkL l
  | [] => by rw [bulkL]; exact Nat.le_refl _
  | .mk op tag kids :: r => by
    have := bulkL_len r
    rw [bulkL, bulkE, List.length_cons]
    omega
mutual
theorem small_bulk : ∀ x : Ex, bulkE x ≤ 1048576 → Small x
  | .mk op tag kids, h => by
    rw [bulkE] at h
    have := bulkL_len kids
    rw [Small]
    exact ⟨by omega, by omega, smallL_bulk kids (by omega)⟩
theorem smallL_bulk : ∀ l : List Ex, bulkL l ≤ 1048576 → SmallL l
  | [], h => by rw [SmallL]; trivial
  | x :: r, h => by
    rw [bulkL] at h
    rw [SmallL]
    exact ⟨small_bulk x (by omega), smallL_bulk r (by omega)⟩
end
section
variable {H : Type} {enc : TypeId × Value → H} {W : World} {sp : Nat → Bool}

theorem ex_cells : Tryd.prog.cellsOf 24 = 3 := by kernel_rfl
theorem str_cell : Tryd.prog.cellsOf 9 = 1 := by kernel_rfl
theorem kids_cell : Tryd.prog.cellsOf 22 = 1 := by kernel_rfl

theorem open_kids (b o : Nat) : ∀ (elems : List (DataW H × List MemPlace)) (j : Nat),
    (∀ i y, elems[i]? = some y → ∃ c0 c1 c2 x, W.cell? ⟨b, o + (j + i) * 3, none⟩ = some c0 ∧ W.cell? ⟨b, o + (j + i) * 3 + 1, none⟩ = some c1 ∧ W.cell? ⟨b, o + (j + i) * 3 + 2, none⟩ = some c2 ∧ ExtAt W (fun _ => True) x (.agg #[c0, c1, c2]) ∧ bulkE x ≤ Rows.uptoBulk y.1) →
    ∃ l : List Ex, l.length = elems.length ∧ ExtL W (fun _ => True) l (some ⟨b, o, none⟩) j ∧ bulkL l ≤ Rows.uptoBulkAll (elems.map (·.1))
  | [], j, h => ⟨[], rfl, by rw [ExtL]; trivial, by rw [bulkL]; exact Nat.zero_le _⟩
  | y :: r, j, h => by
    obtain ⟨c0, c1, c2, x, h0, h1, h2, hx, hb⟩ := h 0 y rfl
    obtain ⟨l, hl, he, hbl⟩ := open_kids b o r (j + 1) (fun i z hz => by
      have := h (i + 1) z (by simpa using hz)
      rw [show j + (i + 1) = j + 1 + i by omega] at this
      exact this)
    refine ⟨x :: l, by rw [List.length_cons, List.length_cons, hl], ?_, ?_⟩
    · rw [ExtL]
      exact ⟨⟨b, o, c0, c1, c2, rfl, trivial, h0, h1, h2, hx⟩, he⟩
    · rw [bulkL, List.map_cons, Rows.uptoBulkAll]
      omega

theorem add_at (b o i : Nat) : (⟨b, o, none⟩ : Addr).add i = ⟨b, o + i, none⟩ := by unfold Addr.add; split <;> simp_all

theorem open_ex : ∀ (n : Nat) (c0 c1 c2 : Value) (y : DataW H × List MemPlace), DataW.trod enc Tryd.prog W 0 sp true n 24 [c0, c1, c2] = some y →
    ∃ x, ExtAt W (fun _ => True) x (.agg #[c0, c1, c2]) ∧ bulkE x ≤ Rows.uptoBulk y.1 := by
  intro n
  induction n using Nat.strongRecOn with
  | _ n ih =>
  intro c0 c1 c2 y h
  obtain ⟨xs, m, rfl, rfl, hcs, hl, hf⟩ := DataW.trod_struct Tryd.underlying24 h
  match xs, hl with
  | [y0, y1, y2], _ =>
  have f0 := hf 0 _ rfl
  have f1 := hf 1 _ rfl
  have f2 := hf 2 _ rfl
  simp [str_cell, kids_cell] at f0 f1 f2
  obtain ⟨s0, e0, rfl, -⟩ := DataW.trod_string Tryd.underlying9 f0
  obtain ⟨s1, e1, rfl, -⟩ := DataW.trod_string Tryd.underlying9 f1
  simp only [List.cons.injEq, and_true] at e0 e1
  subst e0 e1
  rcases DataW.trod_slice Tryd.underlying22 f2 with ⟨e2, rfl⟩ | ⟨a, len, cap, elems, rest, k, rfl, e2, rfl, _, hlc, _, hlen, hall, _⟩
  · simp only [List.cons.injEq, and_true] at e2
    subst e2
    refine ⟨.mk s0 s1 [], ?_, ?_⟩
    · rw [ExtAt_eq]
      exact ⟨none, 0, rfl, extk_nil _ _⟩
    · rw [bulkE, bulkL]
      simp only [List.map_cons, List.map_nil, Rows.uptoBulk, Rows.uptoBulkAll]
      rw [Array.length_toList, Array.length_toList]
      show s0.data.size + s1.data.size + 0 + 4 ≤ _
      omega
  · simp only [List.cons.injEq, and_true] at e2
    subst e2
    have each : ∀ i y, elems[i]? = some y → ∃ d0 d1 d2 x, W.cell? (a.add (i * 3)) = some d0 ∧ W.cell? ((a.add (i * 3)).add 1) = some d1 ∧ W.cell? ((a.add (i * 3)).add 2) = some d2 ∧ ExtAt W (fun _ => True) x (.agg #[d0, d1, d2]) ∧ bulkE x ≤ Rows.uptoBulk y.1 := by
      intro i y hy
      have hi : i < len := by have := (List.getElem?_eq_some_iff.1 hy).1; omega
      have hb := hall i hi
      rw [hy, ex_cells, Option.bind_eq_some_iff] at hb
      obtain ⟨cs', hcs', hy'⟩ := hb
      obtain ⟨_, hlen', hcell⟩ := World.cells?_some hcs'
      match cs', hlen' with
      | [d0, d1, d2], _ =>
      obtain ⟨x, hx, hbx⟩ := ih k (by omega) d0 d1 d2 y hy'
      have g0 := hcell 0 (by omega)
      rw [show (a.add (i * 3)).add 0 = a.add (i * 3) from rfl] at g0
      exact ⟨d0, d1, d2, x, g0, hcell 1 (by omega), hcell 2 (by omega), hx, hbx⟩
    cases elems with
    | nil =>
      simp only [List.length_nil] at hlen
      subst hlen
      refine ⟨.mk s0 s1 [], ?_, ?_⟩
      · rw [ExtAt_eq]
        exact ⟨some a, cap, rfl, by rw [ExtK, ExtL]; exact ⟨trivial, hlc⟩⟩
      · rw [bulkE, bulkL]
        simp only [List.map_cons, List.map_nil, Rows.uptoBulk, Rows.uptoBulkAll]
        rw [Array.length_toList, Array.length_toList]
        show s0.data.size + s1.data.size + 0 + 4 ≤ _
        omega
    | cons z r =>
      obtain ⟨b, o, spot⟩ := a
      have hspot : spot = none := by
        obtain ⟨d0, _, _, _, g0, _⟩ := each 0 z rfl
        simpa [Addr.add] using World.cell?_spot g0
      subst hspot
      obtain ⟨l, hl, he, hbl⟩ := open_kids (W := W) b o (z :: r) 0 (fun i y hy => by
        obtain ⟨d0, d1, d2, x, g0, g1, g2, hx, hbx⟩ := each i y hy
        rw [add_at] at g0 g1 g2
        rw [add_at] at g1 g2
        rw [Nat.zero_add]
        exact ⟨d0, d1, d2, x, g0, g1, g2, hx, hbx⟩)
      refine ⟨.mk s0 s1 l, ?_, ?_⟩
      · rw [ExtAt_eq]
        exact ⟨some ⟨b, o, none⟩, cap, by rw [hl, hlen], by rw [ExtK]; exact ⟨he, by rw [hl, hlen]; exact hlc⟩⟩
      · rw [bulkE]
        simp only [List.map_cons, List.map_nil, Rows.uptoBulk, Rows.uptoBulkAll] at hbl ⊢
        rw [Array.length_toList, Array.length_toList]
        show s0.data.size + s1.data.size + bulkL l + 4 ≤ _
        omega
end
end Go.Proofs.YtojdhlmmnhjolaaDoor
