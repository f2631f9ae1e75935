/- append of a slice of bytes that came in, whatever it is, to a row of the call's own. -/
import Derived.Test.YtnghlhkgeahfmaaDoorVerText
import Derived.Deep.AppendSrc
import Derived.Laws.AppendOwnNone
namespace Go.Proofs.YtnghlhkgeahfmaaDoor
open Go.RowKit

theorem Tryd.info5 : (Tryd.prog.info? 5).map (fun i => (i.zero, i.size, i.bytes)) = some (some (.int .u8 0), 1, 1) := by kernel_rfl

theorem plain_add (b off i : Nat) : (⟨b, off, none⟩ : Addr).add i = ⟨b, off + i, none⟩ := by unfold Addr.add; split <;> simp_all

theorem byteCells_get (s : ByteArray) (j : Nat) (u : Value) (h : (byteCells s)[j]? = some u) : ∃ hj : j < s.size, u = .int .u8 (s[j].toNat : Int) := by
  have hj : j < s.size := by
    rcases Nat.lt_or_ge j s.size with h' | h'
    · exact h'
    · rw [List.getElem?_eq_none (by rw [byteCells_length]; exact h')] at h; cases h
  refine ⟨hj, ?_⟩
  unfold byteCells at h
  rw [List.getElem?_map, List.getElem?_eq_getElem (by simpa using hj)] at h
  have := Option.some.inj h
  rw [← this]
  simp
  rfl

/-- append of a slice of bytes that came in, whatever it is, to a row of the call's own. -/
theorem app_text {ops : Array Oper} {rest : List Oper} {o : Oper} {act : Act} {Q : Exit → Act → World → Prop} {w : World} (hgd : o.guard = none) (x y : Operand)
    (ho : o.op = .call { callee := .builtin .append, args := #[x, y], argTypes := #[31, 31] }) (base : Nat) (v : Value) (n : Nat) (xs : List Value) (hs : act.eval x = v) (hown : w.ownsRow base 5 1 v n xs)
    (a : Option Addr) (s : ByteArray) (cap : Nat) (hy : act.eval y = .slice a s.size cap) (ht : Text w a s) (hc : a = none → cap = 0) (hn : n + s.size ≤ 1000000) (hbase : base ≤ w.heap.size)
    (h : ∀ v' w', w'.ownsRow base 5 1 v' (n + s.size) (xs ++ byteCells s) → w.grownBy w' v.ownBlock → wpList Tryd.prog ops Q rest (act.put o.dst v') w') : wpList Tryd.prog ops Q (o :: rest) act w := by
  obtain ⟨i0, hi, hz0, hz1, hz2⟩ := info_parts Tryd.info5
  cases a with
  | none =>
    have h0 : s.size = 0 := by
      rcases ht with h | ⟨_, _, h, _⟩
      · exact h
      · cases h
    have e : byteCells s = [] := List.length_eq_zero_iff.1 (by rw [byteCells_length]; exact h0)
    rw [hc rfl, h0] at hy
    rw [h0, e] at h
    refine wpList_append_own_none hgd x y 31 ho base 5 i0 1 Tryd.underlying31 hi v n xs hs hown hy (h v w (by simpa using hown) ?_)
    exact ⟨rfl, rfl, rfl, Nat.le_refl _, fun _ _ _ => rfl⟩
  | some ad =>
    refine wpList_append_own _ hgd x y 31 ho base 5 i0 (.int .u8 0) 1 1 Tryd.underlying31 hi hz0 hz1 hz2 rfl (by decide) v n xs hs hown ad s.size cap (byteCells s) hy (by rw [byteCells_length, Nat.mul_one]) (fun j u hj => ?_) (fun u hu => ?_) (by unfold maxLen; omega) (by omega) hbase (fun v' w' h1 h2 _ => h v' w' h1 h2)
    · obtain ⟨hjs, rfl⟩ := byteCells_get s j u hj
      rcases ht with h | ⟨b, off, he, _, hB⟩
      · omega
      · cases he
        rw [plain_add]
        exact hB j hjs
    · unfold byteCells at hu
      obtain ⟨_, _, rfl⟩ := List.mem_map.1 hu
      rfl

/-- What was there stands behind an append to a row of the call's own. -/
theorem below_own {B : Nat} {w u u' : World} {v : Value} {n : Nat} {xs : List Value} (h : Below B w u) (hg : u.grownBy u' v.ownBlock) (hB : B ≤ u.heap.size) (hown : u.ownsRow B 5 1 v n xs) : Below B w u' :=
  Below.grown h hg hB (fun k hk => (hown.lt k hk).1)

/-- The row is the text. -/
theorem copied {w : World} {B : Nat} {s : ByteArray} {v : Value} (h : w.ownsRow B 5 1 v s.size (byteCells s)) : ∃ a cap, v = .slice a s.size cap ∧ Text w a s ∧ s.size ≤ cap := by
  rcases h.2 with ⟨rfl, h0⟩ | ⟨g, cap, cur, rfl, _, hh, hn, _⟩
  · exact ⟨none, 0, by rw [h0], .inl h0, by omega⟩
  refine ⟨some ⟨g, 0, none⟩, cap, rfl, .inr ⟨g, 0, rfl, lt_of_block hh, fun i hi => ?_⟩, hn⟩
  have hc := h.cellAt i (by omega)
  rw [Nat.zero_add, hc]
  have hl : i < (byteCells s).length := by rw [byteCells_length]; exact hi
  obtain ⟨_, h2⟩ := byteCells_get s i _ (List.getElem?_eq_getElem hl)
  rw [List.getElem?_eq_getElem hl, h2]
end Go.Proofs.YtnghlhkgeahfmaaDoor
