/- The walk of demoticlaw01.PlaceJoins: it returns true, and writes nothing that was there. -/
import Derived.Test.YthohljlfbakkhaaKept
import Derived.Test.YthohljlfbakkhaaJoin
import Derived.Deep.AppendSrc
import Derived.Laws.AppendOwnNone
namespace Go.Proofs.Ythohljlfbakkhaa
open Go.RowKit

theorem Try.info5 : (Try.prog.info? 5).map (fun i => (i.zero, i.size, i.bytes)) = some (some (.int .u8 0), 1, 1) := by kernel_rfl

theorem plain_add (b off i : Nat) : (⟨b, off, none⟩ : Addr).add i = ⟨b, off + i, none⟩ := by unfold Addr.add; split <;> simp_all

theorem byteCells_get (s : ByteArray) (j : Nat) (u : Value) (h : (byteCells s)[j]? = some u) : ∃ hj : j < s.size, u = .int .u8 (s[j].toNat : Int) := by
  have hj : j < s.size := by
    rcases Nat.lt_or_ge j s.size with h' | h'
    · exact h'
    · rw [List.getElem?_eq_none (by rw [byteCells_length]; exact h')] at h; cases h
  refine ⟨hj, ?_⟩
  unfold byteCells at h
  rw [List.getElem?_map, List.getElem?_eq_getElem (by simpa using hj)] at h
  have := Option.some.inj h
  rw [← this]
  simp
  rfl

/-- append of a slice of bytes that came in, whatever it is, to a row of the call's own. -/
theorem app_text {ops : Array Oper} {rest : List Oper} {o : Oper} {act : Act} {Q : Exit → Act → World → Prop} {w : World} (hgd : o.guard = none) (x y : Operand)
    (ho : o.op = .call { callee := .builtin .append, args := #[x, y], argTypes := #[22, 22] }) (base : Nat) (v : Value) (n : Nat) (xs : List Value) (hs : act.eval x = v) (hown : w.ownsRow base 5 1 v n xs)
    (a : Option Addr) (s : ByteArray) (cap : Nat) (hy : act.eval y = .slice a s.size cap) (ht : Text w a s) (hc : a = none → cap = 0) (hn : n + s.size ≤ 1000000) (hbase : base ≤ w.heap.size)
    (h : ∀ v' w', w'.ownsRow base 5 1 v' (n + s.size) (xs ++ byteCells s) → w.grownBy w' v.ownBlock → wpList Try.prog ops Q rest (act.put o.dst v') w') : wpList Try.prog ops Q (o :: rest) act w := by
  obtain ⟨i0, hi, hz0, hz1, hz2⟩ := info_parts Try.info5
  cases a with
  | none =>
    have h0 : s.size = 0 := by
      rcases ht with h | ⟨_, _, h, _⟩
      · exact h
      · cases h
    have e : byteCells s = [] := List.length_eq_zero_iff.1 (by rw [byteCells_length]; exact h0)
    rw [hc rfl, h0] at hy
    rw [h0, e] at h
    refine wpList_append_own_none hgd x y 22 ho base 5 i0 1 Try.underlying22 hi v n xs hs hown hy (h v w (by simpa using hown) ?_)
    exact ⟨rfl, rfl, rfl, Nat.le_refl _, fun _ _ _ => rfl⟩
  | some ad =>
    refine wpList_append_own _ hgd x y 22 ho base 5 i0 (.int .u8 0) 1 1 Try.underlying22 hi hz0 hz1 hz2 rfl (by decide) v n xs hs hown ad s.size cap (byteCells s) hy (by rw [byteCells_length, Nat.mul_one]) (fun j u hj => ?_) (fun u hu => ?_) (by unfold maxLen; omega) (by omega) hbase (fun v' w' h1 h2 _ => h v' w' h1 h2)
    · obtain ⟨hjs, rfl⟩ := byteCells_get s j u hj
      rcases ht with h | ⟨b, off, he, _, hB⟩
      · omega
      · cases he
        rw [plain_add]
        exact hB j hjs
    · unfold byteCells at hu
      obtain ⟨_, _, rfl⟩ := List.mem_map.1 hu
      rfl

/-- append of the one byte 10, laid in a block of its own. -/
theorem app_ten {ops : Array Oper} {rest : List Oper} {o : Oper} {act : Act} {Q : Exit → Act → World → Prop} {w : World} (hgd : o.guard = none) (x y : Operand)
    (ho : o.op = .call { callee := .builtin .append, args := #[x, y], argTypes := #[22, 22] }) (base : Nat) (v : Value) (n : Nat) (xs : List Value) (hs : act.eval x = v) (hown : (w.alloc (.cells #[.int .u8 10] 5)).ownsRow base 5 1 v n xs)
    (hy : act.eval y = .slice (some ⟨w.heap.size, 0, none⟩) 1 1) (hn : n ≤ 1000000) (hbase : base ≤ w.heap.size)
    (h : ∀ v' w', w'.ownsRow base 5 1 v' (n + 1) (xs ++ [.int .u8 10]) → (w.alloc (.cells #[.int .u8 10] 5)).grownBy w' v.ownBlock → wpList Try.prog ops Q rest (act.put o.dst v') w') : wpList Try.prog ops Q (o :: rest) act (w.alloc (.cells #[.int .u8 10] 5)) := by
  obtain ⟨i0, hi, hz0, hz1, hz2⟩ := info_parts Try.info5
  exact wpList_append_own _ hgd x y 22 ho base 5 i0 (.int .u8 0) 1 1 Try.underlying22 hi hz0 hz1 hz2 rfl (by decide) v n xs hs hown ⟨w.heap.size, 0, none⟩ 1 1 [.int .u8 10] hy rfl (cell_one_new _ _ _) (fun u hu => by simp at hu; subst hu; rfl) (by unfold maxLen; omega) (by omega) (by simp; omega) (fun v' w' h1 h2 _ => h v' w' h1 h2)

/-- What was there stands behind an append to a row of the call's own. -/
theorem below_own {B : Nat} {w u u' : World} {v : Value} {n : Nat} {xs : List Value} (h : Below B w u) (hg : u.grownBy u' v.ownBlock) (hB : B ≤ u.heap.size) (hown : u.ownsRow B 5 1 v n xs) : Below B w u' :=
  Below.grown h hg hB (fun k hk => (hown.lt k hk).1)

/-- The row is the two texts with a line's end between. -/
theorem joined {w : World} {B : Nat} {s t : ByteArray} {v : Value} (h : w.ownsRow B 5 1 v (s.size + 1 + t.size) ((byteCells s ++ [.int .u8 10]) ++ byteCells t)) :
    ∃ g cap, v = .slice (some ⟨g, 0, none⟩) (jn s t).size cap ∧ Text w (some ⟨g, 0, none⟩) (jn s t) := by
  rcases h.2 with ⟨_, h0⟩ | ⟨g, cap, cur, rfl, _, hh, _⟩
  · omega
  refine ⟨g, cap, by rw [jn_size], .inr ⟨g, 0, rfl, lt_of_block hh, fun i hi => ?_⟩⟩
  have hc := h.cellAt i (by rw [jn_size] at hi; omega)
  rw [Nat.zero_add, hc]
  have e : (byteCells s ++ [.int .u8 10]) ++ byteCells t = byteCells (jn s t) := by
    unfold byteCells
    rw [jn_list]
    simp
  rw [e]
  have hl : i < (byteCells (jn s t)).length := by rw [byteCells_length]; exact hi
  obtain ⟨_, h2⟩ := byteCells_get (jn s t) i _ (List.getElem?_eq_getElem hl)
  rw [List.getElem?_eq_getElem hl, h2]

set_option maxHeartbeats 400000 in
set_option maxRecDepth 100000 in
theorem joins_walk (a0 a1 : Option Addr) (cap0 cap1 : Nat) (s t : ByteArray) (i : Int) (w : World) (hs : Text w a0 s) (ht : Text w a1 t) (hc0 : a0 = none → cap0 = 0) (hc1 : a1 = none → cap1 = 0) (hi0 : 0 ≤ i) (hi1 : i ≤ 65535) :
    Calls Try.prog 6 #[.slice a0 s.size cap0, .slice a1 t.size cap1, .int .u16 i] w fun e w' => e = .returned (.bool true) ∧ Below w.heap.size w w' := by
  by_cases hl : 300 < s.size
  · clear hs ht hc0 hc1
    go_enter Try.func6, Try.ntmps6
    go_wp2
    go_ret
    exact ⟨rfl, Below.refl _ _⟩
  by_cases hl2 : 300 < t.size
  · clear hs ht hc0 hc1
    go_enter Try.func6, Try.ntmps6
    go_wp2
    go_ret
    exact ⟨rfl, Below.refl _ _⟩
  have HS := Lib.hid hs
  have HT := Lib.hid ht
  have HC0 := Lib.hid hc0
  have HC1 := Lib.hid hc1
  have hd1 : decide ((300 : Int) < (s.size : Int)) = false := by simp; omega
  have hd2 : decide ((300 : Int) < (t.size : Int)) = false := by simp; omega
  have hw1 := (Below.refl w.heap.size w).alloc (Nat.le_refl _) (.cells #[] 5)
  have HS1 := Lib.hid (hs.below hw1)
  have HW1 := Lib.hid hw1
  have HO : (w.alloc (.cells #[] 5)).ownsRow w.heap.size 5 1 (.slice (some ⟨w.heap.size, 0, none⟩) 0 0) 0 [] := ⟨rfl, .inr ⟨w.heap.size, 0, #[], rfl, Nat.le_refl _, heap_alloc_new _ _, Nat.le_refl _, Nat.zero_le _, rfl, rfl⟩⟩
  have HO1 := Lib.hid HO
  clear hs ht hc0 hc1 hw1 HO
  go_enter Try.func6, Try.ntmps6
  go_wp2_with (first | (at_builtin; refine app_text rfl (.tmp 19) (.tmp 20) rfl w.heap.size _ 0 [] rfl HO1.out a0 s cap0 rfl HS1.out HC0.out (by omega) (by simp) ?_; intro v1 w1 hown1 hgr1; simp only [Nat.zero_add, List.nil_append] at hown1; have hg1 := below_own HW1.out hgr1 (by simp) HO1.out; have HO2 := Lib.hid (hown1.alloc (.cells #[.int .u8 10] 5)); have HW2 := Lib.hid hg1; have hz1 := hg1.size; clear hown1 hgr1 hg1) | (at_builtin; refine app_ten rfl (.tmp 21) (.tmp 22) rfl w.heap.size _ s.size (byteCells s) rfl HO2.out rfl (by omega) hz1 ?_; intro v2 w2 hown2 hgr2; have hg2 := below_own (HW2.out.alloc hz1 _) hgr2 (by simp; omega) HO2.out; have HO3 := Lib.hid hown2; have HW3 := Lib.hid hg2; have hz2 := hg2.size; clear hown2 hgr2 hg2) | (at_builtin; refine app_text rfl (.tmp 23) (.tmp 24) rfl w.heap.size _ (s.size + 1) _ rfl HO3.out a1 t cap1 rfl (HT.out.below HW3.out) HC1.out (by omega) hz2 ?_; intro v3 w3 hown3 hgr3; have hg3 := below_own HW3.out hgr3 hz2 HO3.out; have HJ := Lib.hid (joined hown3); have HW4 := Lib.hid hg3; clear hown3 hgr3 hg3))
  obtain ⟨g, cap, rfl, hJ⟩ := HJ.out
  have HJ2 := Lib.hid hJ
  have HT3 := Lib.hid (HT.out.below HW4.out)
  have HS3 := Lib.hid (HS.out.below HW4.out)
  clear hJ HJ HT HS HO1 HO2 HO3 HW1 HW2 HW3 HS1 HC0 HC1
  have hx0 := Int.emod_nonneg i (show (t.size : Int) + 1 ≠ 0 by omega)
  have hx1 := Int.emod_lt_of_pos i (show (0 : Int) < (t.size : Int) + 1 by omega)
  generalize i % ((t.size : Int) + 1) = x at *
  obtain ⟨k, rfl⟩ : ∃ k : Nat, x = k := ⟨x.toNat, by omega⟩
  have hk : k ≤ t.size := by omega
  clear hx0 hx1 hi0 hi1
  refine (of_any t a1 cap1 k _ (by omega) HT3.out).mono ?_
  rintro e w4 ⟨rfl, hb⟩
  have HB4 := Lib.hid (HW4.out.trans (hb.mono HW4.out.size))
  have HJ4 := Lib.hid (HJ2.out.below hb)
  have HT4 := Lib.hid (HT3.out.below hb)
  have HS4 := Lib.hid (HS3.out.below hb)
  have hjs : (jn s t).size ≤ 1000000 := by rw [jn_size]; omega
  obtain ⟨hj1, hj2⟩ := of_jn s t k hk
  have hbs := st_bounds s s.size
  have hbt := st_bounds t k
  have el : ofL s s.size = (st s s.size).2.1 := by unfold ofL; rw [if_neg (by omega), Int.toNat_natCast]
  have et : ofL t k = (st t k).2.1 := by unfold ofL; rw [if_neg (by omega), Int.toNat_natCast]
  have hlp : ofL t k ≤ t.size + 1 := by omega
  have hla : ofL s s.size ≤ s.size + 1 := by omega
  clear hbs hbt el et
  have hq := of_any (jn s t) (some ⟨g, 0, none⟩) cap ((s.size : Int) + 1 + k) w4 hjs HJ4.out
  rw [hj1, hj2] at hq
  have HQ := Lib.hid hq
  clear hb HW4 HJ2 HT3 HS3 hq hj1 hj2
  go_wp2_with fail
  refine HQ.out.mono ?_
  rintro e w5 ⟨rfl, hb⟩
  have HB5 := Lib.hid (HB4.out.trans (hb.mono HB4.out.size))
  have HJ5 := Lib.hid (HJ4.out.below hb)
  have HT5 := Lib.hid (HT4.out.below hb)
  have HS5 := Lib.hid (HS4.out.below hb)
  have hn1 : nl s ≤ s.size := Nat.le_trans List.count_le_length (by simp)
  have hn2 : nl t ≤ t.size := Nat.le_trans List.count_le_length (by simp)
  generalize ofL t k = lp at *
  generalize ofC t k = cp at *
  have hlc : ∀ u v : Nat, ((u + v : Nat) : Int) = (u : Int) + v := fun u v => by omega
  rw [hlc]
  clear hb HB4 HJ4 HT4 HS4 HQ hlc
  go_wp2_with fail
  have hW := ((Below.refl w5.heap.size w5).alloc (Nat.le_refl _) (.cells #[.int .i64 lp, .int .i64 cp] 26)).alloc (by simp) (.cells #[.int .i64 ((lp : Int) + (ofL s s.size : Int)), .int .i64 cp] 26)
  have q1 : ((w5.alloc (.cells #[.int .i64 lp, .int .i64 cp] 26)).alloc (.cells #[.int .i64 ((lp : Int) + (ofL s s.size : Int)), .int .i64 cp] 26)).heap[w5.heap.size]? = some (.cells #[.int .i64 lp, .int .i64 cp] 26 (0, 0)) := by
    rw [Below.heap_alloc _ _ _ (by simp)]; exact heap_alloc_new _ _
  have q2 : ((w5.alloc (.cells #[.int .i64 lp, .int .i64 cp] 26)).alloc (.cells #[.int .i64 ((lp : Int) + (ofL s s.size : Int)), .int .i64 cp] 26)).heap[w5.heap.size + 1]? = some (.cells #[.int .i64 ((lp : Int) + (ofL s s.size : Int)), .int .i64 cp] 26 (0, 0)) := by
    have h := heap_alloc_new (w5.alloc (.cells #[.int .i64 lp, .int .i64 cp] 26)) (.cells #[.int .i64 ((lp : Int) + (ofL s s.size : Int)), .int .i64 cp] 26)
    rw [World.size_alloc] at h; exact h
  have c0 := Kept.cell (two_cells q1).1
  have c1 := Kept.cell (two_cells q1).2.1
  have c2 := Kept.cell (two_cells q2).1
  have c3 := Kept.cell (two_cells q2).2.1
  have KS := Lib.hid (Kept.text (HS5.out.below hW))
  have KT := Lib.hid (Kept.text (HT5.out.below hW))
  have KJ := Lib.hid (Kept.text (HJ5.out.below hW))
  have HB := Lib.hid (HB5.out.trans (hW.mono HB5.out.size))
  have KL : ∀ x : Kept ((w5.alloc (.cells #[.int .i64 lp, .int .i64 cp] 26)).alloc (.cells #[.int .i64 ((lp : Int) + (ofL s s.size : Int)), .int .i64 cp] 26)), Hid (Calls Try.prog 13 #[.slice (some ⟨g, 0, none⟩) (jn s t).size cap] x.W fun e w' => e = .returned (.int .i64 ((nl s : Int) + 1 + ((nl t : Int) + 1))) ∧ Below x.W.heap.size x.W w') := fun x => by
    have h := lines_any (jn s t) (some ⟨g, 0, none⟩) cap x.W hjs (KJ.out x)
    rw [nl_jn, show ((nl s + 1 + nl t + 1 : Nat) : Int) = (nl s : Int) + 1 + ((nl t : Int) + 1) by omega] at h
    exact h
  have hf0 := field_0
  have v1 : IntKind.i64.wrap ((lp : Int) + (ofL s s.size : Int)) = (lp : Int) + (ofL s s.size : Int) := IntWalk.i64_in _ (by omega)
  have v2 : IntKind.i64.wrap ((nl s : Int) + 1 + ((nl t : Int) + 1)) = (nl s : Int) + 1 + ((nl t : Int) + 1) := IntWalk.i64_in _ (by omega)
  clear hW q1 q2 HS5 HT5 HJ5 HB5
  refine wp_region_kept (by kernel_rfl) (by kernel_rfl) ?_
  repeat (go_big_quiet_step (first | (go_at_call 9; exact kept_call (of_any s a0 cap0 s.size _ (by omega) (KS.out _))) | (go_at_call 13; exact kept_call (KL _).out) | (go_at_call 13; exact kept_call (lines_any s a0 cap0 _ (by omega) (KS.out _))) | (go_at_call 13; exact kept_call (lines_any t a1 cap1 _ (by omega) (KT.out _))) | (go_at_call 10; exact kept_call (awake_any _))))
  refine wpQuiet_nil ?_
  rintro _ ⟨v, rfl⟩
  go_wp2
  go_ret
  exact ⟨rfl, HB.out.trans (v.h.mono HB.out.size)⟩

theorem IsRow.nil {w : World} {a : Option Addr} {len cap : Nat} {zs : List Int} (h : IsRow .u8 w a len cap zs) : a = none → cap = 0 := by
  rcases h with ⟨_, _, rfl, _⟩ | ⟨x, rfl, _⟩
  · exact fun _ => rfl
  · exact fun h => by cases h
end Go.Proofs.Ythohljlfbakkhaa
