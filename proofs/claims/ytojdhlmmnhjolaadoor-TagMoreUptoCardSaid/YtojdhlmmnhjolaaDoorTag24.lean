/- Whether a not stands in a constraint; without one, more tags let it hold still; tags appended to tags. -/
import Derived.Test.YtojdhlmmnhjolaaDoorTag23
set_option linter.unusedVariables false
namespace Go.Proofs.YtojdhlmmnhjolaaDoor
open Go.RowKit

mutual
def deniesE : Ex → Bool
  | .mk op _ kids => decide (op.data.toList = notL) || deniesL kids
def deniesL : List Ex → Bool
  | [] => false
  | x :: r => deniesE x || deniesL r
end
theorem deniesL_at : ∀ (l : List Ex) (i : Nat) (x : Ex), l[i]? = some x → deniesL (l.drop i) = (deniesE x || deniesL (l.drop (i + 1)))
  | [], i, x, h => by cases h
  | y :: r, 0, x, h => by injection h with h; subst h; rw [List.drop_zero, deniesL]; rfl
  | y :: r, i + 1, x, h => deniesL_at r i x (by simpa using h)
mutual
theorem holds_more (vers : ByteArray → Int) {has has' : ByteArray → Bool} (h : ∀ t, has t = true → has' t = true) : ∀ x : Ex, deniesE x = false → holdsE vers has x = true → holdsE vers has' x = true
  | .mk op tag kids, hd, hh => by
    rw [deniesE, Bool.or_eq_false_iff, decide_eq_false_iff_not] at hd
    obtain ⟨hd0, hd1⟩ := hd
    rw [holdsE, if_neg hd0] at hh ⊢
    split at hh
    · rename_i h1
      rw [if_pos h1]
      split at hh
      · rename_i h2
        rw [if_pos h2]
        exact h _ hh
      · rename_i h2
        rw [if_neg h2]
        exact hh
    · rename_i h1
      rw [if_neg h1]
      split at hh
      · rename_i h2
        rw [if_pos h2]
        exact any_more vers h kids hd1 hh
      · rename_i h2
        rw [if_neg h2]
        exact all_more vers h kids hd1 hh
theorem any_more (vers : ByteArray → Int) {has has' : ByteArray → Bool} (h : ∀ t, has t = true → has' t = true) : ∀ l : List Ex, deniesL l = false → anyH vers has l = true → anyH vers has' l = true
  | [], hd, hh => hh
  | x :: r, hd, hh => by
    rw [deniesL, Bool.or_eq_false_iff] at hd
    rw [anyH, Bool.or_eq_true] at hh ⊢
    rcases hh with hh | hh
    · exact .inl (holds_more vers h x hd.1 hh)
    · exact .inr (any_more vers h r hd.2 hh)
theorem all_more (vers : ByteArray → Int) {has has' : ByteArray → Bool} (h : ∀ t, has t = true → has' t = true) : ∀ l : List Ex, deniesL l = false → allH vers has l = true → allH vers has' l = true
  | [], hd, hh => hh
  | x :: r, hd, hh => by
    rw [deniesL, Bool.or_eq_false_iff] at hd
    rw [allH, Bool.and_eq_true] at hh ⊢
    exact ⟨holds_more vers h x hd.1 hh.1, all_more vers h r hd.2 hh.2⟩
end
theorem holdsM_more {has has' : ByteArray → Bool} (h : ∀ t, has t = true → has' t = true) {x : Ex} (hd : deniesE x = false) (hh : holdsM has x = true) : holdsM has' x = true := by
  unfold holdsM at hh ⊢
  rw [Bool.and_eq_true] at hh ⊢
  exact ⟨hh.1, holds_more versM h x hd hh.2⟩

def DeniesOk (n : Nat) : Prop := ∀ (x : Ex) (v : Value) (w : World) (ok : Nat → Prop), bulkE x ≤ n → n ≤ 1048576 → ExtAt w ok x v → Calls Tryd.prog 23 #[v] w fun e w' => e = .returned (.bool (deniesE x)) ∧ Below w.heap.size w w'

set_option maxRecDepth 100000 in
theorem denies_step (n : Nat) (ih : DeniesOk n) : DeniesOk (n + 1) := by
  intro x v w ok hb hn hx
  obtain ⟨op, tag, k⟩ := x
  rw [ExtAt_eq] at hx
  obtain ⟨a, cap, rfl, hl⟩ := hx
  have hbl := bulkL_len k
  rw [bulkE] at hb
  have hW1 := (Below.refl w.heap.size w).alloc (Nat.le_refl _) (.cells #[.string op, .string tag, .slice a k.length cap] 24)
  have hq := heap_alloc_new w (.cells #[.string op, .string tag, .slice a k.length cap] 24)
  obtain ⟨⟨d0, d1, d2⟩, -⟩ := three_cells hq
  have HQ := Lib.hid hq
  have HW1 := Lib.hid hW1
  have HL := Lib.hid hl
  have HIH := Lib.hid ih
  have HBK : Hid (bulkL k ≤ n) := by show _ ≤ _; omega
  have HKL : Hid (k.length ≤ 1048576 ∧ n ≤ 1048576) := ⟨by omega, by omega⟩
  clear hq hW1 hl ih hb hbl hn
  rw [deniesE]
  by_cases h33 : op.data.toList = notL
  · obtain rfl : op = ⟨#[33]⟩ := by
      apply ByteArray.ext
      apply Array.toList_inj.1
      exact h33
    clear h33
    go_enter Tryd.func23, Tryd.ntmps23
    go_wp2
    go_ret
    exact ⟨rfl, HW1.out⟩
  obtain ⟨n0, n1⟩ := str_ne (l := [33]) (fun e : op = ⟨#[33]⟩ => h33 (by rw [e]; rfl))
  rw [show decide (op.data.toList = notL) = false from decide_eq_false h33, Bool.false_or]
  clear h33
  go_enter Tryd.func23, Tryd.ntmps23
  go_wp2_with fail
  go_loopw [3] (fun s3 wr => ∃ (j : Nat), s3 = .int .i64 j ∧ j ≤ k.length ∧ Hid (Below w.heap.size w wr) ∧ Hid (wr.heap[w.heap.size]? = some (.cells #[.string op, .string tag, .slice a k.length cap] 24 (0, 0))) ∧ Hid (deniesL k = deniesL (k.drop j)))
    (fun s3 wr => k.length - (intOf s3).toNat)
  case atStart =>
    exact ⟨0, rfl, Nat.zero_le _, HW1, HQ, rfl⟩
  case round =>
    obtain ⟨j, rfl, hj, HB, HQR, HM⟩ := hrel
    obtain ⟨hk1, hk3⟩ := HKL.out
    obtain ⟨⟨e0, e1, e2⟩, -⟩ := three_cells HQR.out
    clear d0 d1 d2
    by_cases hlt : j < k.length
    · have g2 : decide ((j : Int) < (k.length : Int)) = true := by simp; omega
      obtain ⟨⟨o3, t3, k3⟩, hy3⟩ : ∃ y, k[j]? = some y := ⟨k[j], by simp [hlt]⟩
      obtain ⟨b, off, a3, cap3, rfl, hbw3, m0, m1, m2, hl3⟩ := HL.out.cells hy3
      have k0 := (HB.out.cell (p := ⟨b, _, none⟩) hbw3).trans m0
      have k1 := (HB.out.cell (p := ⟨b, _, none⟩) hbw3).trans m1
      have k2' := (HB.out.cell (p := ⟨b, _, none⟩) hbw3).trans m2
      have c3 := HIH.out (.mk o3 t3 k3) (.agg #[.string o3, .string t3, .slice a3 k3.length cap3]) wr ok (Nat.le_trans (bulkL_mem _ _ _ hy3) HBK.out) hk3 (by rw [ExtAt_eq]; exact ⟨a3, cap3, rfl, hl3.below HB.out⟩)
      have HST := Lib.hid (deniesL_at k j _ hy3)
      clear m0 m1 m2 hl3 hy3
      generalize deniesE (.mk o3 t3 k3) = q at *
      go_wp2_with fail
      refine c3.mono ?_
      rintro e w5 ⟨rfl, hb5⟩
      have HQ5 := Lib.hid ((hb5.block _ (lt_of_block HQR.out)).trans HQR.out)
      have HB5 := Lib.hid (HB.out.trans (hb5.mono HB.out.size))
      clear hb5
      cases q with
      | false =>
        go_wp2
        go_roundw
        case rel => exact ⟨j + 1, by go_num, by omega, HB5.out, HQ5.out, by show _ = _; rw [HM.out, HST.out, Bool.false_or]⟩
        case measure => simp [intOf]; omega
      | true =>
        go_wp2
        go_ret
        refine ⟨?_, HB5.out⟩
        rw [HM.out, HST.out, Bool.true_or]
        rfl
    · have g2 : decide ((j : Int) < (k.length : Int)) = false := by simp; omega
      have hjk : j = k.length := by omega
      go_wp2
      go_ret
      refine ⟨?_, HB.out⟩
      rw [HM.out, hjk, List.drop_length, deniesL]
      rfl
theorem denies_all : ∀ n, DeniesOk n
  | 0 => by
    intro x v w ok hb
    obtain ⟨op, tag, k⟩ := x
    rw [bulkE] at hb
    omega
  | n + 1 => denies_step n (denies_all n)
theorem denies_any (x : Ex) (v : Value) (w : World) (ok : Nat → Prop) (hb : bulkE x ≤ 1048576) (hx : ExtAt w ok x v) : Calls Tryd.prog 23 #[v] w fun e w' => e = .returned (.bool (deniesE x)) ∧ Below w.heap.size w w' := denies_all _ x v w ok hb (Nat.le_refl _) hx

/-- Tags appended to tags of the call's own, in a region that draws its order. -/
theorem step_app_row {ops : Array Oper} {o : Oper} {act : Act} {K : Act → World → Prop} {Q : Exit → Act → World → Prop} {E : Prop} {w : World} (hgd : Region.wanted o (yielded ops act.tmps) = true) (x y : Operand)
    (ho : o.op = .call { callee := .builtin .append, args := #[x, y], argTypes := #[25, 25] }) (base : Nat) (v : Value) (n : Nat) (xs : List Value) (hs : act.eval x = v)
    (hown : w.ownsRow base 9 1 v n xs) (a : Option Addr) (m c : Nat) (hy : act.eval y = .slice a m c) (zs : List ByteArray) (hz : TagRow w a m zs) (hc : a = none → c = 0) (hn : n + m ≤ 3000000) (hbase : base ≤ w.heap.size)
    (h : ∀ a' cap' w', w'.ownsRow base 9 1 (.slice a' (n + m) cap') (n + m) (xs ++ strV zs) → w.grownBy w' v.ownBlock → K (act.put o.dst (.slice a' (n + m) cap')) w') :
    if Region.wanted o (yielded ops act.tmps) = true then Oper.wp Tryd.prog o act w K Q else E := by
  rw [if_pos hgd]
  obtain ⟨i0, hi, hz0, hz1, hz2⟩ := info_parts info_str
  cases a with
  | none =>
    obtain rfl := hc rfl
    have hm : m = 0 := by
      rcases hz.2 with h0 | ⟨b, off, e, _⟩
      · exact h0
      · cases e
    subst hm
    obtain rfl : zs = [] := List.eq_nil_of_length_eq_zero hz.1
    have hrun := run_append_owned_none (P := Tryd.prog) (w := w) base 25 o.type 9 i0 1 Tryd.underlying25 hi v n xs hown
    have hK : K (act.put o.dst v) w := by
      rcases Go.Joins.ownsRow_forms hown with ⟨rfl, h0⟩ | ⟨g, cap, rfl⟩
      · subst h0
        exact h none 0 w (by rw [strV, List.map_nil, List.append_nil]; exact hown) ⟨rfl, rfl, rfl, Nat.le_refl _, fun _ _ _ => rfl⟩
      · exact h (some ⟨g, 0, none⟩) cap w (by rw [strV, List.map_nil, List.append_nil]; exact hown) ⟨rfl, rfl, rfl, Nat.le_refl _, fun _ _ _ => rfl⟩
    unfold Oper.wp
    simp [execOp, ho, resolve, invoke, builtin, hs, hy, hrun, Result.andThen]
    exact hK
  | some ad =>
    have hnews : ∀ j u, (strV zs)[j]? = some u → w.cell? (ad.add j) = some u := by
      intro j u hj
      have hj' : j < m := by
        have := (List.getElem?_eq_some_iff.1 hj).1
        rw [strV, List.length_map, hz.1] at this
        exact this
      rcases hz.2 with h0 | ⟨b, off, e, _, hcell⟩
      · omega
      · injection e with e
        subst e
        rw [add_at, hcell j hj']
        rw [strV, List.getElem?_map, Option.map_eq_some_iff] at hj
        obtain ⟨z, hz1, rfl⟩ := hj
        rw [List.getD, hz1]
        rfl
    obtain ⟨v', w', hr, h2, h3, h4, h5⟩ := run_append_own_at (P := Tryd.prog) w base 25 o.type 9 i0 (.string ⟨#[]⟩) 1 16 Tryd.underlying25 hi hz0 hz1 hz2 rfl (by decide) v n xs hown ad m c (strV zs) (by rw [strV, List.length_map, hz.1, Nat.mul_one]) hnews (by
      intro u hu
      rw [strV, List.mem_map] at hu
      obtain ⟨z, _, rfl⟩ := hu
      rfl) (by unfold maxLen; omega) (by omega) hbase
    unfold Oper.wp execOp
    simp only [ho, resolve, invoke, builtin, Sem.run_bind, Sem.run_pure, Result.andThen_ok, List.map_toArray, List.map_cons, List.map_nil, hs, hy, hr]
    rcases Go.Joins.ownsRow_forms h2 with ⟨rfl, h0⟩ | ⟨g, cap, rfl⟩
    · have := h none 0 w' (by rw [h0] at h2 ⊢; exact h2) h3
      rw [h0] at this
      exact this
    · exact h (some ⟨g, 0, none⟩) cap w' h2 h3
theorem open_cap {H : Type} {enc : TypeId × Value → H} {W : World} {sp : Nat → Bool} {n : Nat} {a : Option Addr} {len cap : Nat} {y : DataW H × List MemPlace} (h : DataW.trod enc Tryd.prog W 0 sp true n 25 [.slice a len cap] = some y) : a = none → cap = 0 := by
  rcases Go.ChangeShapes.open_strings Tryd.underlying25 Tryd.underlying9 str_cell h with ⟨e, rfl⟩ | ⟨x, l, c, ss, e, _⟩
  · simp only [List.cons.injEq, Value.slice.injEq, and_true] at e
    exact fun _ => e.2.2
  · simp only [List.cons.injEq, Value.slice.injEq, and_true] at e
    intro h0
    rw [h0] at e
    cases e.1
end Go.Proofs.YtojdhlmmnhjolaaDoor
