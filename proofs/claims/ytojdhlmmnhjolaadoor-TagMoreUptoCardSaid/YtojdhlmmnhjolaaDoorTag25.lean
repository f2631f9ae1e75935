/- TagMore: where no ! stands, more tags let a constraint hold still (made by tools/gentag25.py). -/
import Derived.Test.YtojdhlmmnhjolaaDoorTag24
namespace Go.Proofs.YtojdhlmmnhjolaaDoor
open Go.RowKit
set_option linter.unusedVariables false

theorem TagRow.grown {w w' : World} {row : Option Nat} {b : Nat} {n : Nat} {zs : List ByteArray} (h : TagRow w (some ⟨b, 0, none⟩) n zs) (hg : w.grownBy w' row) (hne : row ≠ some b) : TagRow w' (some ⟨b, 0, none⟩) n zs := by
  obtain ⟨hz, h⟩ := h
  refine ⟨hz, ?_⟩
  rcases h with h | ⟨b', off, e, hlt, hc⟩
  · exact .inl h
  · injection e with e
    injection e with e1 e2
    subst e1 e2
    exact .inr ⟨b, 0, rfl, Nat.lt_of_lt_of_le hlt hg.size, fun j hj => (cell_of_heap (hg.block b hlt (fun e => hne e.symm))).trans (hc j hj)⟩
theorem row_one (w : World) (s : ByteArray) : TagRow (w.alloc (.cells #[.string s] 9)) (some ⟨w.heap.size, 0, none⟩) 1 [s] :=
  ⟨rfl, .inr ⟨w.heap.size, 0, rfl, by simp, fun j hj => by
    obtain rfl : j = 0 := by omega
    exact (one_cell (heap_alloc_new w (.cells #[.string s] 9))).1⟩⟩
theorem own_none (w : World) (base : Nat) (h : base ≤ w.heap.size) : (w.alloc (.cells #[] 9)).ownsRow base 9 1 (.slice (some ⟨w.heap.size, 0, none⟩) 0 0) 0 [] :=
  World.ownsRow_lit w #[] 0 h (by decide) rfl
theorem below_grown {W V V' : World} {n : Nat} {v : Value} {xs : List Value} (hb : Below W.heap.size W V) (hr : V.ownsRow W.heap.size 9 1 v n xs) (hg : V.grownBy V' v.ownBlock) : Below W.heap.size W V' := by
  refine ⟨hg.os.trans hb.os, hg.tape.trans hb.tape, hg.output.trans hb.output, Nat.le_trans hb.size hg.size, fun i hi => (hg.block i (Nat.lt_of_lt_of_le hi hb.size) (fun e => ?_)).trans (hb.block i hi)⟩
  have := (hr.lt i e.symm).1
  omega
theorem row_lt {w : World} {b n : Nat} {zs : List ByteArray} (h : TagRow w (some ⟨b, 0, none⟩) (n + 1) zs) : b < w.heap.size := by
  rcases h.2 with h | ⟨b', off, e, hlt, _⟩
  · omega
  · injection e with e
    injection e with e1 e2
    subst e1 e2
    exact hlt
theorem own_alloc {w : World} {base n : Nat} {v : Value} {xs : List Value} (h : w.ownsRow base 9 1 v n xs) (O : Obj) : (w.alloc O).ownsRow base 9 1 v n xs :=
  h.kept (row := none) ⟨rfl, rfl, rfl, by simp, fun k hk _ => heap_alloc_old _ _ hk⟩ (by by_cases e : v.ownBlock = none; exact .inl e; exact .inr e)
theorem step_app_first {ops : Array Oper} {o : Oper} {act : Act} {K : Act → World → Prop} {Q : Exit → Act → World → Prop} {E : Prop} {w : World} (hgd : Region.wanted o (yielded ops act.tmps) = true) (x y : Operand)
    (ho : o.op = .call { callee := .builtin .append, args := #[x, y], argTypes := #[25, 25] }) (base : Nat) (v : Value) (hs : act.eval x = v)
    (hown : w.ownsRow base 9 1 v 0 []) (a : Option Addr) (m c : Nat) (hy : act.eval y = .slice a m c) (zs : List ByteArray) (hz : TagRow w a m zs) (hc : a = none → c = 0) (hn : m ≤ 3000000) (hbase : base ≤ w.heap.size)
    (h : ∀ a' cap' w', w'.ownsRow base 9 1 (.slice a' m cap') m (strV zs) → w.grownBy w' v.ownBlock → K (act.put o.dst (.slice a' m cap')) w') :
    if Region.wanted o (yielded ops act.tmps) = true then Oper.wp Tryd.prog o act w K Q else E :=
  step_app_row hgd x y ho base v 0 [] hs hown a m c hy zs hz hc (by omega) hbase (fun a' cap' w' h1 h2 => by
    rw [Nat.zero_add] at h1 ⊢
    exact h a' cap' w' h1 h2)
theorem own_row2 {w : World} {base n cap : Nat} {a : Option Addr} {zs : List ByteArray} {s : ByteArray} (hz : zs.length = n) (h : w.ownsRow base 9 1 (.slice a (n + 1) cap) (n + 1) (strV zs ++ strV [s])) : TagRow w a (n + 1) (zs ++ [s]) := by
  have e : strV zs ++ strV [s] = strV (zs ++ [s]) := by simp [strV]
  have el : (zs ++ [s]).length = n + 1 := by simp [hz]
  rw [e, ← el] at h
  obtain ⟨a', cap', e', ht⟩ := own_tags h
  injection e' with e1 _ _
  rw [e1, ← el]
  exact ht
theorem holds_cat {zs : List ByteArray} {s : ByteArray} {x : Ex} (hd : deniesE x = false) (hh : holdsM (Lib.containsS zs) x = true) : holdsM (Lib.containsS (zs ++ [s])) x = true :=
  holdsM_more (fun t ht => by
    rw [Lib.containsS_iff] at ht ⊢
    exact List.mem_append_left _ ht) hd hh

set_option maxRecDepth 100000 in
theorem more_long (x : Ex) (v : Value) (w : World) (ok : Nat → Prop) (hb : bulkE x ≤ 1048576) (hx : ExtAt w ok x v) (a : Option Addr) (n cap : Nat) (s : ByteArray) (hl : 200 < nodesE x ∨ (nodesE x ≤ 200 ∧ 20 < n) ∨ (nodesE x ≤ 200 ∧ n ≤ 20 ∧ deniesE x = true)) :
    Calls Tryd.prog 7 #[v, .slice a n cap, .string s] w fun e w' => e = .returned (.bool true) ∧ Below w.heap.size w w' := by
  obtain ⟨op, tag, k⟩ := x
  have hx' := hx
  rw [ExtAt_eq] at hx'
  obtain ⟨b, c, rfl, hk⟩ := hx'
  have hW1 := (Below.refl w.heap.size w).alloc (Nat.le_refl _) (.cells #[.string op, .string tag, .slice b k.length c] 24)
  have hq := heap_alloc_new w (.cells #[.string op, .string tag, .slice b k.length c] 24)
  obtain ⟨⟨d0, d1, d2⟩, -⟩ := three_cells hq
  have CS := Lib.hid (fun W (h : Below w.heap.size w W) => size_any (.mk op tag k) (.agg #[.string op, .string tag, .slice b k.length c]) W ok hb (by rw [ExtAt_eq]; exact ⟨b, c, rfl, hk.below h⟩))
  have CD := Lib.hid (fun W (h : Below w.heap.size w W) => denies_any (.mk op tag k) (.agg #[.string op, .string tag, .slice b k.length c]) W ok hb (by rw [ExtAt_eq]; exact ⟨b, c, rfl, hk.below h⟩))
  have HW1 := Lib.hid hW1
  have HQ := Lib.hid hq
  clear hW1 hx hk hb hq
  generalize nodesE (.mk op tag k) = q at *
  generalize deniesE (.mk op tag k) = dn at *
  rcases hl with h1 | ⟨h1, h2⟩ | ⟨h1, h2, h3⟩
  · have g1 : decide ((200 : Int) < (q : Int)) = true := by simp; omega
    go_enter Tryd.func7, Tryd.ntmps7
    go_wp2_with fail
    refine (CS.out _ HW1.out).mono ?_
    rintro e w2 ⟨rfl, hb2⟩
    have HB2 := Lib.hid (HW1.out.trans (hb2.mono HW1.out.size))
    obtain ⟨⟨e0, e1, e2⟩, -⟩ := three_cells ((hb2.block _ (lt_of_block HQ.out)).trans HQ.out)
    clear hb2
    go_wp2_with fail
    refine (CS.out _ HB2.out).mono ?_
    rintro e w3 ⟨rfl, hb3⟩
    go_wp2
    go_ret
    exact ⟨rfl, HB2.out.trans (hb3.mono HB2.out.size)⟩
  · have g1 : decide ((200 : Int) < (q : Int)) = false := by simp; omega
    have g2 : decide ((20 : Int) < (n : Int)) = true := by simp; omega
    go_enter Tryd.func7, Tryd.ntmps7
    go_wp2_with fail
    refine (CS.out _ HW1.out).mono ?_
    rintro e w2 ⟨rfl, hb2⟩
    have HB2 := Lib.hid (HW1.out.trans (hb2.mono HW1.out.size))
    obtain ⟨⟨e0, e1, e2⟩, -⟩ := three_cells ((hb2.block _ (lt_of_block HQ.out)).trans HQ.out)
    clear hb2
    go_wp2_with fail
    refine (CS.out _ HB2.out).mono ?_
    rintro e w3 ⟨rfl, hb3⟩
    go_wp2
    go_ret
    exact ⟨rfl, HB2.out.trans (hb3.mono HB2.out.size)⟩
  · have g1 : decide ((200 : Int) < (q : Int)) = false := by simp; omega
    have g2 : decide ((20 : Int) < (n : Int)) = false := by simp; omega
    subst h3
    go_enter Tryd.func7, Tryd.ntmps7
    go_wp2_with fail
    refine (CS.out _ HW1.out).mono ?_
    rintro e w2 ⟨rfl, hb2⟩
    have HB2 := Lib.hid (HW1.out.trans (hb2.mono HW1.out.size))
    have HQ2 := Lib.hid ((hb2.block _ (lt_of_block HQ.out)).trans HQ.out)
    obtain ⟨⟨e0, e1, e2⟩, -⟩ := three_cells HQ2.out
    clear hb2 d0 d1 d2
    go_wp2_with fail
    refine (CD.out _ HB2.out).mono ?_
    rintro e w3 ⟨rfl, hb3⟩
    have HB3 := Lib.hid (HB2.out.trans (hb3.mono HB2.out.size))
    have HQ3 := Lib.hid ((hb3.block _ (lt_of_block HQ2.out)).trans HQ2.out)
    clear hb3 e0 e1 e2
    obtain ⟨⟨e0, e1, e2⟩, -⟩ := three_cells HQ3.out
    go_wp2_with fail
    refine (CS.out _ HB3.out).mono ?_
    rintro e w4 ⟨rfl, hb4⟩
    have HB4 := Lib.hid (HB3.out.trans (hb4.mono HB3.out.size))
    clear hb4 e0 e1 e2
    go_wp2_with fail
    refine (awake_any _).mono ?_
    rintro e w5 ⟨rfl, hb5⟩
    go_wp2
    go_ret
    exact ⟨rfl, HB4.out.trans (hb5.mono HB4.out.size)⟩

set_option maxHeartbeats 8000000 in
set_option maxRecDepth 100000 in
theorem more_go (x : Ex) (v : Value) (w : World) (ok : Nat → Prop) (hb : bulkE x ≤ 1048576) (hx : ExtAt w ok x v) (a : Option Addr) (n cap : Nat) (zs : List ByteArray) (hz : TagRow w a n zs) (hc : a = none → cap = 0) (s : ByteArray) (h1 : nodesE x ≤ 200) (h2 : n ≤ 20) (hd : deniesE x = false) :
    Calls Tryd.prog 7 #[v, .slice a n cap, .string s] w fun e w' => e = .returned (.bool true) ∧ Below w.heap.size w w' := by
  obtain ⟨op, tag, k⟩ := x
  have hx' := hx
  rw [ExtAt_eq] at hx'
  obtain ⟨b, c, rfl, hk⟩ := hx'
  have hW1 := (Below.refl w.heap.size w).alloc (Nat.le_refl _) (.cells #[.string op, .string tag, .slice b k.length c] 24)
  have hq := heap_alloc_new w (.cells #[.string op, .string tag, .slice b k.length c] 24)
  obtain ⟨⟨d0, d1, d2⟩, -⟩ := three_cells hq
  have CS := Lib.hid (fun W (h : Below w.heap.size w W) => size_any (.mk op tag k) (.agg #[.string op, .string tag, .slice b k.length c]) W ok hb (by rw [ExtAt_eq]; exact ⟨b, c, rfl, hk.below h⟩))
  have CD := Lib.hid (fun W (h : Below w.heap.size w W) => denies_any (.mk op tag k) (.agg #[.string op, .string tag, .slice b k.length c]) W ok hb (by rw [ExtAt_eq]; exact ⟨b, c, rfl, hk.below h⟩))
  have COF := Lib.hid (fun W (h : Below w.heap.size w W) => of_any (.mk op tag k) (.agg #[.string op, .string tag, .slice b k.length c]) W ok hb (by rw [ExtAt_eq]; exact ⟨b, c, rfl, hk.below h⟩))
  have HTG := Lib.hid (fun W (h : Below w.heap.size w W) => (hz.below h).ok cap (by omega))
  have HZ := Lib.hid (fun W (h : Below w.heap.size w W) => hz.below h)
  have HC := Lib.hid hc
  have HSM := Lib.hid (small_bulk _ hb)
  have HHC := Lib.hid (fun (hh : holdsM (Lib.containsS zs) (.mk op tag k) = true) => holds_cat (s := s) hd hh)
  have HW1 := Lib.hid hW1
  have HQ := Lib.hid hq
  have g1 : decide ((200 : Int) < (nodesE (.mk op tag k) : Int)) = false := by simp; omega
  have g2 : decide ((20 : Int) < (n : Int)) = false := by simp; omega
  have HN2 : Hid (n ≤ 20) := h2
  rw [hd] at CD
  clear hW1 hx hk hb hq hz hc h1 h2 hd
  generalize nodesE (.mk op tag k) = q at *
  go_enter Tryd.func7, Tryd.ntmps7
  go_wp2_with fail
  refine (CS.out _ HW1.out).mono ?_
  rintro e w2 ⟨rfl, hb2⟩
  have HB2 := Lib.hid (HW1.out.trans (hb2.mono HW1.out.size))
  have HQ2 := Lib.hid ((hb2.block _ (lt_of_block HQ.out)).trans HQ.out)
  obtain ⟨⟨e0, e1, e2⟩, -⟩ := three_cells HQ2.out
  clear hb2 d0 d1 d2
  go_wp2_with fail
  refine (CD.out _ HB2.out).mono ?_
  rintro e w3 ⟨rfl, hb3⟩
  have HB3 := Lib.hid (HB2.out.trans (hb3.mono HB2.out.size))
  have HQ3 := Lib.hid ((hb3.block _ (lt_of_block HQ2.out)).trans HQ2.out)
  clear hb3 e0 e1 e2
  obtain ⟨⟨e0, e1, e2⟩, -⟩ := three_cells HQ3.out
  go_wp2_with fail
  refine (COF.out _ HB3.out).mono ?_
  rintro e w4 ⟨hb4, u4, rfl, hx4⟩
  rw [ExtAt_eq] at hx4
  obtain ⟨b4, c4, rfl, hk4⟩ := hx4
  have HB4 := Lib.hid (HB3.out.trans (hb4.mono HB3.out.size))
  have hb5 := (Below.refl w4.heap.size w4).alloc (Nat.le_refl _) (.cells #[.string op, .string tag, .slice b4 k.length c4] 29)
  have hq5 := heap_alloc_new w4 (.cells #[.string op, .string tag, .slice b4 k.length c4] 29)
  have hk5 := hk4.below hb5
  have HB5 := Lib.hid (HB4.out.trans (hb5.mono HB4.out.size))
  obtain ⟨W, hWe⟩ : ∃ W, W = w4.alloc (.cells #[.string op, .string tag, .slice b4 k.length c4] 29) := ⟨_, rfl⟩
  rw [← hWe] at hq5 hk5 HB5
  have HWE := Lib.hid hWe
  have HQ5 := Lib.hid hq5
  obtain ⟨⟨x0, x1, x2⟩, -⟩ := three_cells hq5
  have CH := Lib.hid (fun tv has W' (h : Below W.heap.size W W') (ht : TagsOk tv has W') => Holds_any (.mk op tag k) (.agg #[.string op, .string tag, .slice b4 k.length c4]) tv has W' _ HSM.out (by rw [ExtAt_eq]; exact ⟨b4, c4, rfl, hk5.below h⟩) ht)
  have HTW := Lib.hid (fun W' (h : Below W.heap.size W W') => HTG.out W' (HB5.out.trans (h.mono HB5.out.size)))
  have HZW := Lib.hid (fun W' (h : Below W.heap.size W W') => HZ.out W' (HB5.out.trans (h.mono HB5.out.size)))
  clear hb4 hk4 hb5 hq5 hk5 e0 e1 e2 hWe
  have HB0 := Lib.hid ((Below.refl W.heap.size W).drew)
  cases hh : holdsM (Lib.containsS zs) (.mk op tag k) with
  | false =>
    have CH1 := Lib.hid (fun W' (h : Below W.heap.size W W') => (by have kk := CH.out _ _ W' h (HTW.out W' h); rw [hh] at kk; exact kk : Calls Tryd.prog 14 #[.agg #[.string op, .string tag, .slice b4 k.length c4], .slice a n cap] W' fun e w' => e = .returned (.bool false) ∧ Below W'.heap.size W' w'))
    clear HHC CH hh
    go_wp2_with fail
    rw [← HWE.out]
    refine wp_region_any (by kernel_rfl) ?_
    change wpAny _ _ _ _ _ _ _ (World.drew _)
    have HB5W := HB5
    have HB10 := HB0
    clear HB0
    generalize World.drew W = V10 at HB10 ⊢
    change wpAny _ _ _ _ _ #[false, false, false, false, false, false, false, false, false, false, false, false, false, false, false, false, false, false] ⟨#[.agg #[.string op, .string tag, .slice b k.length c], .slice a n cap, .string s, .pointer (some ⟨w.heap.size, 0, none⟩), undef, undef, .bool false, .pointer (some ⟨w4.heap.size, 0, none⟩), .agg #[.string op, .string tag, .slice b k.length c], .int .i64 q, .bool false, .bool false, .slice a n cap, .int .i64 n, .bool false, .bool false, .bool false, .agg #[.string op, .string tag, .slice b k.length c], .bool false, .bool false, undef, undef, undef, undef, undef, undef, undef, undef, undef, undef, undef, .agg #[.string op, .string tag, .slice b k.length c], .agg #[.string op, .string tag, .slice b4 k.length c4], undef, undef, undef, undef, undef, undef, undef, undef, undef, undef, undef, undef, undef, undef, undef, undef, undef], []⟩ _
    have hq10 := (HB10.out.block _ (lt_of_block HQ5.out)).trans HQ5.out
    clear x0 x1 x2
    obtain ⟨⟨x0, x1, x2⟩, -⟩ := three_cells hq10
    refine wpAny_take (i := 1) (v := .slice a n cap) rfl (by kernel_rfl) (by kernel_rfl) (by kernel_rfl) (fun _ _ _ h => h) (Or.inl ⟨by rfl, ?_⟩) ?_
    · intro w
      go_simp
      try with_reducible rfl
    change wpAny _ _ _ _ _ #[false, true, false, false, false, false, false, false, false, false, false, false, false, false, false, false, false, false] ⟨#[.agg #[.string op, .string tag, .slice b k.length c], .slice a n cap, .string s, .pointer (some ⟨w.heap.size, 0, none⟩), undef, undef, .bool false, .pointer (some ⟨w4.heap.size, 0, none⟩), .agg #[.string op, .string tag, .slice b k.length c], .int .i64 q, .bool false, .bool false, .slice a n cap, .int .i64 n, .bool false, .bool false, .bool false, .agg #[.string op, .string tag, .slice b k.length c], .bool false, .bool false, undef, undef, undef, undef, undef, undef, undef, undef, undef, undef, undef, .agg #[.string op, .string tag, .slice b k.length c], .agg #[.string op, .string tag, .slice b4 k.length c4], undef, .slice a n cap, undef, undef, undef, undef, undef, undef, undef, undef, undef, undef, undef, undef, undef, undef, undef], []⟩ _
    refine wpAny_ready (rs := [0]) (by kernel_rfl) (by simp) ?_
    refine AllReady.cons rfl (fun K hK => ?_) (AllReady.nil)
    go_simp
    refine hK _ _ ?_
    clear hK K
    change wpAny _ _ _ _ _ #[true, true, false, false, false, false, false, false, false, false, false, false, false, false, false, false, false, false] ⟨#[.agg #[.string op, .string tag, .slice b k.length c], .slice a n cap, .string s, .pointer (some ⟨w.heap.size, 0, none⟩), undef, undef, .bool false, .pointer (some ⟨w4.heap.size, 0, none⟩), .agg #[.string op, .string tag, .slice b k.length c], .int .i64 q, .bool false, .bool false, .slice a n cap, .int .i64 n, .bool false, .bool false, .bool false, .agg #[.string op, .string tag, .slice b k.length c], .bool false, .bool false, undef, undef, undef, undef, undef, undef, undef, undef, undef, undef, undef, .agg #[.string op, .string tag, .slice b k.length c], .agg #[.string op, .string tag, .slice b4 k.length c4], .agg #[.string op, .string tag, .slice b4 k.length c4], .slice a n cap, undef, undef, undef, undef, undef, undef, undef, undef, undef, undef, undef, undef, undef, undef, undef], []⟩ _
    refine wpAny_ready (rs := [2]) (by kernel_rfl) (by simp) ?_
    refine AllReady.cons rfl (fun K hK => ?_) (AllReady.nil)
    go_simp
    go_at_call 14
    refine (CH1.out _ HB10.out).mono ?_
    rintro e V11 ⟨rfl, hb⟩
    refine hK _ _ ?_
    clear hK K
    change wpAny _ _ _ _ _ #[true, true, true, false, false, false, false, false, false, false, false, false, false, false, false, false, false, false] ⟨#[.agg #[.string op, .string tag, .slice b k.length c], .slice a n cap, .string s, .pointer (some ⟨w.heap.size, 0, none⟩), undef, undef, .bool false, .pointer (some ⟨w4.heap.size, 0, none⟩), .agg #[.string op, .string tag, .slice b k.length c], .int .i64 q, .bool false, .bool false, .slice a n cap, .int .i64 n, .bool false, .bool false, .bool false, .agg #[.string op, .string tag, .slice b k.length c], .bool false, .bool false, undef, undef, undef, undef, undef, undef, undef, undef, undef, undef, undef, .agg #[.string op, .string tag, .slice b k.length c], .agg #[.string op, .string tag, .slice b4 k.length c4], .agg #[.string op, .string tag, .slice b4 k.length c4], .slice a n cap, .bool false, undef, undef, undef, undef, undef, undef, undef, undef, undef, undef, undef, undef, undef, undef], []⟩ _
    have HB11 := Lib.hid (HB10.out.trans (hb.mono HB10.out.size))
    clear hb
    have hq11 := (HB11.out.block _ (lt_of_block HQ5.out)).trans HQ5.out
    clear x0 x1 x2
    obtain ⟨⟨x0, x1, x2⟩, -⟩ := three_cells hq11
    refine wpAny_take (i := 3) (v := .bool true) rfl (by kernel_rfl) (by kernel_rfl) (by kernel_rfl) (fun _ _ _ h => h) (Or.inl ⟨by rfl, ?_⟩) ?_
    · intro w
      go_simp
      try with_reducible rfl
    change wpAny _ _ _ _ _ #[true, true, true, true, false, false, false, false, false, false, false, false, false, false, false, false, false, false] ⟨#[.agg #[.string op, .string tag, .slice b k.length c], .slice a n cap, .string s, .pointer (some ⟨w.heap.size, 0, none⟩), undef, undef, .bool false, .pointer (some ⟨w4.heap.size, 0, none⟩), .agg #[.string op, .string tag, .slice b k.length c], .int .i64 q, .bool false, .bool false, .slice a n cap, .int .i64 n, .bool false, .bool false, .bool false, .agg #[.string op, .string tag, .slice b k.length c], .bool false, .bool false, undef, undef, undef, undef, undef, undef, undef, undef, undef, undef, undef, .agg #[.string op, .string tag, .slice b k.length c], .agg #[.string op, .string tag, .slice b4 k.length c4], .agg #[.string op, .string tag, .slice b4 k.length c4], .slice a n cap, .bool false, .bool true, undef, undef, undef, undef, undef, undef, undef, undef, undef, undef, undef, undef, undef], []⟩ _
    refine wpAny_take (i := 4) (v := .bool true) rfl (by kernel_rfl) (by kernel_rfl) (by kernel_rfl) (fun _ _ _ h => h) (Or.inl ⟨by rfl, ?_⟩) ?_
    · intro w
      go_simp
      try with_reducible rfl
    change wpAny _ _ _ _ _ #[true, true, true, true, true, false, false, false, false, false, false, false, false, false, false, false, false, false] ⟨#[.agg #[.string op, .string tag, .slice b k.length c], .slice a n cap, .string s, .pointer (some ⟨w.heap.size, 0, none⟩), undef, undef, .bool false, .pointer (some ⟨w4.heap.size, 0, none⟩), .agg #[.string op, .string tag, .slice b k.length c], .int .i64 q, .bool false, .bool false, .slice a n cap, .int .i64 n, .bool false, .bool false, .bool false, .agg #[.string op, .string tag, .slice b k.length c], .bool false, .bool false, undef, undef, undef, undef, undef, undef, undef, undef, undef, undef, undef, .agg #[.string op, .string tag, .slice b k.length c], .agg #[.string op, .string tag, .slice b4 k.length c4], .agg #[.string op, .string tag, .slice b4 k.length c4], .slice a n cap, .bool false, .bool true, .bool true, undef, undef, undef, undef, undef, undef, undef, undef, undef, undef, undef, undef], []⟩ _
    refine wpAny_take (i := 5) (v := undef) rfl (by kernel_rfl) (by kernel_rfl) (by kernel_rfl) (fun _ _ _ h => h) (Or.inr ⟨by rfl, rfl⟩) ?_
    change wpAny _ _ _ _ _ #[true, true, true, true, true, true, false, false, false, false, false, false, false, false, false, false, false, false] ⟨#[.agg #[.string op, .string tag, .slice b k.length c], .slice a n cap, .string s, .pointer (some ⟨w.heap.size, 0, none⟩), undef, undef, .bool false, .pointer (some ⟨w4.heap.size, 0, none⟩), .agg #[.string op, .string tag, .slice b k.length c], .int .i64 q, .bool false, .bool false, .slice a n cap, .int .i64 n, .bool false, .bool false, .bool false, .agg #[.string op, .string tag, .slice b k.length c], .bool false, .bool false, undef, undef, undef, undef, undef, undef, undef, undef, undef, undef, undef, .agg #[.string op, .string tag, .slice b k.length c], .agg #[.string op, .string tag, .slice b4 k.length c4], .agg #[.string op, .string tag, .slice b4 k.length c4], .slice a n cap, .bool false, .bool true, .bool true, undef, undef, undef, undef, undef, undef, undef, undef, undef, undef, undef, undef], []⟩ _
    refine wpAny_take (i := 6) (v := undef) rfl (by kernel_rfl) (by kernel_rfl) (by kernel_rfl) (fun _ _ _ h => h) (Or.inr ⟨by rfl, rfl⟩) ?_
    change wpAny _ _ _ _ _ #[true, true, true, true, true, true, true, false, false, false, false, false, false, false, false, false, false, false] ⟨#[.agg #[.string op, .string tag, .slice b k.length c], .slice a n cap, .string s, .pointer (some ⟨w.heap.size, 0, none⟩), undef, undef, .bool false, .pointer (some ⟨w4.heap.size, 0, none⟩), .agg #[.string op, .string tag, .slice b k.length c], .int .i64 q, .bool false, .bool false, .slice a n cap, .int .i64 n, .bool false, .bool false, .bool false, .agg #[.string op, .string tag, .slice b k.length c], .bool false, .bool false, undef, undef, undef, undef, undef, undef, undef, undef, undef, undef, undef, .agg #[.string op, .string tag, .slice b k.length c], .agg #[.string op, .string tag, .slice b4 k.length c4], .agg #[.string op, .string tag, .slice b4 k.length c4], .slice a n cap, .bool false, .bool true, .bool true, undef, undef, undef, undef, undef, undef, undef, undef, undef, undef, undef, undef], []⟩ _
    refine wpAny_take (i := 7) (v := undef) rfl (by kernel_rfl) (by kernel_rfl) (by kernel_rfl) (fun _ _ _ h => h) (Or.inr ⟨by rfl, rfl⟩) ?_
    change wpAny _ _ _ _ _ #[true, true, true, true, true, true, true, true, false, false, false, false, false, false, false, false, false, false] ⟨#[.agg #[.string op, .string tag, .slice b k.length c], .slice a n cap, .string s, .pointer (some ⟨w.heap.size, 0, none⟩), undef, undef, .bool false, .pointer (some ⟨w4.heap.size, 0, none⟩), .agg #[.string op, .string tag, .slice b k.length c], .int .i64 q, .bool false, .bool false, .slice a n cap, .int .i64 n, .bool false, .bool false, .bool false, .agg #[.string op, .string tag, .slice b k.length c], .bool false, .bool false, undef, undef, undef, undef, undef, undef, undef, undef, undef, undef, undef, .agg #[.string op, .string tag, .slice b k.length c], .agg #[.string op, .string tag, .slice b4 k.length c4], .agg #[.string op, .string tag, .slice b4 k.length c4], .slice a n cap, .bool false, .bool true, .bool true, undef, undef, undef, undef, undef, undef, undef, undef, undef, undef, undef, undef], []⟩ _
    refine wpAny_take (i := 8) (v := undef) rfl (by kernel_rfl) (by kernel_rfl) (by kernel_rfl) (fun _ _ _ h => h) (Or.inr ⟨by rfl, rfl⟩) ?_
    change wpAny _ _ _ _ _ #[true, true, true, true, true, true, true, true, true, false, false, false, false, false, false, false, false, false] ⟨#[.agg #[.string op, .string tag, .slice b k.length c], .slice a n cap, .string s, .pointer (some ⟨w.heap.size, 0, none⟩), undef, undef, .bool false, .pointer (some ⟨w4.heap.size, 0, none⟩), .agg #[.string op, .string tag, .slice b k.length c], .int .i64 q, .bool false, .bool false, .slice a n cap, .int .i64 n, .bool false, .bool false, .bool false, .agg #[.string op, .string tag, .slice b k.length c], .bool false, .bool false, undef, undef, undef, undef, undef, undef, undef, undef, undef, undef, undef, .agg #[.string op, .string tag, .slice b k.length c], .agg #[.string op, .string tag, .slice b4 k.length c4], .agg #[.string op, .string tag, .slice b4 k.length c4], .slice a n cap, .bool false, .bool true, .bool true, undef, undef, undef, undef, undef, undef, undef, undef, undef, undef, undef, undef], []⟩ _
    refine wpAny_take (i := 9) (v := undef) rfl (by kernel_rfl) (by kernel_rfl) (by kernel_rfl) (fun _ _ _ h => h) (Or.inr ⟨by rfl, rfl⟩) ?_
    change wpAny _ _ _ _ _ #[true, true, true, true, true, true, true, true, true, true, false, false, false, false, false, false, false, false] ⟨#[.agg #[.string op, .string tag, .slice b k.length c], .slice a n cap, .string s, .pointer (some ⟨w.heap.size, 0, none⟩), undef, undef, .bool false, .pointer (some ⟨w4.heap.size, 0, none⟩), .agg #[.string op, .string tag, .slice b k.length c], .int .i64 q, .bool false, .bool false, .slice a n cap, .int .i64 n, .bool false, .bool false, .bool false, .agg #[.string op, .string tag, .slice b k.length c], .bool false, .bool false, undef, undef, undef, undef, undef, undef, undef, undef, undef, undef, undef, .agg #[.string op, .string tag, .slice b k.length c], .agg #[.string op, .string tag, .slice b4 k.length c4], .agg #[.string op, .string tag, .slice b4 k.length c4], .slice a n cap, .bool false, .bool true, .bool true, undef, undef, undef, undef, undef, undef, undef, undef, undef, undef, undef, undef], []⟩ _
    refine wpAny_take (i := 10) (v := undef) rfl (by kernel_rfl) (by kernel_rfl) (by kernel_rfl) (fun _ _ _ h => h) (Or.inr ⟨by rfl, rfl⟩) ?_
    change wpAny _ _ _ _ _ #[true, true, true, true, true, true, true, true, true, true, true, false, false, false, false, false, false, false] ⟨#[.agg #[.string op, .string tag, .slice b k.length c], .slice a n cap, .string s, .pointer (some ⟨w.heap.size, 0, none⟩), undef, undef, .bool false, .pointer (some ⟨w4.heap.size, 0, none⟩), .agg #[.string op, .string tag, .slice b k.length c], .int .i64 q, .bool false, .bool false, .slice a n cap, .int .i64 n, .bool false, .bool false, .bool false, .agg #[.string op, .string tag, .slice b k.length c], .bool false, .bool false, undef, undef, undef, undef, undef, undef, undef, undef, undef, undef, undef, .agg #[.string op, .string tag, .slice b k.length c], .agg #[.string op, .string tag, .slice b4 k.length c4], .agg #[.string op, .string tag, .slice b4 k.length c4], .slice a n cap, .bool false, .bool true, .bool true, undef, undef, undef, undef, undef, undef, undef, undef, undef, undef, undef, undef], []⟩ _
    refine wpAny_take (i := 11) (v := undef) rfl (by kernel_rfl) (by kernel_rfl) (by kernel_rfl) (fun _ _ _ h => h) (Or.inr ⟨by rfl, rfl⟩) ?_
    change wpAny _ _ _ _ _ #[true, true, true, true, true, true, true, true, true, true, true, true, false, false, false, false, false, false] ⟨#[.agg #[.string op, .string tag, .slice b k.length c], .slice a n cap, .string s, .pointer (some ⟨w.heap.size, 0, none⟩), undef, undef, .bool false, .pointer (some ⟨w4.heap.size, 0, none⟩), .agg #[.string op, .string tag, .slice b k.length c], .int .i64 q, .bool false, .bool false, .slice a n cap, .int .i64 n, .bool false, .bool false, .bool false, .agg #[.string op, .string tag, .slice b k.length c], .bool false, .bool false, undef, undef, undef, undef, undef, undef, undef, undef, undef, undef, undef, .agg #[.string op, .string tag, .slice b k.length c], .agg #[.string op, .string tag, .slice b4 k.length c4], .agg #[.string op, .string tag, .slice b4 k.length c4], .slice a n cap, .bool false, .bool true, .bool true, undef, undef, undef, undef, undef, undef, undef, undef, undef, undef, undef, undef], []⟩ _
    refine wpAny_take (i := 12) (v := undef) rfl (by kernel_rfl) (by kernel_rfl) (by kernel_rfl) (fun _ _ _ h => h) (Or.inr ⟨by rfl, rfl⟩) ?_
    change wpAny _ _ _ _ _ #[true, true, true, true, true, true, true, true, true, true, true, true, true, false, false, false, false, false] ⟨#[.agg #[.string op, .string tag, .slice b k.length c], .slice a n cap, .string s, .pointer (some ⟨w.heap.size, 0, none⟩), undef, undef, .bool false, .pointer (some ⟨w4.heap.size, 0, none⟩), .agg #[.string op, .string tag, .slice b k.length c], .int .i64 q, .bool false, .bool false, .slice a n cap, .int .i64 n, .bool false, .bool false, .bool false, .agg #[.string op, .string tag, .slice b k.length c], .bool false, .bool false, undef, undef, undef, undef, undef, undef, undef, undef, undef, undef, undef, .agg #[.string op, .string tag, .slice b k.length c], .agg #[.string op, .string tag, .slice b4 k.length c4], .agg #[.string op, .string tag, .slice b4 k.length c4], .slice a n cap, .bool false, .bool true, .bool true, undef, undef, undef, undef, undef, undef, undef, undef, undef, undef, undef, undef], []⟩ _
    refine wpAny_take (i := 13) (v := .bool true) rfl (by kernel_rfl) (by kernel_rfl) (by kernel_rfl) (fun _ _ _ h => h) (Or.inl ⟨by rfl, ?_⟩) ?_
    · intro w
      go_simp
      try with_reducible rfl
    change wpAny _ _ _ _ _ #[true, true, true, true, true, true, true, true, true, true, true, true, true, true, false, false, false, false] ⟨#[.agg #[.string op, .string tag, .slice b k.length c], .slice a n cap, .string s, .pointer (some ⟨w.heap.size, 0, none⟩), undef, undef, .bool false, .pointer (some ⟨w4.heap.size, 0, none⟩), .agg #[.string op, .string tag, .slice b k.length c], .int .i64 q, .bool false, .bool false, .slice a n cap, .int .i64 n, .bool false, .bool false, .bool false, .agg #[.string op, .string tag, .slice b k.length c], .bool false, .bool false, undef, undef, undef, undef, undef, undef, undef, undef, undef, undef, undef, .agg #[.string op, .string tag, .slice b k.length c], .agg #[.string op, .string tag, .slice b4 k.length c4], .agg #[.string op, .string tag, .slice b4 k.length c4], .slice a n cap, .bool false, .bool true, .bool true, undef, undef, undef, undef, undef, undef, undef, undef, .bool true, undef, undef, undef], []⟩ _
    refine wpAny_take (i := 14) (v := .bool true) rfl (by kernel_rfl) (by kernel_rfl) (by kernel_rfl) (fun _ _ _ h => h) (Or.inl ⟨by rfl, ?_⟩) ?_
    · intro w
      go_simp
      try with_reducible rfl
    change wpAny _ _ _ _ _ #[true, true, true, true, true, true, true, true, true, true, true, true, true, true, true, false, false, false] ⟨#[.agg #[.string op, .string tag, .slice b k.length c], .slice a n cap, .string s, .pointer (some ⟨w.heap.size, 0, none⟩), undef, undef, .bool false, .pointer (some ⟨w4.heap.size, 0, none⟩), .agg #[.string op, .string tag, .slice b k.length c], .int .i64 q, .bool false, .bool false, .slice a n cap, .int .i64 n, .bool false, .bool false, .bool false, .agg #[.string op, .string tag, .slice b k.length c], .bool false, .bool false, undef, undef, undef, undef, undef, undef, undef, undef, undef, undef, undef, .agg #[.string op, .string tag, .slice b k.length c], .agg #[.string op, .string tag, .slice b4 k.length c4], .agg #[.string op, .string tag, .slice b4 k.length c4], .slice a n cap, .bool false, .bool true, .bool true, undef, undef, undef, undef, undef, undef, undef, undef, .bool true, .bool true, undef, undef], []⟩ _
    refine wpAny_ready (rs := [15]) (by kernel_rfl) (by simp) ?_
    refine AllReady.cons rfl (fun K hK => ?_) (AllReady.nil)
    go_simp
    go_at_call 17
    refine (awake_any _).mono ?_
    rintro e V12 ⟨rfl, hb⟩
    refine hK _ _ ?_
    clear hK K
    change wpAny _ _ _ _ _ #[true, true, true, true, true, true, true, true, true, true, true, true, true, true, true, true, false, false] ⟨#[.agg #[.string op, .string tag, .slice b k.length c], .slice a n cap, .string s, .pointer (some ⟨w.heap.size, 0, none⟩), undef, undef, .bool false, .pointer (some ⟨w4.heap.size, 0, none⟩), .agg #[.string op, .string tag, .slice b k.length c], .int .i64 q, .bool false, .bool false, .slice a n cap, .int .i64 n, .bool false, .bool false, .bool false, .agg #[.string op, .string tag, .slice b k.length c], .bool false, .bool false, undef, undef, undef, undef, undef, undef, undef, undef, undef, undef, undef, .agg #[.string op, .string tag, .slice b k.length c], .agg #[.string op, .string tag, .slice b4 k.length c4], .agg #[.string op, .string tag, .slice b4 k.length c4], .slice a n cap, .bool false, .bool true, .bool true, undef, undef, undef, undef, undef, undef, undef, undef, .bool true, .bool true, .bool true, undef], []⟩ _
    have HB12 := Lib.hid (HB11.out.trans (hb.mono HB11.out.size))
    clear hb
    refine wpAny_take (i := 16) (v := .bool true) rfl (by kernel_rfl) (by kernel_rfl) (by kernel_rfl) (fun _ _ _ h => h) (Or.inl ⟨by rfl, ?_⟩) ?_
    · intro w
      go_simp
      try with_reducible rfl
    change wpAny _ _ _ _ _ #[true, true, true, true, true, true, true, true, true, true, true, true, true, true, true, true, true, false] ⟨#[.agg #[.string op, .string tag, .slice b k.length c], .slice a n cap, .string s, .pointer (some ⟨w.heap.size, 0, none⟩), undef, undef, .bool false, .pointer (some ⟨w4.heap.size, 0, none⟩), .agg #[.string op, .string tag, .slice b k.length c], .int .i64 q, .bool false, .bool false, .slice a n cap, .int .i64 n, .bool false, .bool false, .bool false, .agg #[.string op, .string tag, .slice b k.length c], .bool false, .bool false, undef, undef, undef, undef, undef, undef, undef, undef, undef, undef, undef, .agg #[.string op, .string tag, .slice b k.length c], .agg #[.string op, .string tag, .slice b4 k.length c4], .agg #[.string op, .string tag, .slice b4 k.length c4], .slice a n cap, .bool false, .bool true, .bool true, undef, undef, undef, undef, undef, undef, undef, undef, .bool true, .bool true, .bool true, .bool true], []⟩ _
    refine wpAny_take (i := 17) (v := .bool true) rfl (by kernel_rfl) (by kernel_rfl) (by kernel_rfl) (fun _ _ _ h => h) (Or.inl ⟨by rfl, ?_⟩) ?_
    · intro w
      go_simp
      try with_reducible rfl
    change wpAny _ _ _ _ _ #[true, true, true, true, true, true, true, true, true, true, true, true, true, true, true, true, true, true] ⟨#[.agg #[.string op, .string tag, .slice b k.length c], .slice a n cap, .string s, .pointer (some ⟨w.heap.size, 0, none⟩), undef, undef, .bool true, .pointer (some ⟨w4.heap.size, 0, none⟩), .agg #[.string op, .string tag, .slice b k.length c], .int .i64 q, .bool false, .bool false, .slice a n cap, .int .i64 n, .bool false, .bool false, .bool false, .agg #[.string op, .string tag, .slice b k.length c], .bool false, .bool false, undef, undef, undef, undef, undef, undef, undef, undef, undef, undef, undef, .agg #[.string op, .string tag, .slice b k.length c], .agg #[.string op, .string tag, .slice b4 k.length c4], .agg #[.string op, .string tag, .slice b4 k.length c4], .slice a n cap, .bool false, .bool true, .bool true, undef, undef, undef, undef, undef, undef, undef, undef, .bool true, .bool true, .bool true, .bool true], []⟩ _
    refine wpAny_done (by kernel_rfl) ?_ _
    go_wp2
    go_ret
    exact ⟨rfl, HB5W.out.trans (HB12.out.mono HB5W.out.size)⟩
  | true =>
    have CH1 := Lib.hid (fun W' (h : Below W.heap.size W W') => (by have kk := CH.out _ _ W' h (HTW.out W' h); rw [hh] at kk; exact kk : Calls Tryd.prog 14 #[.agg #[.string op, .string tag, .slice b4 k.length c4], .slice a n cap] W' fun e w' => e = .returned (.bool true) ∧ Below W'.heap.size W' w'))
    have CH2 := Lib.hid (fun W' (h : Below W.heap.size W W') a2 c2 (ht : TagRow W' a2 (n + 1) (zs ++ [s])) => (by have kk := CH.out _ _ W' h (ht.ok c2 (by have := HN2.out; omega)); rw [HHC.out hh] at kk; exact kk : Calls Tryd.prog 14 #[.agg #[.string op, .string tag, .slice b4 k.length c4], .slice a2 (n + 1) c2] W' fun e w' => e = .returned (.bool true) ∧ Below W'.heap.size W' w'))
    clear HHC CH hh
    go_wp2_with fail
    rw [← HWE.out]
    refine wp_region_any (by kernel_rfl) ?_
    change wpAny _ _ _ _ _ _ _ (World.drew _)
    have HB5W := HB5
    have HB10 := HB0
    clear HB0
    generalize World.drew W = V10 at HB10 ⊢
    change wpAny _ _ _ _ _ #[false, false, false, false, false, false, false, false, false, false, false, false, false, false, false, false, false, false] ⟨#[.agg #[.string op, .string tag, .slice b k.length c], .slice a n cap, .string s, .pointer (some ⟨w.heap.size, 0, none⟩), undef, undef, .bool false, .pointer (some ⟨w4.heap.size, 0, none⟩), .agg #[.string op, .string tag, .slice b k.length c], .int .i64 q, .bool false, .bool false, .slice a n cap, .int .i64 n, .bool false, .bool false, .bool false, .agg #[.string op, .string tag, .slice b k.length c], .bool false, .bool false, undef, undef, undef, undef, undef, undef, undef, undef, undef, undef, undef, .agg #[.string op, .string tag, .slice b k.length c], .agg #[.string op, .string tag, .slice b4 k.length c4], undef, undef, undef, undef, undef, undef, undef, undef, undef, undef, undef, undef, undef, undef, undef, undef, undef], []⟩ _
    have hq10 := (HB10.out.block _ (lt_of_block HQ5.out)).trans HQ5.out
    clear x0 x1 x2
    obtain ⟨⟨x0, x1, x2⟩, -⟩ := three_cells hq10
    refine wpAny_take (i := 1) (v := .slice a n cap) rfl (by kernel_rfl) (by kernel_rfl) (by kernel_rfl) (fun _ _ _ h => h) (Or.inl ⟨by rfl, ?_⟩) ?_
    · intro w
      go_simp
      try with_reducible rfl
    change wpAny _ _ _ _ _ #[false, true, false, false, false, false, false, false, false, false, false, false, false, false, false, false, false, false] ⟨#[.agg #[.string op, .string tag, .slice b k.length c], .slice a n cap, .string s, .pointer (some ⟨w.heap.size, 0, none⟩), undef, undef, .bool false, .pointer (some ⟨w4.heap.size, 0, none⟩), .agg #[.string op, .string tag, .slice b k.length c], .int .i64 q, .bool false, .bool false, .slice a n cap, .int .i64 n, .bool false, .bool false, .bool false, .agg #[.string op, .string tag, .slice b k.length c], .bool false, .bool false, undef, undef, undef, undef, undef, undef, undef, undef, undef, undef, undef, .agg #[.string op, .string tag, .slice b k.length c], .agg #[.string op, .string tag, .slice b4 k.length c4], undef, .slice a n cap, undef, undef, undef, undef, undef, undef, undef, undef, undef, undef, undef, undef, undef, undef, undef], []⟩ _
    refine wpAny_ready (rs := [0]) (by kernel_rfl) (by simp) ?_
    refine AllReady.cons rfl (fun K hK => ?_) (AllReady.nil)
    go_simp
    refine hK _ _ ?_
    clear hK K
    change wpAny _ _ _ _ _ #[true, true, false, false, false, false, false, false, false, false, false, false, false, false, false, false, false, false] ⟨#[.agg #[.string op, .string tag, .slice b k.length c], .slice a n cap, .string s, .pointer (some ⟨w.heap.size, 0, none⟩), undef, undef, .bool false, .pointer (some ⟨w4.heap.size, 0, none⟩), .agg #[.string op, .string tag, .slice b k.length c], .int .i64 q, .bool false, .bool false, .slice a n cap, .int .i64 n, .bool false, .bool false, .bool false, .agg #[.string op, .string tag, .slice b k.length c], .bool false, .bool false, undef, undef, undef, undef, undef, undef, undef, undef, undef, undef, undef, .agg #[.string op, .string tag, .slice b k.length c], .agg #[.string op, .string tag, .slice b4 k.length c4], .agg #[.string op, .string tag, .slice b4 k.length c4], .slice a n cap, undef, undef, undef, undef, undef, undef, undef, undef, undef, undef, undef, undef, undef, undef, undef], []⟩ _
    refine wpAny_ready (rs := [2]) (by kernel_rfl) (by simp) ?_
    refine AllReady.cons rfl (fun K hK => ?_) (AllReady.nil)
    go_simp
    go_at_call 14
    refine (CH1.out _ HB10.out).mono ?_
    rintro e V11 ⟨rfl, hb⟩
    refine hK _ _ ?_
    clear hK K
    change wpAny _ _ _ _ _ #[true, true, true, false, false, false, false, false, false, false, false, false, false, false, false, false, false, false] ⟨#[.agg #[.string op, .string tag, .slice b k.length c], .slice a n cap, .string s, .pointer (some ⟨w.heap.size, 0, none⟩), undef, undef, .bool false, .pointer (some ⟨w4.heap.size, 0, none⟩), .agg #[.string op, .string tag, .slice b k.length c], .int .i64 q, .bool false, .bool false, .slice a n cap, .int .i64 n, .bool false, .bool false, .bool false, .agg #[.string op, .string tag, .slice b k.length c], .bool false, .bool false, undef, undef, undef, undef, undef, undef, undef, undef, undef, undef, undef, .agg #[.string op, .string tag, .slice b k.length c], .agg #[.string op, .string tag, .slice b4 k.length c4], .agg #[.string op, .string tag, .slice b4 k.length c4], .slice a n cap, .bool true, undef, undef, undef, undef, undef, undef, undef, undef, undef, undef, undef, undef, undef, undef], []⟩ _
    have HB11 := Lib.hid (HB10.out.trans (hb.mono HB10.out.size))
    clear hb
    have hq11 := (HB11.out.block _ (lt_of_block HQ5.out)).trans HQ5.out
    clear x0 x1 x2
    obtain ⟨⟨x0, x1, x2⟩, -⟩ := three_cells hq11
    refine wpAny_take (i := 3) (v := .bool false) rfl (by kernel_rfl) (by kernel_rfl) (by kernel_rfl) (fun _ _ _ h => h) (Or.inl ⟨by rfl, ?_⟩) ?_
    · intro w
      go_simp
      try with_reducible rfl
    change wpAny _ _ _ _ _ #[true, true, true, true, false, false, false, false, false, false, false, false, false, false, false, false, false, false] ⟨#[.agg #[.string op, .string tag, .slice b k.length c], .slice a n cap, .string s, .pointer (some ⟨w.heap.size, 0, none⟩), undef, undef, .bool false, .pointer (some ⟨w4.heap.size, 0, none⟩), .agg #[.string op, .string tag, .slice b k.length c], .int .i64 q, .bool false, .bool false, .slice a n cap, .int .i64 n, .bool false, .bool false, .bool false, .agg #[.string op, .string tag, .slice b k.length c], .bool false, .bool false, undef, undef, undef, undef, undef, undef, undef, undef, undef, undef, undef, .agg #[.string op, .string tag, .slice b k.length c], .agg #[.string op, .string tag, .slice b4 k.length c4], .agg #[.string op, .string tag, .slice b4 k.length c4], .slice a n cap, .bool true, .bool false, undef, undef, undef, undef, undef, undef, undef, undef, undef, undef, undef, undef, undef], []⟩ _
    refine wpAny_take (i := 4) (v := .bool false) rfl (by kernel_rfl) (by kernel_rfl) (by kernel_rfl) (fun _ _ _ h => h) (Or.inl ⟨by rfl, ?_⟩) ?_
    · intro w
      go_simp
      try with_reducible rfl
    change wpAny _ _ _ _ _ #[true, true, true, true, true, false, false, false, false, false, false, false, false, false, false, false, false, false] ⟨#[.agg #[.string op, .string tag, .slice b k.length c], .slice a n cap, .string s, .pointer (some ⟨w.heap.size, 0, none⟩), undef, undef, .bool false, .pointer (some ⟨w4.heap.size, 0, none⟩), .agg #[.string op, .string tag, .slice b k.length c], .int .i64 q, .bool false, .bool false, .slice a n cap, .int .i64 n, .bool false, .bool false, .bool false, .agg #[.string op, .string tag, .slice b k.length c], .bool false, .bool false, undef, undef, undef, undef, undef, undef, undef, undef, undef, undef, undef, .agg #[.string op, .string tag, .slice b k.length c], .agg #[.string op, .string tag, .slice b4 k.length c4], .agg #[.string op, .string tag, .slice b4 k.length c4], .slice a n cap, .bool true, .bool false, .bool false, undef, undef, undef, undef, undef, undef, undef, undef, undef, undef, undef, undef], []⟩ _
    refine wpAny_take (i := 7) (v := .slice a n cap) rfl (by kernel_rfl) (by kernel_rfl) (by kernel_rfl) (fun _ _ _ h => h) (Or.inl ⟨by rfl, ?_⟩) ?_
    · intro w
      go_simp
      try with_reducible rfl
    change wpAny _ _ _ _ _ #[true, true, true, true, true, false, false, true, false, false, false, false, false, false, false, false, false, false] ⟨#[.agg #[.string op, .string tag, .slice b k.length c], .slice a n cap, .string s, .pointer (some ⟨w.heap.size, 0, none⟩), undef, undef, .bool false, .pointer (some ⟨w4.heap.size, 0, none⟩), .agg #[.string op, .string tag, .slice b k.length c], .int .i64 q, .bool false, .bool false, .slice a n cap, .int .i64 n, .bool false, .bool false, .bool false, .agg #[.string op, .string tag, .slice b k.length c], .bool false, .bool false, undef, undef, undef, undef, undef, undef, undef, undef, undef, undef, undef, .agg #[.string op, .string tag, .slice b k.length c], .agg #[.string op, .string tag, .slice b4 k.length c4], .agg #[.string op, .string tag, .slice b4 k.length c4], .slice a n cap, .bool true, .bool false, .bool false, undef, undef, .slice a n cap, undef, undef, undef, undef, undef, undef, undef, undef, undef], []⟩ _
    refine wpAny_take (i := 9) (v := .string s) rfl (by kernel_rfl) (by kernel_rfl) (by kernel_rfl) (fun _ _ _ h => h) (Or.inl ⟨by rfl, ?_⟩) ?_
    · intro w
      go_simp
      try with_reducible rfl
    change wpAny _ _ _ _ _ #[true, true, true, true, true, false, false, true, false, true, false, false, false, false, false, false, false, false] ⟨#[.agg #[.string op, .string tag, .slice b k.length c], .slice a n cap, .string s, .pointer (some ⟨w.heap.size, 0, none⟩), undef, undef, .bool false, .pointer (some ⟨w4.heap.size, 0, none⟩), .agg #[.string op, .string tag, .slice b k.length c], .int .i64 q, .bool false, .bool false, .slice a n cap, .int .i64 n, .bool false, .bool false, .bool false, .agg #[.string op, .string tag, .slice b k.length c], .bool false, .bool false, undef, undef, undef, undef, undef, undef, undef, undef, undef, undef, undef, .agg #[.string op, .string tag, .slice b k.length c], .agg #[.string op, .string tag, .slice b4 k.length c4], .agg #[.string op, .string tag, .slice b4 k.length c4], .slice a n cap, .bool true, .bool false, .bool false, undef, undef, .slice a n cap, undef, .string s, undef, undef, undef, undef, undef, undef, undef], []⟩ _
    refine wpAny_ready (rs := [5, 6, 10]) (by kernel_rfl) (by simp) ?_
    refine AllReady.cons rfl (fun K hK => ?_) (AllReady.cons rfl (fun K hK => ?_) (AllReady.cons rfl (fun K hK => ?_) (AllReady.nil)))
    ·
      go_simp
      refine hK _ _ ?_
      clear hK K
      change wpAny _ _ _ _ _ #[true, true, true, true, true, true, false, true, false, true, false, false, false, false, false, false, false, false] ⟨#[.agg #[.string op, .string tag, .slice b k.length c], .slice a n cap, .string s, .pointer (some ⟨w.heap.size, 0, none⟩), undef, undef, .bool false, .pointer (some ⟨w4.heap.size, 0, none⟩), .agg #[.string op, .string tag, .slice b k.length c], .int .i64 q, .bool false, .bool false, .slice a n cap, .int .i64 n, .bool false, .bool false, .bool false, .agg #[.string op, .string tag, .slice b k.length c], .bool false, .bool false, undef, undef, undef, undef, undef, undef, undef, undef, undef, undef, undef, .agg #[.string op, .string tag, .slice b k.length c], .agg #[.string op, .string tag, .slice b4 k.length c4], .agg #[.string op, .string tag, .slice b4 k.length c4], .slice a n cap, .bool true, .bool false, .bool false, .agg #[.string op, .string tag, .slice b4 k.length c4], undef, .slice a n cap, undef, .string s, undef, undef, undef, undef, undef, undef, undef], []⟩ _
      refine wpAny_ready (rs := [6, 10]) (by kernel_rfl) (by simp) ?_
      refine AllReady.cons rfl (fun K hK => ?_) (AllReady.cons rfl (fun K hK => ?_) (AllReady.nil))
      ·
        go_simp
        refine hK _ _ ?_
        clear hK K
        change wpAny _ _ _ _ _ #[true, true, true, true, true, true, true, true, false, true, false, false, false, false, false, false, false, false] ⟨#[.agg #[.string op, .string tag, .slice b k.length c], .slice a n cap, .string s, .pointer (some ⟨w.heap.size, 0, none⟩), undef, undef, .bool false, .pointer (some ⟨w4.heap.size, 0, none⟩), .agg #[.string op, .string tag, .slice b k.length c], .int .i64 q, .bool false, .bool false, .slice a n cap, .int .i64 n, .bool false, .bool false, .bool false, .agg #[.string op, .string tag, .slice b k.length c], .bool false, .bool false, undef, undef, undef, undef, undef, undef, undef, undef, undef, undef, undef, .agg #[.string op, .string tag, .slice b k.length c], .agg #[.string op, .string tag, .slice b4 k.length c4], .agg #[.string op, .string tag, .slice b4 k.length c4], .slice a n cap, .bool true, .bool false, .bool false, .agg #[.string op, .string tag, .slice b4 k.length c4], .slice (some ⟨V11.heap.size, 0, none⟩) 0 0, .slice a n cap, undef, .string s, undef, undef, undef, undef, undef, undef, undef], []⟩ _
        have HO0 := Lib.hid (own_none V11 W.heap.size HB11.out.size)
        have HB12 := Lib.hid (HB11.out.alloc HB11.out.size (.cells #[] 9))
        generalize V11.alloc (.cells #[] 9) = V12 at *
        have hq12 := (HB12.out.block _ (lt_of_block HQ5.out)).trans HQ5.out
        clear x0 x1 x2
        obtain ⟨⟨x0, x1, x2⟩, -⟩ := three_cells hq12
        refine wpAny_ready (rs := [8, 10]) (by kernel_rfl) (by simp) ?_
        refine AllReady.cons rfl (fun K hK => ?_) (AllReady.cons rfl (fun K hK => ?_) (AllReady.nil))
        ·
          refine step_app_first (by rfl) _ _ rfl W.heap.size _ rfl HO0.out a n cap rfl zs (HZW.out _ HB12.out) HC.out (by have := HN2.out; omega) HB12.out.size ?_
          intro a1 c1 V13 hrow hg
          refine hK _ _ ?_
          clear hK K
          change wpAny _ _ _ _ _ #[true, true, true, true, true, true, true, true, true, true, false, false, false, false, false, false, false, false] ⟨#[.agg #[.string op, .string tag, .slice b k.length c], .slice a n cap, .string s, .pointer (some ⟨w.heap.size, 0, none⟩), undef, undef, .bool false, .pointer (some ⟨w4.heap.size, 0, none⟩), .agg #[.string op, .string tag, .slice b k.length c], .int .i64 q, .bool false, .bool false, .slice a n cap, .int .i64 n, .bool false, .bool false, .bool false, .agg #[.string op, .string tag, .slice b k.length c], .bool false, .bool false, undef, undef, undef, undef, undef, undef, undef, undef, undef, undef, undef, .agg #[.string op, .string tag, .slice b k.length c], .agg #[.string op, .string tag, .slice b4 k.length c4], .agg #[.string op, .string tag, .slice b4 k.length c4], .slice a n cap, .bool true, .bool false, .bool false, .agg #[.string op, .string tag, .slice b4 k.length c4], .slice (some ⟨V11.heap.size, 0, none⟩) 0 0, .slice a n cap, .slice a1 n c1, .string s, undef, undef, undef, undef, undef, undef, undef], []⟩ _
          have HB13 := Lib.hid (below_grown HB12.out HO0.out hg)
          have HO1 := Lib.hid hrow
          clear hrow hg HO0
          have hq13 := (HB13.out.block _ (lt_of_block HQ5.out)).trans HQ5.out
          clear x0 x1 x2
          obtain ⟨⟨x0, x1, x2⟩, -⟩ := three_cells hq13
          refine wpAny_ready (rs := [10]) (by kernel_rfl) (by simp) ?_
          refine AllReady.cons rfl (fun K hK => ?_) (AllReady.nil)
          go_simp
          refine hK _ _ ?_
          clear hK K
          change wpAny _ _ _ _ _ #[true, true, true, true, true, true, true, true, true, true, true, false, false, false, false, false, false, false] ⟨#[.agg #[.string op, .string tag, .slice b k.length c], .slice a n cap, .string s, .pointer (some ⟨w.heap.size, 0, none⟩), undef, undef, .bool false, .pointer (some ⟨w4.heap.size, 0, none⟩), .agg #[.string op, .string tag, .slice b k.length c], .int .i64 q, .bool false, .bool false, .slice a n cap, .int .i64 n, .bool false, .bool false, .bool false, .agg #[.string op, .string tag, .slice b k.length c], .bool false, .bool false, undef, undef, undef, undef, undef, undef, undef, undef, undef, undef, undef, .agg #[.string op, .string tag, .slice b k.length c], .agg #[.string op, .string tag, .slice b4 k.length c4], .agg #[.string op, .string tag, .slice b4 k.length c4], .slice a n cap, .bool true, .bool false, .bool false, .agg #[.string op, .string tag, .slice b4 k.length c4], .slice (some ⟨V11.heap.size, 0, none⟩) 0 0, .slice a n cap, .slice a1 n c1, .string s, .slice (some ⟨V13.heap.size, 0, none⟩) 1 1, undef, undef, undef, undef, undef, undef], []⟩ _
          have HR43 := Lib.hid (row_one V13 s)
          have HB14 := Lib.hid (HB13.out.alloc HB13.out.size (.cells #[.string s] 9))
          replace HO1 := Lib.hid (own_alloc HO1.out (.cells #[.string s] 9))
          generalize V13.alloc (.cells #[.string s] 9) = V14 at *
          have hq14 := (HB14.out.block _ (lt_of_block HQ5.out)).trans HQ5.out
          clear x0 x1 x2
          obtain ⟨⟨x0, x1, x2⟩, -⟩ := three_cells hq14
          refine wpAny_ready (rs := [11]) (by kernel_rfl) (by simp) ?_
          refine AllReady.cons rfl (fun K hK => ?_) (AllReady.nil)
          refine step_app_row (by rfl) _ _ rfl W.heap.size _ n (strV zs) rfl HO1.out _ 1 1 rfl [s] HR43.out (fun e => by cases e) (by have := HN2.out; omega) HB14.out.size ?_
          intro a2 c2 V15 hrow hg
          refine hK _ _ ?_
          clear hK K
          change wpAny _ _ _ _ _ #[true, true, true, true, true, true, true, true, true, true, true, true, false, false, false, false, false, false] ⟨#[.agg #[.string op, .string tag, .slice b k.length c], .slice a n cap, .string s, .pointer (some ⟨w.heap.size, 0, none⟩), undef, undef, .bool false, .pointer (some ⟨w4.heap.size, 0, none⟩), .agg #[.string op, .string tag, .slice b k.length c], .int .i64 q, .bool false, .bool false, .slice a n cap, .int .i64 n, .bool false, .bool false, .bool false, .agg #[.string op, .string tag, .slice b k.length c], .bool false, .bool false, undef, undef, undef, undef, undef, undef, undef, undef, undef, undef, undef, .agg #[.string op, .string tag, .slice b k.length c], .agg #[.string op, .string tag, .slice b4 k.length c4], .agg #[.string op, .string tag, .slice b4 k.length c4], .slice a n cap, .bool true, .bool false, .bool false, .agg #[.string op, .string tag, .slice b4 k.length c4], .slice (some ⟨V11.heap.size, 0, none⟩) 0 0, .slice a n cap, .slice a1 n c1, .string s, .slice (some ⟨V13.heap.size, 0, none⟩) 1 1, .slice a2 (n + 1) c2, undef, undef, undef, undef, undef], []⟩ _
          have HB15 := Lib.hid (below_grown HB14.out HO1.out hg)
          have HR44 := Lib.hid (own_row2 (HZW.out _ HB15.out).1 hrow)
          clear hrow hg HO1
          have hq15 := (HB15.out.block _ (lt_of_block HQ5.out)).trans HQ5.out
          clear x0 x1 x2
          obtain ⟨⟨x0, x1, x2⟩, -⟩ := three_cells hq15
          refine wpAny_ready (rs := [12]) (by kernel_rfl) (by simp) ?_
          refine AllReady.cons rfl (fun K hK => ?_) (AllReady.nil)
          go_simp
          go_at_call 14
          refine (CH2.out _ HB15.out _ _ HR44.out).mono ?_
          rintro e V16 ⟨rfl, hb⟩
          refine hK _ _ ?_
          clear hK K
          change wpAny _ _ _ _ _ #[true, true, true, true, true, true, true, true, true, true, true, true, true, false, false, false, false, false] ⟨#[.agg #[.string op, .string tag, .slice b k.length c], .slice a n cap, .string s, .pointer (some ⟨w.heap.size, 0, none⟩), undef, undef, .bool false, .pointer (some ⟨w4.heap.size, 0, none⟩), .agg #[.string op, .string tag, .slice b k.length c], .int .i64 q, .bool false, .bool false, .slice a n cap, .int .i64 n, .bool false, .bool false, .bool false, .agg #[.string op, .string tag, .slice b k.length c], .bool false, .bool false, undef, undef, undef, undef, undef, undef, undef, undef, undef, undef, undef, .agg #[.string op, .string tag, .slice b k.length c], .agg #[.string op, .string tag, .slice b4 k.length c4], .agg #[.string op, .string tag, .slice b4 k.length c4], .slice a n cap, .bool true, .bool false, .bool false, .agg #[.string op, .string tag, .slice b4 k.length c4], .slice (some ⟨V11.heap.size, 0, none⟩) 0 0, .slice a n cap, .slice a1 n c1, .string s, .slice (some ⟨V13.heap.size, 0, none⟩) 1 1, .slice a2 (n + 1) c2, .bool true, undef, undef, undef, undef], []⟩ _
          have HB16 := Lib.hid (HB15.out.trans (hb.mono HB15.out.size))
          clear hb
          refine wpAny_take (i := 13) (v := .bool true) rfl (by kernel_rfl) (by kernel_rfl) (by kernel_rfl) (fun _ _ _ h => h) (Or.inl ⟨by rfl, ?_⟩) ?_
          · intro w
            go_simp
            try with_reducible rfl
          change wpAny _ _ _ _ _ #[true, true, true, true, true, true, true, true, true, true, true, true, true, true, false, false, false, false] ⟨#[.agg #[.string op, .string tag, .slice b k.length c], .slice a n cap, .string s, .pointer (some ⟨w.heap.size, 0, none⟩), undef, undef, .bool false, .pointer (some ⟨w4.heap.size, 0, none⟩), .agg #[.string op, .string tag, .slice b k.length c], .int .i64 q, .bool false, .bool false, .slice a n cap, .int .i64 n, .bool false, .bool false, .bool false, .agg #[.string op, .string tag, .slice b k.length c], .bool false, .bool false, undef, undef, undef, undef, undef, undef, undef, undef, undef, undef, undef, .agg #[.string op, .string tag, .slice b k.length c], .agg #[.string op, .string tag, .slice b4 k.length c4], .agg #[.string op, .string tag, .slice b4 k.length c4], .slice a n cap, .bool true, .bool false, .bool false, .agg #[.string op, .string tag, .slice b4 k.length c4], .slice (some ⟨V11.heap.size, 0, none⟩) 0 0, .slice a n cap, .slice a1 n c1, .string s, .slice (some ⟨V13.heap.size, 0, none⟩) 1 1, .slice a2 (n + 1) c2, .bool true, .bool true, undef, undef, undef], []⟩ _
          refine wpAny_take (i := 14) (v := .bool true) rfl (by kernel_rfl) (by kernel_rfl) (by kernel_rfl) (fun _ _ _ h => h) (Or.inl ⟨by rfl, ?_⟩) ?_
          · intro w
            go_simp
            try with_reducible rfl
          change wpAny _ _ _ _ _ #[true, true, true, true, true, true, true, true, true, true, true, true, true, true, true, false, false, false] ⟨#[.agg #[.string op, .string tag, .slice b k.length c], .slice a n cap, .string s, .pointer (some ⟨w.heap.size, 0, none⟩), undef, undef, .bool false, .pointer (some ⟨w4.heap.size, 0, none⟩), .agg #[.string op, .string tag, .slice b k.length c], .int .i64 q, .bool false, .bool false, .slice a n cap, .int .i64 n, .bool false, .bool false, .bool false, .agg #[.string op, .string tag, .slice b k.length c], .bool false, .bool false, undef, undef, undef, undef, undef, undef, undef, undef, undef, undef, undef, .agg #[.string op, .string tag, .slice b k.length c], .agg #[.string op, .string tag, .slice b4 k.length c4], .agg #[.string op, .string tag, .slice b4 k.length c4], .slice a n cap, .bool true, .bool false, .bool false, .agg #[.string op, .string tag, .slice b4 k.length c4], .slice (some ⟨V11.heap.size, 0, none⟩) 0 0, .slice a n cap, .slice a1 n c1, .string s, .slice (some ⟨V13.heap.size, 0, none⟩) 1 1, .slice a2 (n + 1) c2, .bool true, .bool true, .bool true, undef, undef], []⟩ _
          refine wpAny_ready (rs := [15]) (by kernel_rfl) (by simp) ?_
          refine AllReady.cons rfl (fun K hK => ?_) (AllReady.nil)
          go_simp
          go_at_call 17
          refine (awake_any _).mono ?_
          rintro e V17 ⟨rfl, hb⟩
          refine hK _ _ ?_
          clear hK K
          change wpAny _ _ _ _ _ #[true, true, true, true, true, true, true, true, true, true, true, true, true, true, true, true, false, false] ⟨#[.agg #[.string op, .string tag, .slice b k.length c], .slice a n cap, .string s, .pointer (some ⟨w.heap.size, 0, none⟩), undef, undef, .bool false, .pointer (some ⟨w4.heap.size, 0, none⟩), .agg #[.string op, .string tag, .slice b k.length c], .int .i64 q, .bool false, .bool false, .slice a n cap, .int .i64 n, .bool false, .bool false, .bool false, .agg #[.string op, .string tag, .slice b k.length c], .bool false, .bool false, undef, undef, undef, undef, undef, undef, undef, undef, undef, undef, undef, .agg #[.string op, .string tag, .slice b k.length c], .agg #[.string op, .string tag, .slice b4 k.length c4], .agg #[.string op, .string tag, .slice b4 k.length c4], .slice a n cap, .bool true, .bool false, .bool false, .agg #[.string op, .string tag, .slice b4 k.length c4], .slice (some ⟨V11.heap.size, 0, none⟩) 0 0, .slice a n cap, .slice a1 n c1, .string s, .slice (some ⟨V13.heap.size, 0, none⟩) 1 1, .slice a2 (n + 1) c2, .bool true, .bool true, .bool true, .bool true, undef], []⟩ _
          have HB17 := Lib.hid (HB16.out.trans (hb.mono HB16.out.size))
          clear hb
          refine wpAny_take (i := 16) (v := .bool true) rfl (by kernel_rfl) (by kernel_rfl) (by kernel_rfl) (fun _ _ _ h => h) (Or.inl ⟨by rfl, ?_⟩) ?_
          · intro w
            go_simp
            try with_reducible rfl
          change wpAny _ _ _ _ _ #[true, true, true, true, true, true, true, true, true, true, true, true, true, true, true, true, true, false] ⟨#[.agg #[.string op, .string tag, .slice b k.length c], .slice a n cap, .string s, .pointer (some ⟨w.heap.size, 0, none⟩), undef, undef, .bool false, .pointer (some ⟨w4.heap.size, 0, none⟩), .agg #[.string op, .string tag, .slice b k.length c], .int .i64 q, .bool false, .bool false, .slice a n cap, .int .i64 n, .bool false, .bool false, .bool false, .agg #[.string op, .string tag, .slice b k.length c], .bool false, .bool false, undef, undef, undef, undef, undef, undef, undef, undef, undef, undef, undef, .agg #[.string op, .string tag, .slice b k.length c], .agg #[.string op, .string tag, .slice b4 k.length c4], .agg #[.string op, .string tag, .slice b4 k.length c4], .slice a n cap, .bool true, .bool false, .bool false, .agg #[.string op, .string tag, .slice b4 k.length c4], .slice (some ⟨V11.heap.size, 0, none⟩) 0 0, .slice a n cap, .slice a1 n c1, .string s, .slice (some ⟨V13.heap.size, 0, none⟩) 1 1, .slice a2 (n + 1) c2, .bool true, .bool true, .bool true, .bool true, .bool true], []⟩ _
          refine wpAny_take (i := 17) (v := .bool true) rfl (by kernel_rfl) (by kernel_rfl) (by kernel_rfl) (fun _ _ _ h => h) (Or.inl ⟨by rfl, ?_⟩) ?_
          · intro w
            go_simp
            try with_reducible rfl
          change wpAny _ _ _ _ _ #[true, true, true, true, true, true, true, true, true, true, true, true, true, true, true, true, true, true] ⟨#[.agg #[.string op, .string tag, .slice b k.length c], .slice a n cap, .string s, .pointer (some ⟨w.heap.size, 0, none⟩), undef, undef, .bool true, .pointer (some ⟨w4.heap.size, 0, none⟩), .agg #[.string op, .string tag, .slice b k.length c], .int .i64 q, .bool false, .bool false, .slice a n cap, .int .i64 n, .bool false, .bool false, .bool false, .agg #[.string op, .string tag, .slice b k.length c], .bool false, .bool false, undef, undef, undef, undef, undef, undef, undef, undef, undef, undef, undef, .agg #[.string op, .string tag, .slice b k.length c], .agg #[.string op, .string tag, .slice b4 k.length c4], .agg #[.string op, .string tag, .slice b4 k.length c4], .slice a n cap, .bool true, .bool false, .bool false, .agg #[.string op, .string tag, .slice b4 k.length c4], .slice (some ⟨V11.heap.size, 0, none⟩) 0 0, .slice a n cap, .slice a1 n c1, .string s, .slice (some ⟨V13.heap.size, 0, none⟩) 1 1, .slice a2 (n + 1) c2, .bool true, .bool true, .bool true, .bool true, .bool true], []⟩ _
          refine wpAny_done (by kernel_rfl) ?_ _
          go_wp2
          go_ret
          exact ⟨rfl, HB5W.out.trans (HB17.out.mono HB5W.out.size)⟩
        ·
          go_simp
          refine hK _ _ ?_
          clear hK K
          change wpAny _ _ _ _ _ #[true, true, true, true, true, true, true, true, false, true, true, false, false, false, false, false, false, false] ⟨#[.agg #[.string op, .string tag, .slice b k.length c], .slice a n cap, .string s, .pointer (some ⟨w.heap.size, 0, none⟩), undef, undef, .bool false, .pointer (some ⟨w4.heap.size, 0, none⟩), .agg #[.string op, .string tag, .slice b k.length c], .int .i64 q, .bool false, .bool false, .slice a n cap, .int .i64 n, .bool false, .bool false, .bool false, .agg #[.string op, .string tag, .slice b k.length c], .bool false, .bool false, undef, undef, undef, undef, undef, undef, undef, undef, undef, undef, undef, .agg #[.string op, .string tag, .slice b k.length c], .agg #[.string op, .string tag, .slice b4 k.length c4], .agg #[.string op, .string tag, .slice b4 k.length c4], .slice a n cap, .bool true, .bool false, .bool false, .agg #[.string op, .string tag, .slice b4 k.length c4], .slice (some ⟨V11.heap.size, 0, none⟩) 0 0, .slice a n cap, undef, .string s, .slice (some ⟨V12.heap.size, 0, none⟩) 1 1, undef, undef, undef, undef, undef, undef], []⟩ _
          have HR43 := Lib.hid (row_one V12 s)
          have HB13 := Lib.hid (HB12.out.alloc HB12.out.size (.cells #[.string s] 9))
          have HNE : Hid (V11.heap.size ≠ V12.heap.size) := by show _ ≠ _; have hlt : V11.heap.size < V12.heap.size := (HO0.out.lt _ rfl).2; omega
          replace HO0 := Lib.hid (own_alloc HO0.out (.cells #[.string s] 9))
          generalize V12.alloc (.cells #[.string s] 9) = V13 at *
          generalize V12.heap.size = g43 at *
          have hq13 := (HB13.out.block _ (lt_of_block HQ5.out)).trans HQ5.out
          clear x0 x1 x2
          obtain ⟨⟨x0, x1, x2⟩, -⟩ := three_cells hq13
          refine wpAny_ready (rs := [8]) (by kernel_rfl) (by simp) ?_
          refine AllReady.cons rfl (fun K hK => ?_) (AllReady.nil)
          refine step_app_first (by rfl) _ _ rfl W.heap.size _ rfl HO0.out a n cap rfl zs (HZW.out _ HB13.out) HC.out (by have := HN2.out; omega) HB13.out.size ?_
          intro a1 c1 V14 hrow hg
          refine hK _ _ ?_
          clear hK K
          change wpAny _ _ _ _ _ #[true, true, true, true, true, true, true, true, true, true, true, false, false, false, false, false, false, false] ⟨#[.agg #[.string op, .string tag, .slice b k.length c], .slice a n cap, .string s, .pointer (some ⟨w.heap.size, 0, none⟩), undef, undef, .bool false, .pointer (some ⟨w4.heap.size, 0, none⟩), .agg #[.string op, .string tag, .slice b k.length c], .int .i64 q, .bool false, .bool false, .slice a n cap, .int .i64 n, .bool false, .bool false, .bool false, .agg #[.string op, .string tag, .slice b k.length c], .bool false, .bool false, undef, undef, undef, undef, undef, undef, undef, undef, undef, undef, undef, .agg #[.string op, .string tag, .slice b k.length c], .agg #[.string op, .string tag, .slice b4 k.length c4], .agg #[.string op, .string tag, .slice b4 k.length c4], .slice a n cap, .bool true, .bool false, .bool false, .agg #[.string op, .string tag, .slice b4 k.length c4], .slice (some ⟨V11.heap.size, 0, none⟩) 0 0, .slice a n cap, .slice a1 n c1, .string s, .slice (some ⟨g43, 0, none⟩) 1 1, undef, undef, undef, undef, undef, undef], []⟩ _
          have HB14 := Lib.hid (below_grown HB13.out HO0.out hg)
          have HO1 := Lib.hid hrow
          replace HR43 := Lib.hid (HR43.out.grown hg (fun e => HNE.out (Option.some.inj e)))
          clear hrow hg HO0
          have hq14 := (HB14.out.block _ (lt_of_block HQ5.out)).trans HQ5.out
          clear x0 x1 x2
          obtain ⟨⟨x0, x1, x2⟩, -⟩ := three_cells hq14
          refine wpAny_ready (rs := [11]) (by kernel_rfl) (by simp) ?_
          refine AllReady.cons rfl (fun K hK => ?_) (AllReady.nil)
          refine step_app_row (by rfl) _ _ rfl W.heap.size _ n (strV zs) rfl HO1.out _ 1 1 rfl [s] HR43.out (fun e => by cases e) (by have := HN2.out; omega) HB14.out.size ?_
          intro a2 c2 V15 hrow hg
          refine hK _ _ ?_
          clear hK K
          change wpAny _ _ _ _ _ #[true, true, true, true, true, true, true, true, true, true, true, true, false, false, false, false, false, false] ⟨#[.agg #[.string op, .string tag, .slice b k.length c], .slice a n cap, .string s, .pointer (some ⟨w.heap.size, 0, none⟩), undef, undef, .bool false, .pointer (some ⟨w4.heap.size, 0, none⟩), .agg #[.string op, .string tag, .slice b k.length c], .int .i64 q, .bool false, .bool false, .slice a n cap, .int .i64 n, .bool false, .bool false, .bool false, .agg #[.string op, .string tag, .slice b k.length c], .bool false, .bool false, undef, undef, undef, undef, undef, undef, undef, undef, undef, undef, undef, .agg #[.string op, .string tag, .slice b k.length c], .agg #[.string op, .string tag, .slice b4 k.length c4], .agg #[.string op, .string tag, .slice b4 k.length c4], .slice a n cap, .bool true, .bool false, .bool false, .agg #[.string op, .string tag, .slice b4 k.length c4], .slice (some ⟨V11.heap.size, 0, none⟩) 0 0, .slice a n cap, .slice a1 n c1, .string s, .slice (some ⟨g43, 0, none⟩) 1 1, .slice a2 (n + 1) c2, undef, undef, undef, undef, undef], []⟩ _
          have HB15 := Lib.hid (below_grown HB14.out HO1.out hg)
          have HR44 := Lib.hid (own_row2 (HZW.out _ HB15.out).1 hrow)
          clear hrow hg HO1
          have hq15 := (HB15.out.block _ (lt_of_block HQ5.out)).trans HQ5.out
          clear x0 x1 x2
          obtain ⟨⟨x0, x1, x2⟩, -⟩ := three_cells hq15
          refine wpAny_ready (rs := [12]) (by kernel_rfl) (by simp) ?_
          refine AllReady.cons rfl (fun K hK => ?_) (AllReady.nil)
          go_simp
          go_at_call 14
          refine (CH2.out _ HB15.out _ _ HR44.out).mono ?_
          rintro e V16 ⟨rfl, hb⟩
          refine hK _ _ ?_
          clear hK K
          change wpAny _ _ _ _ _ #[true, true, true, true, true, true, true, true, true, true, true, true, true, false, false, false, false, false] ⟨#[.agg #[.string op, .string tag, .slice b k.length c], .slice a n cap, .string s, .pointer (some ⟨w.heap.size, 0, none⟩), undef, undef, .bool false, .pointer (some ⟨w4.heap.size, 0, none⟩), .agg #[.string op, .string tag, .slice b k.length c], .int .i64 q, .bool false, .bool false, .slice a n cap, .int .i64 n, .bool false, .bool false, .bool false, .agg #[.string op, .string tag, .slice b k.length c], .bool false, .bool false, undef, undef, undef, undef, undef, undef, undef, undef, undef, undef, undef, .agg #[.string op, .string tag, .slice b k.length c], .agg #[.string op, .string tag, .slice b4 k.length c4], .agg #[.string op, .string tag, .slice b4 k.length c4], .slice a n cap, .bool true, .bool false, .bool false, .agg #[.string op, .string tag, .slice b4 k.length c4], .slice (some ⟨V11.heap.size, 0, none⟩) 0 0, .slice a n cap, .slice a1 n c1, .string s, .slice (some ⟨g43, 0, none⟩) 1 1, .slice a2 (n + 1) c2, .bool true, undef, undef, undef, undef], []⟩ _
          have HB16 := Lib.hid (HB15.out.trans (hb.mono HB15.out.size))
          clear hb
          refine wpAny_take (i := 13) (v := .bool true) rfl (by kernel_rfl) (by kernel_rfl) (by kernel_rfl) (fun _ _ _ h => h) (Or.inl ⟨by rfl, ?_⟩) ?_
          · intro w
            go_simp
            try with_reducible rfl
          change wpAny _ _ _ _ _ #[true, true, true, true, true, true, true, true, true, true, true, true, true, true, false, false, false, false] ⟨#[.agg #[.string op, .string tag, .slice b k.length c], .slice a n cap, .string s, .pointer (some ⟨w.heap.size, 0, none⟩), undef, undef, .bool false, .pointer (some ⟨w4.heap.size, 0, none⟩), .agg #[.string op, .string tag, .slice b k.length c], .int .i64 q, .bool false, .bool false, .slice a n cap, .int .i64 n, .bool false, .bool false, .bool false, .agg #[.string op, .string tag, .slice b k.length c], .bool false, .bool false, undef, undef, undef, undef, undef, undef, undef, undef, undef, undef, undef, .agg #[.string op, .string tag, .slice b k.length c], .agg #[.string op, .string tag, .slice b4 k.length c4], .agg #[.string op, .string tag, .slice b4 k.length c4], .slice a n cap, .bool true, .bool false, .bool false, .agg #[.string op, .string tag, .slice b4 k.length c4], .slice (some ⟨V11.heap.size, 0, none⟩) 0 0, .slice a n cap, .slice a1 n c1, .string s, .slice (some ⟨g43, 0, none⟩) 1 1, .slice a2 (n + 1) c2, .bool true, .bool true, undef, undef, undef], []⟩ _
          refine wpAny_take (i := 14) (v := .bool true) rfl (by kernel_rfl) (by kernel_rfl) (by kernel_rfl) (fun _ _ _ h => h) (Or.inl ⟨by rfl, ?_⟩) ?_
          · intro w
            go_simp
            try with_reducible rfl
          change wpAny _ _ _ _ _ #[true, true, true, true, true, true, true, true, true, true, true, true, true, true, true, false, false, false] ⟨#[.agg #[.string op, .string tag, .slice b k.length c], .slice a n cap, .string s, .pointer (some ⟨w.heap.size, 0, none⟩), undef, undef, .bool false, .pointer (some ⟨w4.heap.size, 0, none⟩), .agg #[.string op, .string tag, .slice b k.length c], .int .i64 q, .bool false, .bool false, .slice a n cap, .int .i64 n, .bool false, .bool false, .bool false, .agg #[.string op, .string tag, .slice b k.length c], .bool false, .bool false, undef, undef, undef, undef, undef, undef, undef, undef, undef, undef, undef, .agg #[.string op, .string tag, .slice b k.length c], .agg #[.string op, .string tag, .slice b4 k.length c4], .agg #[.string op, .string tag, .slice b4 k.length c4], .slice a n cap, .bool true, .bool false, .bool false, .agg #[.string op, .string tag, .slice b4 k.length c4], .slice (some ⟨V11.heap.size, 0, none⟩) 0 0, .slice a n cap, .slice a1 n c1, .string s, .slice (some ⟨g43, 0, none⟩) 1 1, .slice a2 (n + 1) c2, .bool true, .bool true, .bool true, undef, undef], []⟩ _
          refine wpAny_ready (rs := [15]) (by kernel_rfl) (by simp) ?_
          refine AllReady.cons rfl (fun K hK => ?_) (AllReady.nil)
          go_simp
          go_at_call 17
          refine (awake_any _).mono ?_
          rintro e V17 ⟨rfl, hb⟩
          refine hK _ _ ?_
          clear hK K
          change wpAny _ _ _ _ _ #[true, true, true, true, true, true, true, true, true, true, true, true, true, true, true, true, false, false] ⟨#[.agg #[.string op, .string tag, .slice b k.length c], .slice a n cap, .string s, .pointer (some ⟨w.heap.size, 0, none⟩), undef, undef, .bool false, .pointer (some ⟨w4.heap.size, 0, none⟩), .agg #[.string op, .string tag, .slice b k.length c], .int .i64 q, .bool false, .bool false, .slice a n cap, .int .i64 n, .bool false, .bool false, .bool false, .agg #[.string op, .string tag, .slice b k.length c], .bool false, .bool false, undef, undef, undef, undef, undef, undef, undef, undef, undef, undef, undef, .agg #[.string op, .string tag, .slice b k.length c], .agg #[.string op, .string tag, .slice b4 k.length c4], .agg #[.string op, .string tag, .slice b4 k.length c4], .slice a n cap, .bool true, .bool false, .bool false, .agg #[.string op, .string tag, .slice b4 k.length c4], .slice (some ⟨V11.heap.size, 0, none⟩) 0 0, .slice a n cap, .slice a1 n c1, .string s, .slice (some ⟨g43, 0, none⟩) 1 1, .slice a2 (n + 1) c2, .bool true, .bool true, .bool true, .bool true, undef], []⟩ _
          have HB17 := Lib.hid (HB16.out.trans (hb.mono HB16.out.size))
          clear hb
          refine wpAny_take (i := 16) (v := .bool true) rfl (by kernel_rfl) (by kernel_rfl) (by kernel_rfl) (fun _ _ _ h => h) (Or.inl ⟨by rfl, ?_⟩) ?_
          · intro w
            go_simp
            try with_reducible rfl
          change wpAny _ _ _ _ _ #[true, true, true, true, true, true, true, true, true, true, true, true, true, true, true, true, true, false] ⟨#[.agg #[.string op, .string tag, .slice b k.length c], .slice a n cap, .string s, .pointer (some ⟨w.heap.size, 0, none⟩), undef, undef, .bool false, .pointer (some ⟨w4.heap.size, 0, none⟩), .agg #[.string op, .string tag, .slice b k.length c], .int .i64 q, .bool false, .bool false, .slice a n cap, .int .i64 n, .bool false, .bool false, .bool false, .agg #[.string op, .string tag, .slice b k.length c], .bool false, .bool false, undef, undef, undef, undef, undef, undef, undef, undef, undef, undef, undef, .agg #[.string op, .string tag, .slice b k.length c], .agg #[.string op, .string tag, .slice b4 k.length c4], .agg #[.string op, .string tag, .slice b4 k.length c4], .slice a n cap, .bool true, .bool false, .bool false, .agg #[.string op, .string tag, .slice b4 k.length c4], .slice (some ⟨V11.heap.size, 0, none⟩) 0 0, .slice a n cap, .slice a1 n c1, .string s, .slice (some ⟨g43, 0, none⟩) 1 1, .slice a2 (n + 1) c2, .bool true, .bool true, .bool true, .bool true, .bool true], []⟩ _
          refine wpAny_take (i := 17) (v := .bool true) rfl (by kernel_rfl) (by kernel_rfl) (by kernel_rfl) (fun _ _ _ h => h) (Or.inl ⟨by rfl, ?_⟩) ?_
          · intro w
            go_simp
            try with_reducible rfl
          change wpAny _ _ _ _ _ #[true, true, true, true, true, true, true, true, true, true, true, true, true, true, true, true, true, true] ⟨#[.agg #[.string op, .string tag, .slice b k.length c], .slice a n cap, .string s, .pointer (some ⟨w.heap.size, 0, none⟩), undef, undef, .bool true, .pointer (some ⟨w4.heap.size, 0, none⟩), .agg #[.string op, .string tag, .slice b k.length c], .int .i64 q, .bool false, .bool false, .slice a n cap, .int .i64 n, .bool false, .bool false, .bool false, .agg #[.string op, .string tag, .slice b k.length c], .bool false, .bool false, undef, undef, undef, undef, undef, undef, undef, undef, undef, undef, undef, .agg #[.string op, .string tag, .slice b k.length c], .agg #[.string op, .string tag, .slice b4 k.length c4], .agg #[.string op, .string tag, .slice b4 k.length c4], .slice a n cap, .bool true, .bool false, .bool false, .agg #[.string op, .string tag, .slice b4 k.length c4], .slice (some ⟨V11.heap.size, 0, none⟩) 0 0, .slice a n cap, .slice a1 n c1, .string s, .slice (some ⟨g43, 0, none⟩) 1 1, .slice a2 (n + 1) c2, .bool true, .bool true, .bool true, .bool true, .bool true], []⟩ _
          refine wpAny_done (by kernel_rfl) ?_ _
          go_wp2
          go_ret
          exact ⟨rfl, HB5W.out.trans (HB17.out.mono HB5W.out.size)⟩
      ·
        go_simp
        refine hK _ _ ?_
        clear hK K
        change wpAny _ _ _ _ _ #[true, true, true, true, true, true, false, true, false, true, true, false, false, false, false, false, false, false] ⟨#[.agg #[.string op, .string tag, .slice b k.length c], .slice a n cap, .string s, .pointer (some ⟨w.heap.size, 0, none⟩), undef, undef, .bool false, .pointer (some ⟨w4.heap.size, 0, none⟩), .agg #[.string op, .string tag, .slice b k.length c], .int .i64 q, .bool false, .bool false, .slice a n cap, .int .i64 n, .bool false, .bool false, .bool false, .agg #[.string op, .string tag, .slice b k.length c], .bool false, .bool false, undef, undef, undef, undef, undef, undef, undef, undef, undef, undef, undef, .agg #[.string op, .string tag, .slice b k.length c], .agg #[.string op, .string tag, .slice b4 k.length c4], .agg #[.string op, .string tag, .slice b4 k.length c4], .slice a n cap, .bool true, .bool false, .bool false, .agg #[.string op, .string tag, .slice b4 k.length c4], undef, .slice a n cap, undef, .string s, .slice (some ⟨V11.heap.size, 0, none⟩) 1 1, undef, undef, undef, undef, undef, undef], []⟩ _
        have HR43 := Lib.hid (row_one V11 s)
        have HB12 := Lib.hid (HB11.out.alloc HB11.out.size (.cells #[.string s] 9))
        generalize V11.alloc (.cells #[.string s] 9) = V12 at *
        generalize V11.heap.size = g43 at *
        have hq12 := (HB12.out.block _ (lt_of_block HQ5.out)).trans HQ5.out
        clear x0 x1 x2
        obtain ⟨⟨x0, x1, x2⟩, -⟩ := three_cells hq12
        refine wpAny_ready (rs := [6]) (by kernel_rfl) (by simp) ?_
        refine AllReady.cons rfl (fun K hK => ?_) (AllReady.nil)
        go_simp
        refine hK _ _ ?_
        clear hK K
        change wpAny _ _ _ _ _ #[true, true, true, true, true, true, true, true, false, true, true, false, false, false, false, false, false, false] ⟨#[.agg #[.string op, .string tag, .slice b k.length c], .slice a n cap, .string s, .pointer (some ⟨w.heap.size, 0, none⟩), undef, undef, .bool false, .pointer (some ⟨w4.heap.size, 0, none⟩), .agg #[.string op, .string tag, .slice b k.length c], .int .i64 q, .bool false, .bool false, .slice a n cap, .int .i64 n, .bool false, .bool false, .bool false, .agg #[.string op, .string tag, .slice b k.length c], .bool false, .bool false, undef, undef, undef, undef, undef, undef, undef, undef, undef, undef, undef, .agg #[.string op, .string tag, .slice b k.length c], .agg #[.string op, .string tag, .slice b4 k.length c4], .agg #[.string op, .string tag, .slice b4 k.length c4], .slice a n cap, .bool true, .bool false, .bool false, .agg #[.string op, .string tag, .slice b4 k.length c4], .slice (some ⟨V12.heap.size, 0, none⟩) 0 0, .slice a n cap, undef, .string s, .slice (some ⟨g43, 0, none⟩) 1 1, undef, undef, undef, undef, undef, undef], []⟩ _
        have HO0 := Lib.hid (own_none V12 W.heap.size HB12.out.size)
        have HB13 := Lib.hid (HB12.out.alloc HB12.out.size (.cells #[] 9))
        have HNE : Hid (V12.heap.size ≠ g43) := by show _ ≠ _; have := row_lt HR43.out; omega
        replace HR43 := Lib.hid (HR43.out.below ((Below.refl V12.heap.size V12).alloc (Nat.le_refl _) (.cells #[] 9)))
        generalize V12.alloc (.cells #[] 9) = V13 at *
        have hq13 := (HB13.out.block _ (lt_of_block HQ5.out)).trans HQ5.out
        clear x0 x1 x2
        obtain ⟨⟨x0, x1, x2⟩, -⟩ := three_cells hq13
        refine wpAny_ready (rs := [8]) (by kernel_rfl) (by simp) ?_
        refine AllReady.cons rfl (fun K hK => ?_) (AllReady.nil)
        refine step_app_first (by rfl) _ _ rfl W.heap.size _ rfl HO0.out a n cap rfl zs (HZW.out _ HB13.out) HC.out (by have := HN2.out; omega) HB13.out.size ?_
        intro a1 c1 V14 hrow hg
        refine hK _ _ ?_
        clear hK K
        change wpAny _ _ _ _ _ #[true, true, true, true, true, true, true, true, true, true, true, false, false, false, false, false, false, false] ⟨#[.agg #[.string op, .string tag, .slice b k.length c], .slice a n cap, .string s, .pointer (some ⟨w.heap.size, 0, none⟩), undef, undef, .bool false, .pointer (some ⟨w4.heap.size, 0, none⟩), .agg #[.string op, .string tag, .slice b k.length c], .int .i64 q, .bool false, .bool false, .slice a n cap, .int .i64 n, .bool false, .bool false, .bool false, .agg #[.string op, .string tag, .slice b k.length c], .bool false, .bool false, undef, undef, undef, undef, undef, undef, undef, undef, undef, undef, undef, .agg #[.string op, .string tag, .slice b k.length c], .agg #[.string op, .string tag, .slice b4 k.length c4], .agg #[.string op, .string tag, .slice b4 k.length c4], .slice a n cap, .bool true, .bool false, .bool false, .agg #[.string op, .string tag, .slice b4 k.length c4], .slice (some ⟨V12.heap.size, 0, none⟩) 0 0, .slice a n cap, .slice a1 n c1, .string s, .slice (some ⟨g43, 0, none⟩) 1 1, undef, undef, undef, undef, undef, undef], []⟩ _
        have HB14 := Lib.hid (below_grown HB13.out HO0.out hg)
        have HO1 := Lib.hid hrow
        replace HR43 := Lib.hid (HR43.out.grown hg (fun e => HNE.out (Option.some.inj e)))
        clear hrow hg HO0
        have hq14 := (HB14.out.block _ (lt_of_block HQ5.out)).trans HQ5.out
        clear x0 x1 x2
        obtain ⟨⟨x0, x1, x2⟩, -⟩ := three_cells hq14
        refine wpAny_ready (rs := [11]) (by kernel_rfl) (by simp) ?_
        refine AllReady.cons rfl (fun K hK => ?_) (AllReady.nil)
        refine step_app_row (by rfl) _ _ rfl W.heap.size _ n (strV zs) rfl HO1.out _ 1 1 rfl [s] HR43.out (fun e => by cases e) (by have := HN2.out; omega) HB14.out.size ?_
        intro a2 c2 V15 hrow hg
        refine hK _ _ ?_
        clear hK K
        change wpAny _ _ _ _ _ #[true, true, true, true, true, true, true, true, true, true, true, true, false, false, false, false, false, false] ⟨#[.agg #[.string op, .string tag, .slice b k.length c], .slice a n cap, .string s, .pointer (some ⟨w.heap.size, 0, none⟩), undef, undef, .bool false, .pointer (some ⟨w4.heap.size, 0, none⟩), .agg #[.string op, .string tag, .slice b k.length c], .int .i64 q, .bool false, .bool false, .slice a n cap, .int .i64 n, .bool false, .bool false, .bool false, .agg #[.string op, .string tag, .slice b k.length c], .bool false, .bool false, undef, undef, undef, undef, undef, undef, undef, undef, undef, undef, undef, .agg #[.string op, .string tag, .slice b k.length c], .agg #[.string op, .string tag, .slice b4 k.length c4], .agg #[.string op, .string tag, .slice b4 k.length c4], .slice a n cap, .bool true, .bool false, .bool false, .agg #[.string op, .string tag, .slice b4 k.length c4], .slice (some ⟨V12.heap.size, 0, none⟩) 0 0, .slice a n cap, .slice a1 n c1, .string s, .slice (some ⟨g43, 0, none⟩) 1 1, .slice a2 (n + 1) c2, undef, undef, undef, undef, undef], []⟩ _
        have HB15 := Lib.hid (below_grown HB14.out HO1.out hg)
        have HR44 := Lib.hid (own_row2 (HZW.out _ HB15.out).1 hrow)
        clear hrow hg HO1
        have hq15 := (HB15.out.block _ (lt_of_block HQ5.out)).trans HQ5.out
        clear x0 x1 x2
        obtain ⟨⟨x0, x1, x2⟩, -⟩ := three_cells hq15
        refine wpAny_ready (rs := [12]) (by kernel_rfl) (by simp) ?_
        refine AllReady.cons rfl (fun K hK => ?_) (AllReady.nil)
        go_simp
        go_at_call 14
        refine (CH2.out _ HB15.out _ _ HR44.out).mono ?_
        rintro e V16 ⟨rfl, hb⟩
        refine hK _ _ ?_
        clear hK K
        change wpAny _ _ _ _ _ #[true, true, true, true, true, true, true, true, true, true, true, true, true, false, false, false, false, false] ⟨#[.agg #[.string op, .string tag, .slice b k.length c], .slice a n cap, .string s, .pointer (some ⟨w.heap.size, 0, none⟩), undef, undef, .bool false, .pointer (some ⟨w4.heap.size, 0, none⟩), .agg #[.string op, .string tag, .slice b k.length c], .int .i64 q, .bool false, .bool false, .slice a n cap, .int .i64 n, .bool false, .bool false, .bool false, .agg #[.string op, .string tag, .slice b k.length c], .bool false, .bool false, undef, undef, undef, undef, undef, undef, undef, undef, undef, undef, undef, .agg #[.string op, .string tag, .slice b k.length c], .agg #[.string op, .string tag, .slice b4 k.length c4], .agg #[.string op, .string tag, .slice b4 k.length c4], .slice a n cap, .bool true, .bool false, .bool false, .agg #[.string op, .string tag, .slice b4 k.length c4], .slice (some ⟨V12.heap.size, 0, none⟩) 0 0, .slice a n cap, .slice a1 n c1, .string s, .slice (some ⟨g43, 0, none⟩) 1 1, .slice a2 (n + 1) c2, .bool true, undef, undef, undef, undef], []⟩ _
        have HB16 := Lib.hid (HB15.out.trans (hb.mono HB15.out.size))
        clear hb
        refine wpAny_take (i := 13) (v := .bool true) rfl (by kernel_rfl) (by kernel_rfl) (by kernel_rfl) (fun _ _ _ h => h) (Or.inl ⟨by rfl, ?_⟩) ?_
        · intro w
          go_simp
          try with_reducible rfl
        change wpAny _ _ _ _ _ #[true, true, true, true, true, true, true, true, true, true, true, true, true, true, false, false, false, false] ⟨#[.agg #[.string op, .string tag, .slice b k.length c], .slice a n cap, .string s, .pointer (some ⟨w.heap.size, 0, none⟩), undef, undef, .bool false, .pointer (some ⟨w4.heap.size, 0, none⟩), .agg #[.string op, .string tag, .slice b k.length c], .int .i64 q, .bool false, .bool false, .slice a n cap, .int .i64 n, .bool false, .bool false, .bool false, .agg #[.string op, .string tag, .slice b k.length c], .bool false, .bool false, undef, undef, undef, undef, undef, undef, undef, undef, undef, undef, undef, .agg #[.string op, .string tag, .slice b k.length c], .agg #[.string op, .string tag, .slice b4 k.length c4], .agg #[.string op, .string tag, .slice b4 k.length c4], .slice a n cap, .bool true, .bool false, .bool false, .agg #[.string op, .string tag, .slice b4 k.length c4], .slice (some ⟨V12.heap.size, 0, none⟩) 0 0, .slice a n cap, .slice a1 n c1, .string s, .slice (some ⟨g43, 0, none⟩) 1 1, .slice a2 (n + 1) c2, .bool true, .bool true, undef, undef, undef], []⟩ _
        refine wpAny_take (i := 14) (v := .bool true) rfl (by kernel_rfl) (by kernel_rfl) (by kernel_rfl) (fun _ _ _ h => h) (Or.inl ⟨by rfl, ?_⟩) ?_
        · intro w
          go_simp
          try with_reducible rfl
        change wpAny _ _ _ _ _ #[true, true, true, true, true, true, true, true, true, true, true, true, true, true, true, false, false, false] ⟨#[.agg #[.string op, .string tag, .slice b k.length c], .slice a n cap, .string s, .pointer (some ⟨w.heap.size, 0, none⟩), undef, undef, .bool false, .pointer (some ⟨w4.heap.size, 0, none⟩), .agg #[.string op, .string tag, .slice b k.length c], .int .i64 q, .bool false, .bool false, .slice a n cap, .int .i64 n, .bool false, .bool false, .bool false, .agg #[.string op, .string tag, .slice b k.length c], .bool false, .bool false, undef, undef, undef, undef, undef, undef, undef, undef, undef, undef, undef, .agg #[.string op, .string tag, .slice b k.length c], .agg #[.string op, .string tag, .slice b4 k.length c4], .agg #[.string op, .string tag, .slice b4 k.length c4], .slice a n cap, .bool true, .bool false, .bool false, .agg #[.string op, .string tag, .slice b4 k.length c4], .slice (some ⟨V12.heap.size, 0, none⟩) 0 0, .slice a n cap, .slice a1 n c1, .string s, .slice (some ⟨g43, 0, none⟩) 1 1, .slice a2 (n + 1) c2, .bool true, .bool true, .bool true, undef, undef], []⟩ _
        refine wpAny_ready (rs := [15]) (by kernel_rfl) (by simp) ?_
        refine AllReady.cons rfl (fun K hK => ?_) (AllReady.nil)
        go_simp
        go_at_call 17
        refine (awake_any _).mono ?_
        rintro e V17 ⟨rfl, hb⟩
        refine hK _ _ ?_
        clear hK K
        change wpAny _ _ _ _ _ #[true, true, true, true, true, true, true, true, true, true, true, true, true, true, true, true, false, false] ⟨#[.agg #[.string op, .string tag, .slice b k.length c], .slice a n cap, .string s, .pointer (some ⟨w.heap.size, 0, none⟩), undef, undef, .bool false, .pointer (some ⟨w4.heap.size, 0, none⟩), .agg #[.string op, .string tag, .slice b k.length c], .int .i64 q, .bool false, .bool false, .slice a n cap, .int .i64 n, .bool false, .bool false, .bool false, .agg #[.string op, .string tag, .slice b k.length c], .bool false, .bool false, undef, undef, undef, undef, undef, undef, undef, undef, undef, undef, undef, .agg #[.string op, .string tag, .slice b k.length c], .agg #[.string op, .string tag, .slice b4 k.length c4], .agg #[.string op, .string tag, .slice b4 k.length c4], .slice a n cap, .bool true, .bool false, .bool false, .agg #[.string op, .string tag, .slice b4 k.length c4], .slice (some ⟨V12.heap.size, 0, none⟩) 0 0, .slice a n cap, .slice a1 n c1, .string s, .slice (some ⟨g43, 0, none⟩) 1 1, .slice a2 (n + 1) c2, .bool true, .bool true, .bool true, .bool true, undef], []⟩ _
        have HB17 := Lib.hid (HB16.out.trans (hb.mono HB16.out.size))
        clear hb
        refine wpAny_take (i := 16) (v := .bool true) rfl (by kernel_rfl) (by kernel_rfl) (by kernel_rfl) (fun _ _ _ h => h) (Or.inl ⟨by rfl, ?_⟩) ?_
        · intro w
          go_simp
          try with_reducible rfl
        change wpAny _ _ _ _ _ #[true, true, true, true, true, true, true, true, true, true, true, true, true, true, true, true, true, false] ⟨#[.agg #[.string op, .string tag, .slice b k.length c], .slice a n cap, .string s, .pointer (some ⟨w.heap.size, 0, none⟩), undef, undef, .bool false, .pointer (some ⟨w4.heap.size, 0, none⟩), .agg #[.string op, .string tag, .slice b k.length c], .int .i64 q, .bool false, .bool false, .slice a n cap, .int .i64 n, .bool false, .bool false, .bool false, .agg #[.string op, .string tag, .slice b k.length c], .bool false, .bool false, undef, undef, undef, undef, undef, undef, undef, undef, undef, undef, undef, .agg #[.string op, .string tag, .slice b k.length c], .agg #[.string op, .string tag, .slice b4 k.length c4], .agg #[.string op, .string tag, .slice b4 k.length c4], .slice a n cap, .bool true, .bool false, .bool false, .agg #[.string op, .string tag, .slice b4 k.length c4], .slice (some ⟨V12.heap.size, 0, none⟩) 0 0, .slice a n cap, .slice a1 n c1, .string s, .slice (some ⟨g43, 0, none⟩) 1 1, .slice a2 (n + 1) c2, .bool true, .bool true, .bool true, .bool true, .bool true], []⟩ _
        refine wpAny_take (i := 17) (v := .bool true) rfl (by kernel_rfl) (by kernel_rfl) (by kernel_rfl) (fun _ _ _ h => h) (Or.inl ⟨by rfl, ?_⟩) ?_
        · intro w
          go_simp
          try with_reducible rfl
        change wpAny _ _ _ _ _ #[true, true, true, true, true, true, true, true, true, true, true, true, true, true, true, true, true, true] ⟨#[.agg #[.string op, .string tag, .slice b k.length c], .slice a n cap, .string s, .pointer (some ⟨w.heap.size, 0, none⟩), undef, undef, .bool true, .pointer (some ⟨w4.heap.size, 0, none⟩), .agg #[.string op, .string tag, .slice b k.length c], .int .i64 q, .bool false, .bool false, .slice a n cap, .int .i64 n, .bool false, .bool false, .bool false, .agg #[.string op, .string tag, .slice b k.length c], .bool false, .bool false, undef, undef, undef, undef, undef, undef, undef, undef, undef, undef, undef, .agg #[.string op, .string tag, .slice b k.length c], .agg #[.string op, .string tag, .slice b4 k.length c4], .agg #[.string op, .string tag, .slice b4 k.length c4], .slice a n cap, .bool true, .bool false, .bool false, .agg #[.string op, .string tag, .slice b4 k.length c4], .slice (some ⟨V12.heap.size, 0, none⟩) 0 0, .slice a n cap, .slice a1 n c1, .string s, .slice (some ⟨g43, 0, none⟩) 1 1, .slice a2 (n + 1) c2, .bool true, .bool true, .bool true, .bool true, .bool true], []⟩ _
        refine wpAny_done (by kernel_rfl) ?_ _
        go_wp2
        go_ret
        exact ⟨rfl, HB5W.out.trans (HB17.out.mono HB5W.out.size)⟩
    ·
      go_simp
      refine hK _ _ ?_
      clear hK K
      change wpAny _ _ _ _ _ #[true, true, true, true, true, false, true, true, false, true, false, false, false, false, false, false, false, false] ⟨#[.agg #[.string op, .string tag, .slice b k.length c], .slice a n cap, .string s, .pointer (some ⟨w.heap.size, 0, none⟩), undef, undef, .bool false, .pointer (some ⟨w4.heap.size, 0, none⟩), .agg #[.string op, .string tag, .slice b k.length c], .int .i64 q, .bool false, .bool false, .slice a n cap, .int .i64 n, .bool false, .bool false, .bool false, .agg #[.string op, .string tag, .slice b k.length c], .bool false, .bool false, undef, undef, undef, undef, undef, undef, undef, undef, undef, undef, undef, .agg #[.string op, .string tag, .slice b k.length c], .agg #[.string op, .string tag, .slice b4 k.length c4], .agg #[.string op, .string tag, .slice b4 k.length c4], .slice a n cap, .bool true, .bool false, .bool false, undef, .slice (some ⟨V11.heap.size, 0, none⟩) 0 0, .slice a n cap, undef, .string s, undef, undef, undef, undef, undef, undef, undef], []⟩ _
      have HO0 := Lib.hid (own_none V11 W.heap.size HB11.out.size)
      have HB12 := Lib.hid (HB11.out.alloc HB11.out.size (.cells #[] 9))
      generalize V11.alloc (.cells #[] 9) = V12 at *
      have hq12 := (HB12.out.block _ (lt_of_block HQ5.out)).trans HQ5.out
      clear x0 x1 x2
      obtain ⟨⟨x0, x1, x2⟩, -⟩ := three_cells hq12
      refine wpAny_ready (rs := [5, 8, 10]) (by kernel_rfl) (by simp) ?_
      refine AllReady.cons rfl (fun K hK => ?_) (AllReady.cons rfl (fun K hK => ?_) (AllReady.cons rfl (fun K hK => ?_) (AllReady.nil)))
      ·
        go_simp
        refine hK _ _ ?_
        clear hK K
        change wpAny _ _ _ _ _ #[true, true, true, true, true, true, true, true, false, true, false, false, false, false, false, false, false, false] ⟨#[.agg #[.string op, .string tag, .slice b k.length c], .slice a n cap, .string s, .pointer (some ⟨w.heap.size, 0, none⟩), undef, undef, .bool false, .pointer (some ⟨w4.heap.size, 0, none⟩), .agg #[.string op, .string tag, .slice b k.length c], .int .i64 q, .bool false, .bool false, .slice a n cap, .int .i64 n, .bool false, .bool false, .bool false, .agg #[.string op, .string tag, .slice b k.length c], .bool false, .bool false, undef, undef, undef, undef, undef, undef, undef, undef, undef, undef, undef, .agg #[.string op, .string tag, .slice b k.length c], .agg #[.string op, .string tag, .slice b4 k.length c4], .agg #[.string op, .string tag, .slice b4 k.length c4], .slice a n cap, .bool true, .bool false, .bool false, .agg #[.string op, .string tag, .slice b4 k.length c4], .slice (some ⟨V11.heap.size, 0, none⟩) 0 0, .slice a n cap, undef, .string s, undef, undef, undef, undef, undef, undef, undef], []⟩ _
        refine wpAny_ready (rs := [8, 10]) (by kernel_rfl) (by simp) ?_
        refine AllReady.cons rfl (fun K hK => ?_) (AllReady.cons rfl (fun K hK => ?_) (AllReady.nil))
        ·
          refine step_app_first (by rfl) _ _ rfl W.heap.size _ rfl HO0.out a n cap rfl zs (HZW.out _ HB12.out) HC.out (by have := HN2.out; omega) HB12.out.size ?_
          intro a1 c1 V13 hrow hg
          refine hK _ _ ?_
          clear hK K
          change wpAny _ _ _ _ _ #[true, true, true, true, true, true, true, true, true, true, false, false, false, false, false, false, false, false] ⟨#[.agg #[.string op, .string tag, .slice b k.length c], .slice a n cap, .string s, .pointer (some ⟨w.heap.size, 0, none⟩), undef, undef, .bool false, .pointer (some ⟨w4.heap.size, 0, none⟩), .agg #[.string op, .string tag, .slice b k.length c], .int .i64 q, .bool false, .bool false, .slice a n cap, .int .i64 n, .bool false, .bool false, .bool false, .agg #[.string op, .string tag, .slice b k.length c], .bool false, .bool false, undef, undef, undef, undef, undef, undef, undef, undef, undef, undef, undef, .agg #[.string op, .string tag, .slice b k.length c], .agg #[.string op, .string tag, .slice b4 k.length c4], .agg #[.string op, .string tag, .slice b4 k.length c4], .slice a n cap, .bool true, .bool false, .bool false, .agg #[.string op, .string tag, .slice b4 k.length c4], .slice (some ⟨V11.heap.size, 0, none⟩) 0 0, .slice a n cap, .slice a1 n c1, .string s, undef, undef, undef, undef, undef, undef, undef], []⟩ _
          have HB13 := Lib.hid (below_grown HB12.out HO0.out hg)
          have HO1 := Lib.hid hrow
          clear hrow hg HO0
          have hq13 := (HB13.out.block _ (lt_of_block HQ5.out)).trans HQ5.out
          clear x0 x1 x2
          obtain ⟨⟨x0, x1, x2⟩, -⟩ := three_cells hq13
          refine wpAny_ready (rs := [10]) (by kernel_rfl) (by simp) ?_
          refine AllReady.cons rfl (fun K hK => ?_) (AllReady.nil)
          go_simp
          refine hK _ _ ?_
          clear hK K
          change wpAny _ _ _ _ _ #[true, true, true, true, true, true, true, true, true, true, true, false, false, false, false, false, false, false] ⟨#[.agg #[.string op, .string tag, .slice b k.length c], .slice a n cap, .string s, .pointer (some ⟨w.heap.size, 0, none⟩), undef, undef, .bool false, .pointer (some ⟨w4.heap.size, 0, none⟩), .agg #[.string op, .string tag, .slice b k.length c], .int .i64 q, .bool false, .bool false, .slice a n cap, .int .i64 n, .bool false, .bool false, .bool false, .agg #[.string op, .string tag, .slice b k.length c], .bool false, .bool false, undef, undef, undef, undef, undef, undef, undef, undef, undef, undef, undef, .agg #[.string op, .string tag, .slice b k.length c], .agg #[.string op, .string tag, .slice b4 k.length c4], .agg #[.string op, .string tag, .slice b4 k.length c4], .slice a n cap, .bool true, .bool false, .bool false, .agg #[.string op, .string tag, .slice b4 k.length c4], .slice (some ⟨V11.heap.size, 0, none⟩) 0 0, .slice a n cap, .slice a1 n c1, .string s, .slice (some ⟨V13.heap.size, 0, none⟩) 1 1, undef, undef, undef, undef, undef, undef], []⟩ _
          have HR43 := Lib.hid (row_one V13 s)
          have HB14 := Lib.hid (HB13.out.alloc HB13.out.size (.cells #[.string s] 9))
          replace HO1 := Lib.hid (own_alloc HO1.out (.cells #[.string s] 9))
          generalize V13.alloc (.cells #[.string s] 9) = V14 at *
          have hq14 := (HB14.out.block _ (lt_of_block HQ5.out)).trans HQ5.out
          clear x0 x1 x2
          obtain ⟨⟨x0, x1, x2⟩, -⟩ := three_cells hq14
          refine wpAny_ready (rs := [11]) (by kernel_rfl) (by simp) ?_
          refine AllReady.cons rfl (fun K hK => ?_) (AllReady.nil)
          refine step_app_row (by rfl) _ _ rfl W.heap.size _ n (strV zs) rfl HO1.out _ 1 1 rfl [s] HR43.out (fun e => by cases e) (by have := HN2.out; omega) HB14.out.size ?_
          intro a2 c2 V15 hrow hg
          refine hK _ _ ?_
          clear hK K
          change wpAny _ _ _ _ _ #[true, true, true, true, true, true, true, true, true, true, true, true, false, false, false, false, false, false] ⟨#[.agg #[.string op, .string tag, .slice b k.length c], .slice a n cap, .string s, .pointer (some ⟨w.heap.size, 0, none⟩), undef, undef, .bool false, .pointer (some ⟨w4.heap.size, 0, none⟩), .agg #[.string op, .string tag, .slice b k.length c], .int .i64 q, .bool false, .bool false, .slice a n cap, .int .i64 n, .bool false, .bool false, .bool false, .agg #[.string op, .string tag, .slice b k.length c], .bool false, .bool false, undef, undef, undef, undef, undef, undef, undef, undef, undef, undef, undef, .agg #[.string op, .string tag, .slice b k.length c], .agg #[.string op, .string tag, .slice b4 k.length c4], .agg #[.string op, .string tag, .slice b4 k.length c4], .slice a n cap, .bool true, .bool false, .bool false, .agg #[.string op, .string tag, .slice b4 k.length c4], .slice (some ⟨V11.heap.size, 0, none⟩) 0 0, .slice a n cap, .slice a1 n c1, .string s, .slice (some ⟨V13.heap.size, 0, none⟩) 1 1, .slice a2 (n + 1) c2, undef, undef, undef, undef, undef], []⟩ _
          have HB15 := Lib.hid (below_grown HB14.out HO1.out hg)
          have HR44 := Lib.hid (own_row2 (HZW.out _ HB15.out).1 hrow)
          clear hrow hg HO1
          have hq15 := (HB15.out.block _ (lt_of_block HQ5.out)).trans HQ5.out
          clear x0 x1 x2
          obtain ⟨⟨x0, x1, x2⟩, -⟩ := three_cells hq15
          refine wpAny_ready (rs := [12]) (by kernel_rfl) (by simp) ?_
          refine AllReady.cons rfl (fun K hK => ?_) (AllReady.nil)
          go_simp
          go_at_call 14
          refine (CH2.out _ HB15.out _ _ HR44.out).mono ?_
          rintro e V16 ⟨rfl, hb⟩
          refine hK _ _ ?_
          clear hK K
          change wpAny _ _ _ _ _ #[true, true, true, true, true, true, true, true, true, true, true, true, true, false, false, false, false, false] ⟨#[.agg #[.string op, .string tag, .slice b k.length c], .slice a n cap, .string s, .pointer (some ⟨w.heap.size, 0, none⟩), undef, undef, .bool false, .pointer (some ⟨w4.heap.size, 0, none⟩), .agg #[.string op, .string tag, .slice b k.length c], .int .i64 q, .bool false, .bool false, .slice a n cap, .int .i64 n, .bool false, .bool false, .bool false, .agg #[.string op, .string tag, .slice b k.length c], .bool false, .bool false, undef, undef, undef, undef, undef, undef, undef, undef, undef, undef, undef, .agg #[.string op, .string tag, .slice b k.length c], .agg #[.string op, .string tag, .slice b4 k.length c4], .agg #[.string op, .string tag, .slice b4 k.length c4], .slice a n cap, .bool true, .bool false, .bool false, .agg #[.string op, .string tag, .slice b4 k.length c4], .slice (some ⟨V11.heap.size, 0, none⟩) 0 0, .slice a n cap, .slice a1 n c1, .string s, .slice (some ⟨V13.heap.size, 0, none⟩) 1 1, .slice a2 (n + 1) c2, .bool true, undef, undef, undef, undef], []⟩ _
          have HB16 := Lib.hid (HB15.out.trans (hb.mono HB15.out.size))
          clear hb
          refine wpAny_take (i := 13) (v := .bool true) rfl (by kernel_rfl) (by kernel_rfl) (by kernel_rfl) (fun _ _ _ h => h) (Or.inl ⟨by rfl, ?_⟩) ?_
          · intro w
            go_simp
            try with_reducible rfl
          change wpAny _ _ _ _ _ #[true, true, true, true, true, true, true, true, true, true, true, true, true, true, false, false, false, false] ⟨#[.agg #[.string op, .string tag, .slice b k.length c], .slice a n cap, .string s, .pointer (some ⟨w.heap.size, 0, none⟩), undef, undef, .bool false, .pointer (some ⟨w4.heap.size, 0, none⟩), .agg #[.string op, .string tag, .slice b k.length c], .int .i64 q, .bool false, .bool false, .slice a n cap, .int .i64 n, .bool false, .bool false, .bool false, .agg #[.string op, .string tag, .slice b k.length c], .bool false, .bool false, undef, undef, undef, undef, undef, undef, undef, undef, undef, undef, undef, .agg #[.string op, .string tag, .slice b k.length c], .agg #[.string op, .string tag, .slice b4 k.length c4], .agg #[.string op, .string tag, .slice b4 k.length c4], .slice a n cap, .bool true, .bool false, .bool false, .agg #[.string op, .string tag, .slice b4 k.length c4], .slice (some ⟨V11.heap.size, 0, none⟩) 0 0, .slice a n cap, .slice a1 n c1, .string s, .slice (some ⟨V13.heap.size, 0, none⟩) 1 1, .slice a2 (n + 1) c2, .bool true, .bool true, undef, undef, undef], []⟩ _
          refine wpAny_take (i := 14) (v := .bool true) rfl (by kernel_rfl) (by kernel_rfl) (by kernel_rfl) (fun _ _ _ h => h) (Or.inl ⟨by rfl, ?_⟩) ?_
          · intro w
            go_simp
            try with_reducible rfl
          change wpAny _ _ _ _ _ #[true, true, true, true, true, true, true, true, true, true, true, true, true, true, true, false, false, false] ⟨#[.agg #[.string op, .string tag, .slice b k.length c], .slice a n cap, .string s, .pointer (some ⟨w.heap.size, 0, none⟩), undef, undef, .bool false, .pointer (some ⟨w4.heap.size, 0, none⟩), .agg #[.string op, .string tag, .slice b k.length c], .int .i64 q, .bool false, .bool false, .slice a n cap, .int .i64 n, .bool false, .bool false, .bool false, .agg #[.string op, .string tag, .slice b k.length c], .bool false, .bool false, undef, undef, undef, undef, undef, undef, undef, undef, undef, undef, undef, .agg #[.string op, .string tag, .slice b k.length c], .agg #[.string op, .string tag, .slice b4 k.length c4], .agg #[.string op, .string tag, .slice b4 k.length c4], .slice a n cap, .bool true, .bool false, .bool false, .agg #[.string op, .string tag, .slice b4 k.length c4], .slice (some ⟨V11.heap.size, 0, none⟩) 0 0, .slice a n cap, .slice a1 n c1, .string s, .slice (some ⟨V13.heap.size, 0, none⟩) 1 1, .slice a2 (n + 1) c2, .bool true, .bool true, .bool true, undef, undef], []⟩ _
          refine wpAny_ready (rs := [15]) (by kernel_rfl) (by simp) ?_
          refine AllReady.cons rfl (fun K hK => ?_) (AllReady.nil)
          go_simp
          go_at_call 17
          refine (awake_any _).mono ?_
          rintro e V17 ⟨rfl, hb⟩
          refine hK _ _ ?_
          clear hK K
          change wpAny _ _ _ _ _ #[true, true, true, true, true, true, true, true, true, true, true, true, true, true, true, true, false, false] ⟨#[.agg #[.string op, .string tag, .slice b k.length c], .slice a n cap, .string s, .pointer (some ⟨w.heap.size, 0, none⟩), undef, undef, .bool false, .pointer (some ⟨w4.heap.size, 0, none⟩), .agg #[.string op, .string tag, .slice b k.length c], .int .i64 q, .bool false, .bool false, .slice a n cap, .int .i64 n, .bool false, .bool false, .bool false, .agg #[.string op, .string tag, .slice b k.length c], .bool false, .bool false, undef, undef, undef, undef, undef, undef, undef, undef, undef, undef, undef, .agg #[.string op, .string tag, .slice b k.length c], .agg #[.string op, .string tag, .slice b4 k.length c4], .agg #[.string op, .string tag, .slice b4 k.length c4], .slice a n cap, .bool true, .bool false, .bool false, .agg #[.string op, .string tag, .slice b4 k.length c4], .slice (some ⟨V11.heap.size, 0, none⟩) 0 0, .slice a n cap, .slice a1 n c1, .string s, .slice (some ⟨V13.heap.size, 0, none⟩) 1 1, .slice a2 (n + 1) c2, .bool true, .bool true, .bool true, .bool true, undef], []⟩ _
          have HB17 := Lib.hid (HB16.out.trans (hb.mono HB16.out.size))
          clear hb
          refine wpAny_take (i := 16) (v := .bool true) rfl (by kernel_rfl) (by kernel_rfl) (by kernel_rfl) (fun _ _ _ h => h) (Or.inl ⟨by rfl, ?_⟩) ?_
          · intro w
            go_simp
            try with_reducible rfl
          change wpAny _ _ _ _ _ #[true, true, true, true, true, true, true, true, true, true, true, true, true, true, true, true, true, false] ⟨#[.agg #[.string op, .string tag, .slice b k.length c], .slice a n cap, .string s, .pointer (some ⟨w.heap.size, 0, none⟩), undef, undef, .bool false, .pointer (some ⟨w4.heap.size, 0, none⟩), .agg #[.string op, .string tag, .slice b k.length c], .int .i64 q, .bool false, .bool false, .slice a n cap, .int .i64 n, .bool false, .bool false, .bool false, .agg #[.string op, .string tag, .slice b k.length c], .bool false, .bool false, undef, undef, undef, undef, undef, undef, undef, undef, undef, undef, undef, .agg #[.string op, .string tag, .slice b k.length c], .agg #[.string op, .string tag, .slice b4 k.length c4], .agg #[.string op, .string tag, .slice b4 k.length c4], .slice a n cap, .bool true, .bool false, .bool false, .agg #[.string op, .string tag, .slice b4 k.length c4], .slice (some ⟨V11.heap.size, 0, none⟩) 0 0, .slice a n cap, .slice a1 n c1, .string s, .slice (some ⟨V13.heap.size, 0, none⟩) 1 1, .slice a2 (n + 1) c2, .bool true, .bool true, .bool true, .bool true, .bool true], []⟩ _
          refine wpAny_take (i := 17) (v := .bool true) rfl (by kernel_rfl) (by kernel_rfl) (by kernel_rfl) (fun _ _ _ h => h) (Or.inl ⟨by rfl, ?_⟩) ?_
          · intro w
            go_simp
            try with_reducible rfl
          change wpAny _ _ _ _ _ #[true, true, true, true, true, true, true, true, true, true, true, true, true, true, true, true, true, true] ⟨#[.agg #[.string op, .string tag, .slice b k.length c], .slice a n cap, .string s, .pointer (some ⟨w.heap.size, 0, none⟩), undef, undef, .bool true, .pointer (some ⟨w4.heap.size, 0, none⟩), .agg #[.string op, .string tag, .slice b k.length c], .int .i64 q, .bool false, .bool false, .slice a n cap, .int .i64 n, .bool false, .bool false, .bool false, .agg #[.string op, .string tag, .slice b k.length c], .bool false, .bool false, undef, undef, undef, undef, undef, undef, undef, undef, undef, undef, undef, .agg #[.string op, .string tag, .slice b k.length c], .agg #[.string op, .string tag, .slice b4 k.length c4], .agg #[.string op, .string tag, .slice b4 k.length c4], .slice a n cap, .bool true, .bool false, .bool false, .agg #[.string op, .string tag, .slice b4 k.length c4], .slice (some ⟨V11.heap.size, 0, none⟩) 0 0, .slice a n cap, .slice a1 n c1, .string s, .slice (some ⟨V13.heap.size, 0, none⟩) 1 1, .slice a2 (n + 1) c2, .bool true, .bool true, .bool true, .bool true, .bool true], []⟩ _
          refine wpAny_done (by kernel_rfl) ?_ _
          go_wp2
          go_ret
          exact ⟨rfl, HB5W.out.trans (HB17.out.mono HB5W.out.size)⟩
        ·
          go_simp
          refine hK _ _ ?_
          clear hK K
          change wpAny _ _ _ _ _ #[true, true, true, true, true, true, true, true, false, true, true, false, false, false, false, false, false, false] ⟨#[.agg #[.string op, .string tag, .slice b k.length c], .slice a n cap, .string s, .pointer (some ⟨w.heap.size, 0, none⟩), undef, undef, .bool false, .pointer (some ⟨w4.heap.size, 0, none⟩), .agg #[.string op, .string tag, .slice b k.length c], .int .i64 q, .bool false, .bool false, .slice a n cap, .int .i64 n, .bool false, .bool false, .bool false, .agg #[.string op, .string tag, .slice b k.length c], .bool false, .bool false, undef, undef, undef, undef, undef, undef, undef, undef, undef, undef, undef, .agg #[.string op, .string tag, .slice b k.length c], .agg #[.string op, .string tag, .slice b4 k.length c4], .agg #[.string op, .string tag, .slice b4 k.length c4], .slice a n cap, .bool true, .bool false, .bool false, .agg #[.string op, .string tag, .slice b4 k.length c4], .slice (some ⟨V11.heap.size, 0, none⟩) 0 0, .slice a n cap, undef, .string s, .slice (some ⟨V12.heap.size, 0, none⟩) 1 1, undef, undef, undef, undef, undef, undef], []⟩ _
          have HR43 := Lib.hid (row_one V12 s)
          have HB13 := Lib.hid (HB12.out.alloc HB12.out.size (.cells #[.string s] 9))
          have HNE : Hid (V11.heap.size ≠ V12.heap.size) := by show _ ≠ _; have hlt : V11.heap.size < V12.heap.size := (HO0.out.lt _ rfl).2; omega
          replace HO0 := Lib.hid (own_alloc HO0.out (.cells #[.string s] 9))
          generalize V12.alloc (.cells #[.string s] 9) = V13 at *
          generalize V12.heap.size = g43 at *
          have hq13 := (HB13.out.block _ (lt_of_block HQ5.out)).trans HQ5.out
          clear x0 x1 x2
          obtain ⟨⟨x0, x1, x2⟩, -⟩ := three_cells hq13
          refine wpAny_ready (rs := [8]) (by kernel_rfl) (by simp) ?_
          refine AllReady.cons rfl (fun K hK => ?_) (AllReady.nil)
          refine step_app_first (by rfl) _ _ rfl W.heap.size _ rfl HO0.out a n cap rfl zs (HZW.out _ HB13.out) HC.out (by have := HN2.out; omega) HB13.out.size ?_
          intro a1 c1 V14 hrow hg
          refine hK _ _ ?_
          clear hK K
          change wpAny _ _ _ _ _ #[true, true, true, true, true, true, true, true, true, true, true, false, false, false, false, false, false, false] ⟨#[.agg #[.string op, .string tag, .slice b k.length c], .slice a n cap, .string s, .pointer (some ⟨w.heap.size, 0, none⟩), undef, undef, .bool false, .pointer (some ⟨w4.heap.size, 0, none⟩), .agg #[.string op, .string tag, .slice b k.length c], .int .i64 q, .bool false, .bool false, .slice a n cap, .int .i64 n, .bool false, .bool false, .bool false, .agg #[.string op, .string tag, .slice b k.length c], .bool false, .bool false, undef, undef, undef, undef, undef, undef, undef, undef, undef, undef, undef, .agg #[.string op, .string tag, .slice b k.length c], .agg #[.string op, .string tag, .slice b4 k.length c4], .agg #[.string op, .string tag, .slice b4 k.length c4], .slice a n cap, .bool true, .bool false, .bool false, .agg #[.string op, .string tag, .slice b4 k.length c4], .slice (some ⟨V11.heap.size, 0, none⟩) 0 0, .slice a n cap, .slice a1 n c1, .string s, .slice (some ⟨g43, 0, none⟩) 1 1, undef, undef, undef, undef, undef, undef], []⟩ _
          have HB14 := Lib.hid (below_grown HB13.out HO0.out hg)
          have HO1 := Lib.hid hrow
          replace HR43 := Lib.hid (HR43.out.grown hg (fun e => HNE.out (Option.some.inj e)))
          clear hrow hg HO0
          have hq14 := (HB14.out.block _ (lt_of_block HQ5.out)).trans HQ5.out
          clear x0 x1 x2
          obtain ⟨⟨x0, x1, x2⟩, -⟩ := three_cells hq14
          refine wpAny_ready (rs := [11]) (by kernel_rfl) (by simp) ?_
          refine AllReady.cons rfl (fun K hK => ?_) (AllReady.nil)
          refine step_app_row (by rfl) _ _ rfl W.heap.size _ n (strV zs) rfl HO1.out _ 1 1 rfl [s] HR43.out (fun e => by cases e) (by have := HN2.out; omega) HB14.out.size ?_
          intro a2 c2 V15 hrow hg
          refine hK _ _ ?_
          clear hK K
          change wpAny _ _ _ _ _ #[true, true, true, true, true, true, true, true, true, true, true, true, false, false, false, false, false, false] ⟨#[.agg #[.string op, .string tag, .slice b k.length c], .slice a n cap, .string s, .pointer (some ⟨w.heap.size, 0, none⟩), undef, undef, .bool false, .pointer (some ⟨w4.heap.size, 0, none⟩), .agg #[.string op, .string tag, .slice b k.length c], .int .i64 q, .bool false, .bool false, .slice a n cap, .int .i64 n, .bool false, .bool false, .bool false, .agg #[.string op, .string tag, .slice b k.length c], .bool false, .bool false, undef, undef, undef, undef, undef, undef, undef, undef, undef, undef, undef, .agg #[.string op, .string tag, .slice b k.length c], .agg #[.string op, .string tag, .slice b4 k.length c4], .agg #[.string op, .string tag, .slice b4 k.length c4], .slice a n cap, .bool true, .bool false, .bool false, .agg #[.string op, .string tag, .slice b4 k.length c4], .slice (some ⟨V11.heap.size, 0, none⟩) 0 0, .slice a n cap, .slice a1 n c1, .string s, .slice (some ⟨g43, 0, none⟩) 1 1, .slice a2 (n + 1) c2, undef, undef, undef, undef, undef], []⟩ _
          have HB15 := Lib.hid (below_grown HB14.out HO1.out hg)
          have HR44 := Lib.hid (own_row2 (HZW.out _ HB15.out).1 hrow)
          clear hrow hg HO1
          have hq15 := (HB15.out.block _ (lt_of_block HQ5.out)).trans HQ5.out
          clear x0 x1 x2
          obtain ⟨⟨x0, x1, x2⟩, -⟩ := three_cells hq15
          refine wpAny_ready (rs := [12]) (by kernel_rfl) (by simp) ?_
          refine AllReady.cons rfl (fun K hK => ?_) (AllReady.nil)
          go_simp
          go_at_call 14
          refine (CH2.out _ HB15.out _ _ HR44.out).mono ?_
          rintro e V16 ⟨rfl, hb⟩
          refine hK _ _ ?_
          clear hK K
          change wpAny _ _ _ _ _ #[true, true, true, true, true, true, true, true, true, true, true, true, true, false, false, false, false, false] ⟨#[.agg #[.string op, .string tag, .slice b k.length c], .slice a n cap, .string s, .pointer (some ⟨w.heap.size, 0, none⟩), undef, undef, .bool false, .pointer (some ⟨w4.heap.size, 0, none⟩), .agg #[.string op, .string tag, .slice b k.length c], .int .i64 q, .bool false, .bool false, .slice a n cap, .int .i64 n, .bool false, .bool false, .bool false, .agg #[.string op, .string tag, .slice b k.length c], .bool false, .bool false, undef, undef, undef, undef, undef, undef, undef, undef, undef, undef, undef, .agg #[.string op, .string tag, .slice b k.length c], .agg #[.string op, .string tag, .slice b4 k.length c4], .agg #[.string op, .string tag, .slice b4 k.length c4], .slice a n cap, .bool true, .bool false, .bool false, .agg #[.string op, .string tag, .slice b4 k.length c4], .slice (some ⟨V11.heap.size, 0, none⟩) 0 0, .slice a n cap, .slice a1 n c1, .string s, .slice (some ⟨g43, 0, none⟩) 1 1, .slice a2 (n + 1) c2, .bool true, undef, undef, undef, undef], []⟩ _
          have HB16 := Lib.hid (HB15.out.trans (hb.mono HB15.out.size))
          clear hb
          refine wpAny_take (i := 13) (v := .bool true) rfl (by kernel_rfl) (by kernel_rfl) (by kernel_rfl) (fun _ _ _ h => h) (Or.inl ⟨by rfl, ?_⟩) ?_
          · intro w
            go_simp
            try with_reducible rfl
          change wpAny _ _ _ _ _ #[true, true, true, true, true, true, true, true, true, true, true, true, true, true, false, false, false, false] ⟨#[.agg #[.string op, .string tag, .slice b k.length c], .slice a n cap, .string s, .pointer (some ⟨w.heap.size, 0, none⟩), undef, undef, .bool false, .pointer (some ⟨w4.heap.size, 0, none⟩), .agg #[.string op, .string tag, .slice b k.length c], .int .i64 q, .bool false, .bool false, .slice a n cap, .int .i64 n, .bool false, .bool false, .bool false, .agg #[.string op, .string tag, .slice b k.length c], .bool false, .bool false, undef, undef, undef, undef, undef, undef, undef, undef, undef, undef, undef, .agg #[.string op, .string tag, .slice b k.length c], .agg #[.string op, .string tag, .slice b4 k.length c4], .agg #[.string op, .string tag, .slice b4 k.length c4], .slice a n cap, .bool true, .bool false, .bool false, .agg #[.string op, .string tag, .slice b4 k.length c4], .slice (some ⟨V11.heap.size, 0, none⟩) 0 0, .slice a n cap, .slice a1 n c1, .string s, .slice (some ⟨g43, 0, none⟩) 1 1, .slice a2 (n + 1) c2, .bool true, .bool true, undef, undef, undef], []⟩ _
          refine wpAny_take (i := 14) (v := .bool true) rfl (by kernel_rfl) (by kernel_rfl) (by kernel_rfl) (fun _ _ _ h => h) (Or.inl ⟨by rfl, ?_⟩) ?_
          · intro w
            go_simp
            try with_reducible rfl
          change wpAny _ _ _ _ _ #[true, true, true, true, true, true, true, true, true, true, true, true, true, true, true, false, false, false] ⟨#[.agg #[.string op, .string tag, .slice b k.length c], .slice a n cap, .string s, .pointer (some ⟨w.heap.size, 0, none⟩), undef, undef, .bool false, .pointer (some ⟨w4.heap.size, 0, none⟩), .agg #[.string op, .string tag, .slice b k.length c], .int .i64 q, .bool false, .bool false, .slice a n cap, .int .i64 n, .bool false, .bool false, .bool false, .agg #[.string op, .string tag, .slice b k.length c], .bool false, .bool false, undef, undef, undef, undef, undef, undef, undef, undef, undef, undef, undef, .agg #[.string op, .string tag, .slice b k.length c], .agg #[.string op, .string tag, .slice b4 k.length c4], .agg #[.string op, .string tag, .slice b4 k.length c4], .slice a n cap, .bool true, .bool false, .bool false, .agg #[.string op, .string tag, .slice b4 k.length c4], .slice (some ⟨V11.heap.size, 0, none⟩) 0 0, .slice a n cap, .slice a1 n c1, .string s, .slice (some ⟨g43, 0, none⟩) 1 1, .slice a2 (n + 1) c2, .bool true, .bool true, .bool true, undef, undef], []⟩ _
          refine wpAny_ready (rs := [15]) (by kernel_rfl) (by simp) ?_
          refine AllReady.cons rfl (fun K hK => ?_) (AllReady.nil)
          go_simp
          go_at_call 17
          refine (awake_any _).mono ?_
          rintro e V17 ⟨rfl, hb⟩
          refine hK _ _ ?_
          clear hK K
          change wpAny _ _ _ _ _ #[true, true, true, true, true, true, true, true, true, true, true, true, true, true, true, true, false, false] ⟨#[.agg #[.string op, .string tag, .slice b k.length c], .slice a n cap, .string s, .pointer (some ⟨w.heap.size, 0, none⟩), undef, undef, .bool false, .pointer (some ⟨w4.heap.size, 0, none⟩), .agg #[.string op, .string tag, .slice b k.length c], .int .i64 q, .bool false, .bool false, .slice a n cap, .int .i64 n, .bool false, .bool false, .bool false, .agg #[.string op, .string tag, .slice b k.length c], .bool false, .bool false, undef, undef, undef, undef, undef, undef, undef, undef, undef, undef, undef, .agg #[.string op, .string tag, .slice b k.length c], .agg #[.string op, .string tag, .slice b4 k.length c4], .agg #[.string op, .string tag, .slice b4 k.length c4], .slice a n cap, .bool true, .bool false, .bool false, .agg #[.string op, .string tag, .slice b4 k.length c4], .slice (some ⟨V11.heap.size, 0, none⟩) 0 0, .slice a n cap, .slice a1 n c1, .string s, .slice (some ⟨g43, 0, none⟩) 1 1, .slice a2 (n + 1) c2, .bool true, .bool true, .bool true, .bool true, undef], []⟩ _
          have HB17 := Lib.hid (HB16.out.trans (hb.mono HB16.out.size))
          clear hb
          refine wpAny_take (i := 16) (v := .bool true) rfl (by kernel_rfl) (by kernel_rfl) (by kernel_rfl) (fun _ _ _ h => h) (Or.inl ⟨by rfl, ?_⟩) ?_
          · intro w
            go_simp
            try with_reducible rfl
          change wpAny _ _ _ _ _ #[true, true, true, true, true, true, true, true, true, true, true, true, true, true, true, true, true, false] ⟨#[.agg #[.string op, .string tag, .slice b k.length c], .slice a n cap, .string s, .pointer (some ⟨w.heap.size, 0, none⟩), undef, undef, .bool false, .pointer (some ⟨w4.heap.size, 0, none⟩), .agg #[.string op, .string tag, .slice b k.length c], .int .i64 q, .bool false, .bool false, .slice a n cap, .int .i64 n, .bool false, .bool false, .bool false, .agg #[.string op, .string tag, .slice b k.length c], .bool false, .bool false, undef, undef, undef, undef, undef, undef, undef, undef, undef, undef, undef, .agg #[.string op, .string tag, .slice b k.length c], .agg #[.string op, .string tag, .slice b4 k.length c4], .agg #[.string op, .string tag, .slice b4 k.length c4], .slice a n cap, .bool true, .bool false, .bool false, .agg #[.string op, .string tag, .slice b4 k.length c4], .slice (some ⟨V11.heap.size, 0, none⟩) 0 0, .slice a n cap, .slice a1 n c1, .string s, .slice (some ⟨g43, 0, none⟩) 1 1, .slice a2 (n + 1) c2, .bool true, .bool true, .bool true, .bool true, .bool true], []⟩ _
          refine wpAny_take (i := 17) (v := .bool true) rfl (by kernel_rfl) (by kernel_rfl) (by kernel_rfl) (fun _ _ _ h => h) (Or.inl ⟨by rfl, ?_⟩) ?_
          · intro w
            go_simp
            try with_reducible rfl
          change wpAny _ _ _ _ _ #[true, true, true, true, true, true, true, true, true, true, true, true, true, true, true, true, true, true] ⟨#[.agg #[.string op, .string tag, .slice b k.length c], .slice a n cap, .string s, .pointer (some ⟨w.heap.size, 0, none⟩), undef, undef, .bool true, .pointer (some ⟨w4.heap.size, 0, none⟩), .agg #[.string op, .string tag, .slice b k.length c], .int .i64 q, .bool false, .bool false, .slice a n cap, .int .i64 n, .bool false, .bool false, .bool false, .agg #[.string op, .string tag, .slice b k.length c], .bool false, .bool false, undef, undef, undef, undef, undef, undef, undef, undef, undef, undef, undef, .agg #[.string op, .string tag, .slice b k.length c], .agg #[.string op, .string tag, .slice b4 k.length c4], .agg #[.string op, .string tag, .slice b4 k.length c4], .slice a n cap, .bool true, .bool false, .bool false, .agg #[.string op, .string tag, .slice b4 k.length c4], .slice (some ⟨V11.heap.size, 0, none⟩) 0 0, .slice a n cap, .slice a1 n c1, .string s, .slice (some ⟨g43, 0, none⟩) 1 1, .slice a2 (n + 1) c2, .bool true, .bool true, .bool true, .bool true, .bool true], []⟩ _
          refine wpAny_done (by kernel_rfl) ?_ _
          go_wp2
          go_ret
          exact ⟨rfl, HB5W.out.trans (HB17.out.mono HB5W.out.size)⟩
      ·
        refine step_app_first (by rfl) _ _ rfl W.heap.size _ rfl HO0.out a n cap rfl zs (HZW.out _ HB12.out) HC.out (by have := HN2.out; omega) HB12.out.size ?_
        intro a1 c1 V13 hrow hg
        refine hK _ _ ?_
        clear hK K
        change wpAny _ _ _ _ _ #[true, true, true, true, true, false, true, true, true, true, false, false, false, false, false, false, false, false] ⟨#[.agg #[.string op, .string tag, .slice b k.length c], .slice a n cap, .string s, .pointer (some ⟨w.heap.size, 0, none⟩), undef, undef, .bool false, .pointer (some ⟨w4.heap.size, 0, none⟩), .agg #[.string op, .string tag, .slice b k.length c], .int .i64 q, .bool false, .bool false, .slice a n cap, .int .i64 n, .bool false, .bool false, .bool false, .agg #[.string op, .string tag, .slice b k.length c], .bool false, .bool false, undef, undef, undef, undef, undef, undef, undef, undef, undef, undef, undef, .agg #[.string op, .string tag, .slice b k.length c], .agg #[.string op, .string tag, .slice b4 k.length c4], .agg #[.string op, .string tag, .slice b4 k.length c4], .slice a n cap, .bool true, .bool false, .bool false, undef, .slice (some ⟨V11.heap.size, 0, none⟩) 0 0, .slice a n cap, .slice a1 n c1, .string s, undef, undef, undef, undef, undef, undef, undef], []⟩ _
        have HB13 := Lib.hid (below_grown HB12.out HO0.out hg)
        have HO1 := Lib.hid hrow
        clear hrow hg HO0
        have hq13 := (HB13.out.block _ (lt_of_block HQ5.out)).trans HQ5.out
        clear x0 x1 x2
        obtain ⟨⟨x0, x1, x2⟩, -⟩ := three_cells hq13
        refine wpAny_ready (rs := [5, 10]) (by kernel_rfl) (by simp) ?_
        refine AllReady.cons rfl (fun K hK => ?_) (AllReady.cons rfl (fun K hK => ?_) (AllReady.nil))
        ·
          go_simp
          refine hK _ _ ?_
          clear hK K
          change wpAny _ _ _ _ _ #[true, true, true, true, true, true, true, true, true, true, false, false, false, false, false, false, false, false] ⟨#[.agg #[.string op, .string tag, .slice b k.length c], .slice a n cap, .string s, .pointer (some ⟨w.heap.size, 0, none⟩), undef, undef, .bool false, .pointer (some ⟨w4.heap.size, 0, none⟩), .agg #[.string op, .string tag, .slice b k.length c], .int .i64 q, .bool false, .bool false, .slice a n cap, .int .i64 n, .bool false, .bool false, .bool false, .agg #[.string op, .string tag, .slice b k.length c], .bool false, .bool false, undef, undef, undef, undef, undef, undef, undef, undef, undef, undef, undef, .agg #[.string op, .string tag, .slice b k.length c], .agg #[.string op, .string tag, .slice b4 k.length c4], .agg #[.string op, .string tag, .slice b4 k.length c4], .slice a n cap, .bool true, .bool false, .bool false, .agg #[.string op, .string tag, .slice b4 k.length c4], .slice (some ⟨V11.heap.size, 0, none⟩) 0 0, .slice a n cap, .slice a1 n c1, .string s, undef, undef, undef, undef, undef, undef, undef], []⟩ _
          refine wpAny_ready (rs := [10]) (by kernel_rfl) (by simp) ?_
          refine AllReady.cons rfl (fun K hK => ?_) (AllReady.nil)
          go_simp
          refine hK _ _ ?_
          clear hK K
          change wpAny _ _ _ _ _ #[true, true, true, true, true, true, true, true, true, true, true, false, false, false, false, false, false, false] ⟨#[.agg #[.string op, .string tag, .slice b k.length c], .slice a n cap, .string s, .pointer (some ⟨w.heap.size, 0, none⟩), undef, undef, .bool false, .pointer (some ⟨w4.heap.size, 0, none⟩), .agg #[.string op, .string tag, .slice b k.length c], .int .i64 q, .bool false, .bool false, .slice a n cap, .int .i64 n, .bool false, .bool false, .bool false, .agg #[.string op, .string tag, .slice b k.length c], .bool false, .bool false, undef, undef, undef, undef, undef, undef, undef, undef, undef, undef, undef, .agg #[.string op, .string tag, .slice b k.length c], .agg #[.string op, .string tag, .slice b4 k.length c4], .agg #[.string op, .string tag, .slice b4 k.length c4], .slice a n cap, .bool true, .bool false, .bool false, .agg #[.string op, .string tag, .slice b4 k.length c4], .slice (some ⟨V11.heap.size, 0, none⟩) 0 0, .slice a n cap, .slice a1 n c1, .string s, .slice (some ⟨V13.heap.size, 0, none⟩) 1 1, undef, undef, undef, undef, undef, undef], []⟩ _
          have HR43 := Lib.hid (row_one V13 s)
          have HB14 := Lib.hid (HB13.out.alloc HB13.out.size (.cells #[.string s] 9))
          replace HO1 := Lib.hid (own_alloc HO1.out (.cells #[.string s] 9))
          generalize V13.alloc (.cells #[.string s] 9) = V14 at *
          have hq14 := (HB14.out.block _ (lt_of_block HQ5.out)).trans HQ5.out
          clear x0 x1 x2
          obtain ⟨⟨x0, x1, x2⟩, -⟩ := three_cells hq14
          refine wpAny_ready (rs := [11]) (by kernel_rfl) (by simp) ?_
          refine AllReady.cons rfl (fun K hK => ?_) (AllReady.nil)
          refine step_app_row (by rfl) _ _ rfl W.heap.size _ n (strV zs) rfl HO1.out _ 1 1 rfl [s] HR43.out (fun e => by cases e) (by have := HN2.out; omega) HB14.out.size ?_
          intro a2 c2 V15 hrow hg
          refine hK _ _ ?_
          clear hK K
          change wpAny _ _ _ _ _ #[true, true, true, true, true, true, true, true, true, true, true, true, false, false, false, false, false, false] ⟨#[.agg #[.string op, .string tag, .slice b k.length c], .slice a n cap, .string s, .pointer (some ⟨w.heap.size, 0, none⟩), undef, undef, .bool false, .pointer (some ⟨w4.heap.size, 0, none⟩), .agg #[.string op, .string tag, .slice b k.length c], .int .i64 q, .bool false, .bool false, .slice a n cap, .int .i64 n, .bool false, .bool false, .bool false, .agg #[.string op, .string tag, .slice b k.length c], .bool false, .bool false, undef, undef, undef, undef, undef, undef, undef, undef, undef, undef, undef, .agg #[.string op, .string tag, .slice b k.length c], .agg #[.string op, .string tag, .slice b4 k.length c4], .agg #[.string op, .string tag, .slice b4 k.length c4], .slice a n cap, .bool true, .bool false, .bool false, .agg #[.string op, .string tag, .slice b4 k.length c4], .slice (some ⟨V11.heap.size, 0, none⟩) 0 0, .slice a n cap, .slice a1 n c1, .string s, .slice (some ⟨V13.heap.size, 0, none⟩) 1 1, .slice a2 (n + 1) c2, undef, undef, undef, undef, undef], []⟩ _
          have HB15 := Lib.hid (below_grown HB14.out HO1.out hg)
          have HR44 := Lib.hid (own_row2 (HZW.out _ HB15.out).1 hrow)
          clear hrow hg HO1
          have hq15 := (HB15.out.block _ (lt_of_block HQ5.out)).trans HQ5.out
          clear x0 x1 x2
          obtain ⟨⟨x0, x1, x2⟩, -⟩ := three_cells hq15
          refine wpAny_ready (rs := [12]) (by kernel_rfl) (by simp) ?_
          refine AllReady.cons rfl (fun K hK => ?_) (AllReady.nil)
          go_simp
          go_at_call 14
          refine (CH2.out _ HB15.out _ _ HR44.out).mono ?_
          rintro e V16 ⟨rfl, hb⟩
          refine hK _ _ ?_
          clear hK K
          change wpAny _ _ _ _ _ #[true, true, true, true, true, true, true, true, true, true, true, true, true, false, false, false, false, false] ⟨#[.agg #[.string op, .string tag, .slice b k.length c], .slice a n cap, .string s, .pointer (some ⟨w.heap.size, 0, none⟩), undef, undef, .bool false, .pointer (some ⟨w4.heap.size, 0, none⟩), .agg #[.string op, .string tag, .slice b k.length c], .int .i64 q, .bool false, .bool false, .slice a n cap, .int .i64 n, .bool false, .bool false, .bool false, .agg #[.string op, .string tag, .slice b k.length c], .bool false, .bool false, undef, undef, undef, undef, undef, undef, undef, undef, undef, undef, undef, .agg #[.string op, .string tag, .slice b k.length c], .agg #[.string op, .string tag, .slice b4 k.length c4], .agg #[.string op, .string tag, .slice b4 k.length c4], .slice a n cap, .bool true, .bool false, .bool false, .agg #[.string op, .string tag, .slice b4 k.length c4], .slice (some ⟨V11.heap.size, 0, none⟩) 0 0, .slice a n cap, .slice a1 n c1, .string s, .slice (some ⟨V13.heap.size, 0, none⟩) 1 1, .slice a2 (n + 1) c2, .bool true, undef, undef, undef, undef], []⟩ _
          have HB16 := Lib.hid (HB15.out.trans (hb.mono HB15.out.size))
          clear hb
          refine wpAny_take (i := 13) (v := .bool true) rfl (by kernel_rfl) (by kernel_rfl) (by kernel_rfl) (fun _ _ _ h => h) (Or.inl ⟨by rfl, ?_⟩) ?_
          · intro w
            go_simp
            try with_reducible rfl
          change wpAny _ _ _ _ _ #[true, true, true, true, true, true, true, true, true, true, true, true, true, true, false, false, false, false] ⟨#[.agg #[.string op, .string tag, .slice b k.length c], .slice a n cap, .string s, .pointer (some ⟨w.heap.size, 0, none⟩), undef, undef, .bool false, .pointer (some ⟨w4.heap.size, 0, none⟩), .agg #[.string op, .string tag, .slice b k.length c], .int .i64 q, .bool false, .bool false, .slice a n cap, .int .i64 n, .bool false, .bool false, .bool false, .agg #[.string op, .string tag, .slice b k.length c], .bool false, .bool false, undef, undef, undef, undef, undef, undef, undef, undef, undef, undef, undef, .agg #[.string op, .string tag, .slice b k.length c], .agg #[.string op, .string tag, .slice b4 k.length c4], .agg #[.string op, .string tag, .slice b4 k.length c4], .slice a n cap, .bool true, .bool false, .bool false, .agg #[.string op, .string tag, .slice b4 k.length c4], .slice (some ⟨V11.heap.size, 0, none⟩) 0 0, .slice a n cap, .slice a1 n c1, .string s, .slice (some ⟨V13.heap.size, 0, none⟩) 1 1, .slice a2 (n + 1) c2, .bool true, .bool true, undef, undef, undef], []⟩ _
          refine wpAny_take (i := 14) (v := .bool true) rfl (by kernel_rfl) (by kernel_rfl) (by kernel_rfl) (fun _ _ _ h => h) (Or.inl ⟨by rfl, ?_⟩) ?_
          · intro w
            go_simp
            try with_reducible rfl
          change wpAny _ _ _ _ _ #[true, true, true, true, true, true, true, true, true, true, true, true, true, true, true, false, false, false] ⟨#[.agg #[.string op, .string tag, .slice b k.length c], .slice a n cap, .string s, .pointer (some ⟨w.heap.size, 0, none⟩), undef, undef, .bool false, .pointer (some ⟨w4.heap.size, 0, none⟩), .agg #[.string op, .string tag, .slice b k.length c], .int .i64 q, .bool false, .bool false, .slice a n cap, .int .i64 n, .bool false, .bool false, .bool false, .agg #[.string op, .string tag, .slice b k.length c], .bool false, .bool false, undef, undef, undef, undef, undef, undef, undef, undef, undef, undef, undef, .agg #[.string op, .string tag, .slice b k.length c], .agg #[.string op, .string tag, .slice b4 k.length c4], .agg #[.string op, .string tag, .slice b4 k.length c4], .slice a n cap, .bool true, .bool false, .bool false, .agg #[.string op, .string tag, .slice b4 k.length c4], .slice (some ⟨V11.heap.size, 0, none⟩) 0 0, .slice a n cap, .slice a1 n c1, .string s, .slice (some ⟨V13.heap.size, 0, none⟩) 1 1, .slice a2 (n + 1) c2, .bool true, .bool true, .bool true, undef, undef], []⟩ _
          refine wpAny_ready (rs := [15]) (by kernel_rfl) (by simp) ?_
          refine AllReady.cons rfl (fun K hK => ?_) (AllReady.nil)
          go_simp
          go_at_call 17
          refine (awake_any _).mono ?_
          rintro e V17 ⟨rfl, hb⟩
          refine hK _ _ ?_
          clear hK K
          change wpAny _ _ _ _ _ #[true, true, true, true, true, true, true, true, true, true, true, true, true, true, true, true, false, false] ⟨#[.agg #[.string op, .string tag, .slice b k.length c], .slice a n cap, .string s, .pointer (some ⟨w.heap.size, 0, none⟩), undef, undef, .bool false, .pointer (some ⟨w4.heap.size, 0, none⟩), .agg #[.string op, .string tag, .slice b k.length c], .int .i64 q, .bool false, .bool false, .slice a n cap, .int .i64 n, .bool false, .bool false, .bool false, .agg #[.string op, .string tag, .slice b k.length c], .bool false, .bool false, undef, undef, undef, undef, undef, undef, undef, undef, undef, undef, undef, .agg #[.string op, .string tag, .slice b k.length c], .agg #[.string op, .string tag, .slice b4 k.length c4], .agg #[.string op, .string tag, .slice b4 k.length c4], .slice a n cap, .bool true, .bool false, .bool false, .agg #[.string op, .string tag, .slice b4 k.length c4], .slice (some ⟨V11.heap.size, 0, none⟩) 0 0, .slice a n cap, .slice a1 n c1, .string s, .slice (some ⟨V13.heap.size, 0, none⟩) 1 1, .slice a2 (n + 1) c2, .bool true, .bool true, .bool true, .bool true, undef], []⟩ _
          have HB17 := Lib.hid (HB16.out.trans (hb.mono HB16.out.size))
          clear hb
          refine wpAny_take (i := 16) (v := .bool true) rfl (by kernel_rfl) (by kernel_rfl) (by kernel_rfl) (fun _ _ _ h => h) (Or.inl ⟨by rfl, ?_⟩) ?_
          · intro w
            go_simp
            try with_reducible rfl
          change wpAny _ _ _ _ _ #[true, true, true, true, true, true, true, true, true, true, true, true, true, true, true, true, true, false] ⟨#[.agg #[.string op, .string tag, .slice b k.length c], .slice a n cap, .string s, .pointer (some ⟨w.heap.size, 0, none⟩), undef, undef, .bool false, .pointer (some ⟨w4.heap.size, 0, none⟩), .agg #[.string op, .string tag, .slice b k.length c], .int .i64 q, .bool false, .bool false, .slice a n cap, .int .i64 n, .bool false, .bool false, .bool false, .agg #[.string op, .string tag, .slice b k.length c], .bool false, .bool false, undef, undef, undef, undef, undef, undef, undef, undef, undef, undef, undef, .agg #[.string op, .string tag, .slice b k.length c], .agg #[.string op, .string tag, .slice b4 k.length c4], .agg #[.string op, .string tag, .slice b4 k.length c4], .slice a n cap, .bool true, .bool false, .bool false, .agg #[.string op, .string tag, .slice b4 k.length c4], .slice (some ⟨V11.heap.size, 0, none⟩) 0 0, .slice a n cap, .slice a1 n c1, .string s, .slice (some ⟨V13.heap.size, 0, none⟩) 1 1, .slice a2 (n + 1) c2, .bool true, .bool true, .bool true, .bool true, .bool true], []⟩ _
          refine wpAny_take (i := 17) (v := .bool true) rfl (by kernel_rfl) (by kernel_rfl) (by kernel_rfl) (fun _ _ _ h => h) (Or.inl ⟨by rfl, ?_⟩) ?_
          · intro w
            go_simp
            try with_reducible rfl
          change wpAny _ _ _ _ _ #[true, true, true, true, true, true, true, true, true, true, true, true, true, true, true, true, true, true] ⟨#[.agg #[.string op, .string tag, .slice b k.length c], .slice a n cap, .string s, .pointer (some ⟨w.heap.size, 0, none⟩), undef, undef, .bool true, .pointer (some ⟨w4.heap.size, 0, none⟩), .agg #[.string op, .string tag, .slice b k.length c], .int .i64 q, .bool false, .bool false, .slice a n cap, .int .i64 n, .bool false, .bool false, .bool false, .agg #[.string op, .string tag, .slice b k.length c], .bool false, .bool false, undef, undef, undef, undef, undef, undef, undef, undef, undef, undef, undef, .agg #[.string op, .string tag, .slice b k.length c], .agg #[.string op, .string tag, .slice b4 k.length c4], .agg #[.string op, .string tag, .slice b4 k.length c4], .slice a n cap, .bool true, .bool false, .bool false, .agg #[.string op, .string tag, .slice b4 k.length c4], .slice (some ⟨V11.heap.size, 0, none⟩) 0 0, .slice a n cap, .slice a1 n c1, .string s, .slice (some ⟨V13.heap.size, 0, none⟩) 1 1, .slice a2 (n + 1) c2, .bool true, .bool true, .bool true, .bool true, .bool true], []⟩ _
          refine wpAny_done (by kernel_rfl) ?_ _
          go_wp2
          go_ret
          exact ⟨rfl, HB5W.out.trans (HB17.out.mono HB5W.out.size)⟩
        ·
          go_simp
          refine hK _ _ ?_
          clear hK K
          change wpAny _ _ _ _ _ #[true, true, true, true, true, false, true, true, true, true, true, false, false, false, false, false, false, false] ⟨#[.agg #[.string op, .string tag, .slice b k.length c], .slice a n cap, .string s, .pointer (some ⟨w.heap.size, 0, none⟩), undef, undef, .bool false, .pointer (some ⟨w4.heap.size, 0, none⟩), .agg #[.string op, .string tag, .slice b k.length c], .int .i64 q, .bool false, .bool false, .slice a n cap, .int .i64 n, .bool false, .bool false, .bool false, .agg #[.string op, .string tag, .slice b k.length c], .bool false, .bool false, undef, undef, undef, undef, undef, undef, undef, undef, undef, undef, undef, .agg #[.string op, .string tag, .slice b k.length c], .agg #[.string op, .string tag, .slice b4 k.length c4], .agg #[.string op, .string tag, .slice b4 k.length c4], .slice a n cap, .bool true, .bool false, .bool false, undef, .slice (some ⟨V11.heap.size, 0, none⟩) 0 0, .slice a n cap, .slice a1 n c1, .string s, .slice (some ⟨V13.heap.size, 0, none⟩) 1 1, undef, undef, undef, undef, undef, undef], []⟩ _
          have HR43 := Lib.hid (row_one V13 s)
          have HB14 := Lib.hid (HB13.out.alloc HB13.out.size (.cells #[.string s] 9))
          replace HO1 := Lib.hid (own_alloc HO1.out (.cells #[.string s] 9))
          generalize V13.alloc (.cells #[.string s] 9) = V14 at *
          have hq14 := (HB14.out.block _ (lt_of_block HQ5.out)).trans HQ5.out
          clear x0 x1 x2
          obtain ⟨⟨x0, x1, x2⟩, -⟩ := three_cells hq14
          refine wpAny_ready (rs := [5, 11]) (by kernel_rfl) (by simp) ?_
          refine AllReady.cons rfl (fun K hK => ?_) (AllReady.cons rfl (fun K hK => ?_) (AllReady.nil))
          ·
            go_simp
            refine hK _ _ ?_
            clear hK K
            change wpAny _ _ _ _ _ #[true, true, true, true, true, true, true, true, true, true, true, false, false, false, false, false, false, false] ⟨#[.agg #[.string op, .string tag, .slice b k.length c], .slice a n cap, .string s, .pointer (some ⟨w.heap.size, 0, none⟩), undef, undef, .bool false, .pointer (some ⟨w4.heap.size, 0, none⟩), .agg #[.string op, .string tag, .slice b k.length c], .int .i64 q, .bool false, .bool false, .slice a n cap, .int .i64 n, .bool false, .bool false, .bool false, .agg #[.string op, .string tag, .slice b k.length c], .bool false, .bool false, undef, undef, undef, undef, undef, undef, undef, undef, undef, undef, undef, .agg #[.string op, .string tag, .slice b k.length c], .agg #[.string op, .string tag, .slice b4 k.length c4], .agg #[.string op, .string tag, .slice b4 k.length c4], .slice a n cap, .bool true, .bool false, .bool false, .agg #[.string op, .string tag, .slice b4 k.length c4], .slice (some ⟨V11.heap.size, 0, none⟩) 0 0, .slice a n cap, .slice a1 n c1, .string s, .slice (some ⟨V13.heap.size, 0, none⟩) 1 1, undef, undef, undef, undef, undef, undef], []⟩ _
            refine wpAny_ready (rs := [11]) (by kernel_rfl) (by simp) ?_
            refine AllReady.cons rfl (fun K hK => ?_) (AllReady.nil)
            refine step_app_row (by rfl) _ _ rfl W.heap.size _ n (strV zs) rfl HO1.out _ 1 1 rfl [s] HR43.out (fun e => by cases e) (by have := HN2.out; omega) HB14.out.size ?_
            intro a2 c2 V15 hrow hg
            refine hK _ _ ?_
            clear hK K
            change wpAny _ _ _ _ _ #[true, true, true, true, true, true, true, true, true, true, true, true, false, false, false, false, false, false] ⟨#[.agg #[.string op, .string tag, .slice b k.length c], .slice a n cap, .string s, .pointer (some ⟨w.heap.size, 0, none⟩), undef, undef, .bool false, .pointer (some ⟨w4.heap.size, 0, none⟩), .agg #[.string op, .string tag, .slice b k.length c], .int .i64 q, .bool false, .bool false, .slice a n cap, .int .i64 n, .bool false, .bool false, .bool false, .agg #[.string op, .string tag, .slice b k.length c], .bool false, .bool false, undef, undef, undef, undef, undef, undef, undef, undef, undef, undef, undef, .agg #[.string op, .string tag, .slice b k.length c], .agg #[.string op, .string tag, .slice b4 k.length c4], .agg #[.string op, .string tag, .slice b4 k.length c4], .slice a n cap, .bool true, .bool false, .bool false, .agg #[.string op, .string tag, .slice b4 k.length c4], .slice (some ⟨V11.heap.size, 0, none⟩) 0 0, .slice a n cap, .slice a1 n c1, .string s, .slice (some ⟨V13.heap.size, 0, none⟩) 1 1, .slice a2 (n + 1) c2, undef, undef, undef, undef, undef], []⟩ _
            have HB15 := Lib.hid (below_grown HB14.out HO1.out hg)
            have HR44 := Lib.hid (own_row2 (HZW.out _ HB15.out).1 hrow)
            clear hrow hg HO1
            have hq15 := (HB15.out.block _ (lt_of_block HQ5.out)).trans HQ5.out
            clear x0 x1 x2
            obtain ⟨⟨x0, x1, x2⟩, -⟩ := three_cells hq15
            refine wpAny_ready (rs := [12]) (by kernel_rfl) (by simp) ?_
            refine AllReady.cons rfl (fun K hK => ?_) (AllReady.nil)
            go_simp
            go_at_call 14
            refine (CH2.out _ HB15.out _ _ HR44.out).mono ?_
            rintro e V16 ⟨rfl, hb⟩
            refine hK _ _ ?_
            clear hK K
            change wpAny _ _ _ _ _ #[true, true, true, true, true, true, true, true, true, true, true, true, true, false, false, false, false, false] ⟨#[.agg #[.string op, .string tag, .slice b k.length c], .slice a n cap, .string s, .pointer (some ⟨w.heap.size, 0, none⟩), undef, undef, .bool false, .pointer (some ⟨w4.heap.size, 0, none⟩), .agg #[.string op, .string tag, .slice b k.length c], .int .i64 q, .bool false, .bool false, .slice a n cap, .int .i64 n, .bool false, .bool false, .bool false, .agg #[.string op, .string tag, .slice b k.length c], .bool false, .bool false, undef, undef, undef, undef, undef, undef, undef, undef, undef, undef, undef, .agg #[.string op, .string tag, .slice b k.length c], .agg #[.string op, .string tag, .slice b4 k.length c4], .agg #[.string op, .string tag, .slice b4 k.length c4], .slice a n cap, .bool true, .bool false, .bool false, .agg #[.string op, .string tag, .slice b4 k.length c4], .slice (some ⟨V11.heap.size, 0, none⟩) 0 0, .slice a n cap, .slice a1 n c1, .string s, .slice (some ⟨V13.heap.size, 0, none⟩) 1 1, .slice a2 (n + 1) c2, .bool true, undef, undef, undef, undef], []⟩ _
            have HB16 := Lib.hid (HB15.out.trans (hb.mono HB15.out.size))
            clear hb
            refine wpAny_take (i := 13) (v := .bool true) rfl (by kernel_rfl) (by kernel_rfl) (by kernel_rfl) (fun _ _ _ h => h) (Or.inl ⟨by rfl, ?_⟩) ?_
            · intro w
              go_simp
              try with_reducible rfl
            change wpAny _ _ _ _ _ #[true, true, true, true, true, true, true, true, true, true, true, true, true, true, false, false, false, false] ⟨#[.agg #[.string op, .string tag, .slice b k.length c], .slice a n cap, .string s, .pointer (some ⟨w.heap.size, 0, none⟩), undef, undef, .bool false, .pointer (some ⟨w4.heap.size, 0, none⟩), .agg #[.string op, .string tag, .slice b k.length c], .int .i64 q, .bool false, .bool false, .slice a n cap, .int .i64 n, .bool false, .bool false, .bool false, .agg #[.string op, .string tag, .slice b k.length c], .bool false, .bool false, undef, undef, undef, undef, undef, undef, undef, undef, undef, undef, undef, .agg #[.string op, .string tag, .slice b k.length c], .agg #[.string op, .string tag, .slice b4 k.length c4], .agg #[.string op, .string tag, .slice b4 k.length c4], .slice a n cap, .bool true, .bool false, .bool false, .agg #[.string op, .string tag, .slice b4 k.length c4], .slice (some ⟨V11.heap.size, 0, none⟩) 0 0, .slice a n cap, .slice a1 n c1, .string s, .slice (some ⟨V13.heap.size, 0, none⟩) 1 1, .slice a2 (n + 1) c2, .bool true, .bool true, undef, undef, undef], []⟩ _
            refine wpAny_take (i := 14) (v := .bool true) rfl (by kernel_rfl) (by kernel_rfl) (by kernel_rfl) (fun _ _ _ h => h) (Or.inl ⟨by rfl, ?_⟩) ?_
            · intro w
              go_simp
              try with_reducible rfl
            change wpAny _ _ _ _ _ #[true, true, true, true, true, true, true, true, true, true, true, true, true, true, true, false, false, false] ⟨#[.agg #[.string op, .string tag, .slice b k.length c], .slice a n cap, .string s, .pointer (some ⟨w.heap.size, 0, none⟩), undef, undef, .bool false, .pointer (some ⟨w4.heap.size, 0, none⟩), .agg #[.string op, .string tag, .slice b k.length c], .int .i64 q, .bool false, .bool false, .slice a n cap, .int .i64 n, .bool false, .bool false, .bool false, .agg #[.string op, .string tag, .slice b k.length c], .bool false, .bool false, undef, undef, undef, undef, undef, undef, undef, undef, undef, undef, undef, .agg #[.string op, .string tag, .slice b k.length c], .agg #[.string op, .string tag, .slice b4 k.length c4], .agg #[.string op, .string tag, .slice b4 k.length c4], .slice a n cap, .bool true, .bool false, .bool false, .agg #[.string op, .string tag, .slice b4 k.length c4], .slice (some ⟨V11.heap.size, 0, none⟩) 0 0, .slice a n cap, .slice a1 n c1, .string s, .slice (some ⟨V13.heap.size, 0, none⟩) 1 1, .slice a2 (n + 1) c2, .bool true, .bool true, .bool true, undef, undef], []⟩ _
            refine wpAny_ready (rs := [15]) (by kernel_rfl) (by simp) ?_
            refine AllReady.cons rfl (fun K hK => ?_) (AllReady.nil)
            go_simp
            go_at_call 17
            refine (awake_any _).mono ?_
            rintro e V17 ⟨rfl, hb⟩
            refine hK _ _ ?_
            clear hK K
            change wpAny _ _ _ _ _ #[true, true, true, true, true, true, true, true, true, true, true, true, true, true, true, true, false, false] ⟨#[.agg #[.string op, .string tag, .slice b k.length c], .slice a n cap, .string s, .pointer (some ⟨w.heap.size, 0, none⟩), undef, undef, .bool false, .pointer (some ⟨w4.heap.size, 0, none⟩), .agg #[.string op, .string tag, .slice b k.length c], .int .i64 q, .bool false, .bool false, .slice a n cap, .int .i64 n, .bool false, .bool false, .bool false, .agg #[.string op, .string tag, .slice b k.length c], .bool false, .bool false, undef, undef, undef, undef, undef, undef, undef, undef, undef, undef, undef, .agg #[.string op, .string tag, .slice b k.length c], .agg #[.string op, .string tag, .slice b4 k.length c4], .agg #[.string op, .string tag, .slice b4 k.length c4], .slice a n cap, .bool true, .bool false, .bool false, .agg #[.string op, .string tag, .slice b4 k.length c4], .slice (some ⟨V11.heap.size, 0, none⟩) 0 0, .slice a n cap, .slice a1 n c1, .string s, .slice (some ⟨V13.heap.size, 0, none⟩) 1 1, .slice a2 (n + 1) c2, .bool true, .bool true, .bool true, .bool true, undef], []⟩ _
            have HB17 := Lib.hid (HB16.out.trans (hb.mono HB16.out.size))
            clear hb
            refine wpAny_take (i := 16) (v := .bool true) rfl (by kernel_rfl) (by kernel_rfl) (by kernel_rfl) (fun _ _ _ h => h) (Or.inl ⟨by rfl, ?_⟩) ?_
            · intro w
              go_simp
              try with_reducible rfl
            change wpAny _ _ _ _ _ #[true, true, true, true, true, true, true, true, true, true, true, true, true, true, true, true, true, false] ⟨#[.agg #[.string op, .string tag, .slice b k.length c], .slice a n cap, .string s, .pointer (some ⟨w.heap.size, 0, none⟩), undef, undef, .bool false, .pointer (some ⟨w4.heap.size, 0, none⟩), .agg #[.string op, .string tag, .slice b k.length c], .int .i64 q, .bool false, .bool false, .slice a n cap, .int .i64 n, .bool false, .bool false, .bool false, .agg #[.string op, .string tag, .slice b k.length c], .bool false, .bool false, undef, undef, undef, undef, undef, undef, undef, undef, undef, undef, undef, .agg #[.string op, .string tag, .slice b k.length c], .agg #[.string op, .string tag, .slice b4 k.length c4], .agg #[.string op, .string tag, .slice b4 k.length c4], .slice a n cap, .bool true, .bool false, .bool false, .agg #[.string op, .string tag, .slice b4 k.length c4], .slice (some ⟨V11.heap.size, 0, none⟩) 0 0, .slice a n cap, .slice a1 n c1, .string s, .slice (some ⟨V13.heap.size, 0, none⟩) 1 1, .slice a2 (n + 1) c2, .bool true, .bool true, .bool true, .bool true, .bool true], []⟩ _
            refine wpAny_take (i := 17) (v := .bool true) rfl (by kernel_rfl) (by kernel_rfl) (by kernel_rfl) (fun _ _ _ h => h) (Or.inl ⟨by rfl, ?_⟩) ?_
            · intro w
              go_simp
              try with_reducible rfl
            change wpAny _ _ _ _ _ #[true, true, true, true, true, true, true, true, true, true, true, true, true, true, true, true, true, true] ⟨#[.agg #[.string op, .string tag, .slice b k.length c], .slice a n cap, .string s, .pointer (some ⟨w.heap.size, 0, none⟩), undef, undef, .bool true, .pointer (some ⟨w4.heap.size, 0, none⟩), .agg #[.string op, .string tag, .slice b k.length c], .int .i64 q, .bool false, .bool false, .slice a n cap, .int .i64 n, .bool false, .bool false, .bool false, .agg #[.string op, .string tag, .slice b k.length c], .bool false, .bool false, undef, undef, undef, undef, undef, undef, undef, undef, undef, undef, undef, .agg #[.string op, .string tag, .slice b k.length c], .agg #[.string op, .string tag, .slice b4 k.length c4], .agg #[.string op, .string tag, .slice b4 k.length c4], .slice a n cap, .bool true, .bool false, .bool false, .agg #[.string op, .string tag, .slice b4 k.length c4], .slice (some ⟨V11.heap.size, 0, none⟩) 0 0, .slice a n cap, .slice a1 n c1, .string s, .slice (some ⟨V13.heap.size, 0, none⟩) 1 1, .slice a2 (n + 1) c2, .bool true, .bool true, .bool true, .bool true, .bool true], []⟩ _
            refine wpAny_done (by kernel_rfl) ?_ _
            go_wp2
            go_ret
            exact ⟨rfl, HB5W.out.trans (HB17.out.mono HB5W.out.size)⟩
          ·
            refine step_app_row (by rfl) _ _ rfl W.heap.size _ n (strV zs) rfl HO1.out _ 1 1 rfl [s] HR43.out (fun e => by cases e) (by have := HN2.out; omega) HB14.out.size ?_
            intro a2 c2 V15 hrow hg
            refine hK _ _ ?_
            clear hK K
            change wpAny _ _ _ _ _ #[true, true, true, true, true, false, true, true, true, true, true, true, false, false, false, false, false, false] ⟨#[.agg #[.string op, .string tag, .slice b k.length c], .slice a n cap, .string s, .pointer (some ⟨w.heap.size, 0, none⟩), undef, undef, .bool false, .pointer (some ⟨w4.heap.size, 0, none⟩), .agg #[.string op, .string tag, .slice b k.length c], .int .i64 q, .bool false, .bool false, .slice a n cap, .int .i64 n, .bool false, .bool false, .bool false, .agg #[.string op, .string tag, .slice b k.length c], .bool false, .bool false, undef, undef, undef, undef, undef, undef, undef, undef, undef, undef, undef, .agg #[.string op, .string tag, .slice b k.length c], .agg #[.string op, .string tag, .slice b4 k.length c4], .agg #[.string op, .string tag, .slice b4 k.length c4], .slice a n cap, .bool true, .bool false, .bool false, undef, .slice (some ⟨V11.heap.size, 0, none⟩) 0 0, .slice a n cap, .slice a1 n c1, .string s, .slice (some ⟨V13.heap.size, 0, none⟩) 1 1, .slice a2 (n + 1) c2, undef, undef, undef, undef, undef], []⟩ _
            have HB15 := Lib.hid (below_grown HB14.out HO1.out hg)
            have HR44 := Lib.hid (own_row2 (HZW.out _ HB15.out).1 hrow)
            clear hrow hg HO1
            have hq15 := (HB15.out.block _ (lt_of_block HQ5.out)).trans HQ5.out
            clear x0 x1 x2
            obtain ⟨⟨x0, x1, x2⟩, -⟩ := three_cells hq15
            refine wpAny_ready (rs := [5]) (by kernel_rfl) (by simp) ?_
            refine AllReady.cons rfl (fun K hK => ?_) (AllReady.nil)
            go_simp
            refine hK _ _ ?_
            clear hK K
            change wpAny _ _ _ _ _ #[true, true, true, true, true, true, true, true, true, true, true, true, false, false, false, false, false, false] ⟨#[.agg #[.string op, .string tag, .slice b k.length c], .slice a n cap, .string s, .pointer (some ⟨w.heap.size, 0, none⟩), undef, undef, .bool false, .pointer (some ⟨w4.heap.size, 0, none⟩), .agg #[.string op, .string tag, .slice b k.length c], .int .i64 q, .bool false, .bool false, .slice a n cap, .int .i64 n, .bool false, .bool false, .bool false, .agg #[.string op, .string tag, .slice b k.length c], .bool false, .bool false, undef, undef, undef, undef, undef, undef, undef, undef, undef, undef, undef, .agg #[.string op, .string tag, .slice b k.length c], .agg #[.string op, .string tag, .slice b4 k.length c4], .agg #[.string op, .string tag, .slice b4 k.length c4], .slice a n cap, .bool true, .bool false, .bool false, .agg #[.string op, .string tag, .slice b4 k.length c4], .slice (some ⟨V11.heap.size, 0, none⟩) 0 0, .slice a n cap, .slice a1 n c1, .string s, .slice (some ⟨V13.heap.size, 0, none⟩) 1 1, .slice a2 (n + 1) c2, undef, undef, undef, undef, undef], []⟩ _
            refine wpAny_ready (rs := [12]) (by kernel_rfl) (by simp) ?_
            refine AllReady.cons rfl (fun K hK => ?_) (AllReady.nil)
            go_simp
            go_at_call 14
            refine (CH2.out _ HB15.out _ _ HR44.out).mono ?_
            rintro e V16 ⟨rfl, hb⟩
            refine hK _ _ ?_
            clear hK K
            change wpAny _ _ _ _ _ #[true, true, true, true, true, true, true, true, true, true, true, true, true, false, false, false, false, false] ⟨#[.agg #[.string op, .string tag, .slice b k.length c], .slice a n cap, .string s, .pointer (some ⟨w.heap.size, 0, none⟩), undef, undef, .bool false, .pointer (some ⟨w4.heap.size, 0, none⟩), .agg #[.string op, .string tag, .slice b k.length c], .int .i64 q, .bool false, .bool false, .slice a n cap, .int .i64 n, .bool false, .bool false, .bool false, .agg #[.string op, .string tag, .slice b k.length c], .bool false, .bool false, undef, undef, undef, undef, undef, undef, undef, undef, undef, undef, undef, .agg #[.string op, .string tag, .slice b k.length c], .agg #[.string op, .string tag, .slice b4 k.length c4], .agg #[.string op, .string tag, .slice b4 k.length c4], .slice a n cap, .bool true, .bool false, .bool false, .agg #[.string op, .string tag, .slice b4 k.length c4], .slice (some ⟨V11.heap.size, 0, none⟩) 0 0, .slice a n cap, .slice a1 n c1, .string s, .slice (some ⟨V13.heap.size, 0, none⟩) 1 1, .slice a2 (n + 1) c2, .bool true, undef, undef, undef, undef], []⟩ _
            have HB16 := Lib.hid (HB15.out.trans (hb.mono HB15.out.size))
            clear hb
            refine wpAny_take (i := 13) (v := .bool true) rfl (by kernel_rfl) (by kernel_rfl) (by kernel_rfl) (fun _ _ _ h => h) (Or.inl ⟨by rfl, ?_⟩) ?_
            · intro w
              go_simp
              try with_reducible rfl
            change wpAny _ _ _ _ _ #[true, true, true, true, true, true, true, true, true, true, true, true, true, true, false, false, false, false] ⟨#[.agg #[.string op, .string tag, .slice b k.length c], .slice a n cap, .string s, .pointer (some ⟨w.heap.size, 0, none⟩), undef, undef, .bool false, .pointer (some ⟨w4.heap.size, 0, none⟩), .agg #[.string op, .string tag, .slice b k.length c], .int .i64 q, .bool false, .bool false, .slice a n cap, .int .i64 n, .bool false, .bool false, .bool false, .agg #[.string op, .string tag, .slice b k.length c], .bool false, .bool false, undef, undef, undef, undef, undef, undef, undef, undef, undef, undef, undef, .agg #[.string op, .string tag, .slice b k.length c], .agg #[.string op, .string tag, .slice b4 k.length c4], .agg #[.string op, .string tag, .slice b4 k.length c4], .slice a n cap, .bool true, .bool false, .bool false, .agg #[.string op, .string tag, .slice b4 k.length c4], .slice (some ⟨V11.heap.size, 0, none⟩) 0 0, .slice a n cap, .slice a1 n c1, .string s, .slice (some ⟨V13.heap.size, 0, none⟩) 1 1, .slice a2 (n + 1) c2, .bool true, .bool true, undef, undef, undef], []⟩ _
            refine wpAny_take (i := 14) (v := .bool true) rfl (by kernel_rfl) (by kernel_rfl) (by kernel_rfl) (fun _ _ _ h => h) (Or.inl ⟨by rfl, ?_⟩) ?_
            · intro w
              go_simp
              try with_reducible rfl
            change wpAny _ _ _ _ _ #[true, true, true, true, true, true, true, true, true, true, true, true, true, true, true, false, false, false] ⟨#[.agg #[.string op, .string tag, .slice b k.length c], .slice a n cap, .string s, .pointer (some ⟨w.heap.size, 0, none⟩), undef, undef, .bool false, .pointer (some ⟨w4.heap.size, 0, none⟩), .agg #[.string op, .string tag, .slice b k.length c], .int .i64 q, .bool false, .bool false, .slice a n cap, .int .i64 n, .bool false, .bool false, .bool false, .agg #[.string op, .string tag, .slice b k.length c], .bool false, .bool false, undef, undef, undef, undef, undef, undef, undef, undef, undef, undef, undef, .agg #[.string op, .string tag, .slice b k.length c], .agg #[.string op, .string tag, .slice b4 k.length c4], .agg #[.string op, .string tag, .slice b4 k.length c4], .slice a n cap, .bool true, .bool false, .bool false, .agg #[.string op, .string tag, .slice b4 k.length c4], .slice (some ⟨V11.heap.size, 0, none⟩) 0 0, .slice a n cap, .slice a1 n c1, .string s, .slice (some ⟨V13.heap.size, 0, none⟩) 1 1, .slice a2 (n + 1) c2, .bool true, .bool true, .bool true, undef, undef], []⟩ _
            refine wpAny_ready (rs := [15]) (by kernel_rfl) (by simp) ?_
            refine AllReady.cons rfl (fun K hK => ?_) (AllReady.nil)
            go_simp
            go_at_call 17
            refine (awake_any _).mono ?_
            rintro e V17 ⟨rfl, hb⟩
            refine hK _ _ ?_
            clear hK K
            change wpAny _ _ _ _ _ #[true, true, true, true, true, true, true, true, true, true, true, true, true, true, true, true, false, false] ⟨#[.agg #[.string op, .string tag, .slice b k.length c], .slice a n cap, .string s, .pointer (some ⟨w.heap.size, 0, none⟩), undef, undef, .bool false, .pointer (some ⟨w4.heap.size, 0, none⟩), .agg #[.string op, .string tag, .slice b k.length c], .int .i64 q, .bool false, .bool false, .slice a n cap, .int .i64 n, .bool false, .bool false, .bool false, .agg #[.string op, .string tag, .slice b k.length c], .bool false, .bool false, undef, undef, undef, undef, undef, undef, undef, undef, undef, undef, undef, .agg #[.string op, .string tag, .slice b k.length c], .agg #[.string op, .string tag, .slice b4 k.length c4], .agg #[.string op, .string tag, .slice b4 k.length c4], .slice a n cap, .bool true, .bool false, .bool false, .agg #[.string op, .string tag, .slice b4 k.length c4], .slice (some ⟨V11.heap.size, 0, none⟩) 0 0, .slice a n cap, .slice a1 n c1, .string s, .slice (some ⟨V13.heap.size, 0, none⟩) 1 1, .slice a2 (n + 1) c2, .bool true, .bool true, .bool true, .bool true, undef], []⟩ _
            have HB17 := Lib.hid (HB16.out.trans (hb.mono HB16.out.size))
            clear hb
            refine wpAny_take (i := 16) (v := .bool true) rfl (by kernel_rfl) (by kernel_rfl) (by kernel_rfl) (fun _ _ _ h => h) (Or.inl ⟨by rfl, ?_⟩) ?_
            · intro w
              go_simp
              try with_reducible rfl
            change wpAny _ _ _ _ _ #[true, true, true, true, true, true, true, true, true, true, true, true, true, true, true, true, true, false] ⟨#[.agg #[.string op, .string tag, .slice b k.length c], .slice a n cap, .string s, .pointer (some ⟨w.heap.size, 0, none⟩), undef, undef, .bool false, .pointer (some ⟨w4.heap.size, 0, none⟩), .agg #[.string op, .string tag, .slice b k.length c], .int .i64 q, .bool false, .bool false, .slice a n cap, .int .i64 n, .bool false, .bool false, .bool false, .agg #[.string op, .string tag, .slice b k.length c], .bool false, .bool false, undef, undef, undef, undef, undef, undef, undef, undef, undef, undef, undef, .agg #[.string op, .string tag, .slice b k.length c], .agg #[.string op, .string tag, .slice b4 k.length c4], .agg #[.string op, .string tag, .slice b4 k.length c4], .slice a n cap, .bool true, .bool false, .bool false, .agg #[.string op, .string tag, .slice b4 k.length c4], .slice (some ⟨V11.heap.size, 0, none⟩) 0 0, .slice a n cap, .slice a1 n c1, .string s, .slice (some ⟨V13.heap.size, 0, none⟩) 1 1, .slice a2 (n + 1) c2, .bool true, .bool true, .bool true, .bool true, .bool true], []⟩ _
            refine wpAny_take (i := 17) (v := .bool true) rfl (by kernel_rfl) (by kernel_rfl) (by kernel_rfl) (fun _ _ _ h => h) (Or.inl ⟨by rfl, ?_⟩) ?_
            · intro w
              go_simp
              try with_reducible rfl
            change wpAny _ _ _ _ _ #[true, true, true, true, true, true, true, true, true, true, true, true, true, true, true, true, true, true] ⟨#[.agg #[.string op, .string tag, .slice b k.length c], .slice a n cap, .string s, .pointer (some ⟨w.heap.size, 0, none⟩), undef, undef, .bool true, .pointer (some ⟨w4.heap.size, 0, none⟩), .agg #[.string op, .string tag, .slice b k.length c], .int .i64 q, .bool false, .bool false, .slice a n cap, .int .i64 n, .bool false, .bool false, .bool false, .agg #[.string op, .string tag, .slice b k.length c], .bool false, .bool false, undef, undef, undef, undef, undef, undef, undef, undef, undef, undef, undef, .agg #[.string op, .string tag, .slice b k.length c], .agg #[.string op, .string tag, .slice b4 k.length c4], .agg #[.string op, .string tag, .slice b4 k.length c4], .slice a n cap, .bool true, .bool false, .bool false, .agg #[.string op, .string tag, .slice b4 k.length c4], .slice (some ⟨V11.heap.size, 0, none⟩) 0 0, .slice a n cap, .slice a1 n c1, .string s, .slice (some ⟨V13.heap.size, 0, none⟩) 1 1, .slice a2 (n + 1) c2, .bool true, .bool true, .bool true, .bool true, .bool true], []⟩ _
            refine wpAny_done (by kernel_rfl) ?_ _
            go_wp2
            go_ret
            exact ⟨rfl, HB5W.out.trans (HB17.out.mono HB5W.out.size)⟩
      ·
        go_simp
        refine hK _ _ ?_
        clear hK K
        change wpAny _ _ _ _ _ #[true, true, true, true, true, false, true, true, false, true, true, false, false, false, false, false, false, false] ⟨#[.agg #[.string op, .string tag, .slice b k.length c], .slice a n cap, .string s, .pointer (some ⟨w.heap.size, 0, none⟩), undef, undef, .bool false, .pointer (some ⟨w4.heap.size, 0, none⟩), .agg #[.string op, .string tag, .slice b k.length c], .int .i64 q, .bool false, .bool false, .slice a n cap, .int .i64 n, .bool false, .bool false, .bool false, .agg #[.string op, .string tag, .slice b k.length c], .bool false, .bool false, undef, undef, undef, undef, undef, undef, undef, undef, undef, undef, undef, .agg #[.string op, .string tag, .slice b k.length c], .agg #[.string op, .string tag, .slice b4 k.length c4], .agg #[.string op, .string tag, .slice b4 k.length c4], .slice a n cap, .bool true, .bool false, .bool false, undef, .slice (some ⟨V11.heap.size, 0, none⟩) 0 0, .slice a n cap, undef, .string s, .slice (some ⟨V12.heap.size, 0, none⟩) 1 1, undef, undef, undef, undef, undef, undef], []⟩ _
        have HR43 := Lib.hid (row_one V12 s)
        have HB13 := Lib.hid (HB12.out.alloc HB12.out.size (.cells #[.string s] 9))
        have HNE : Hid (V11.heap.size ≠ V12.heap.size) := by show _ ≠ _; have hlt : V11.heap.size < V12.heap.size := (HO0.out.lt _ rfl).2; omega
        replace HO0 := Lib.hid (own_alloc HO0.out (.cells #[.string s] 9))
        generalize V12.alloc (.cells #[.string s] 9) = V13 at *
        generalize V12.heap.size = g43 at *
        have hq13 := (HB13.out.block _ (lt_of_block HQ5.out)).trans HQ5.out
        clear x0 x1 x2
        obtain ⟨⟨x0, x1, x2⟩, -⟩ := three_cells hq13
        refine wpAny_ready (rs := [5, 8]) (by kernel_rfl) (by simp) ?_
        refine AllReady.cons rfl (fun K hK => ?_) (AllReady.cons rfl (fun K hK => ?_) (AllReady.nil))
        ·
          go_simp
          refine hK _ _ ?_
          clear hK K
          change wpAny _ _ _ _ _ #[true, true, true, true, true, true, true, true, false, true, true, false, false, false, false, false, false, false] ⟨#[.agg #[.string op, .string tag, .slice b k.length c], .slice a n cap, .string s, .pointer (some ⟨w.heap.size, 0, none⟩), undef, undef, .bool false, .pointer (some ⟨w4.heap.size, 0, none⟩), .agg #[.string op, .string tag, .slice b k.length c], .int .i64 q, .bool false, .bool false, .slice a n cap, .int .i64 n, .bool false, .bool false, .bool false, .agg #[.string op, .string tag, .slice b k.length c], .bool false, .bool false, undef, undef, undef, undef, undef, undef, undef, undef, undef, undef, undef, .agg #[.string op, .string tag, .slice b k.length c], .agg #[.string op, .string tag, .slice b4 k.length c4], .agg #[.string op, .string tag, .slice b4 k.length c4], .slice a n cap, .bool true, .bool false, .bool false, .agg #[.string op, .string tag, .slice b4 k.length c4], .slice (some ⟨V11.heap.size, 0, none⟩) 0 0, .slice a n cap, undef, .string s, .slice (some ⟨g43, 0, none⟩) 1 1, undef, undef, undef, undef, undef, undef], []⟩ _
          refine wpAny_ready (rs := [8]) (by kernel_rfl) (by simp) ?_
          refine AllReady.cons rfl (fun K hK => ?_) (AllReady.nil)
          refine step_app_first (by rfl) _ _ rfl W.heap.size _ rfl HO0.out a n cap rfl zs (HZW.out _ HB13.out) HC.out (by have := HN2.out; omega) HB13.out.size ?_
          intro a1 c1 V14 hrow hg
          refine hK _ _ ?_
          clear hK K
          change wpAny _ _ _ _ _ #[true, true, true, true, true, true, true, true, true, true, true, false, false, false, false, false, false, false] ⟨#[.agg #[.string op, .string tag, .slice b k.length c], .slice a n cap, .string s, .pointer (some ⟨w.heap.size, 0, none⟩), undef, undef, .bool false, .pointer (some ⟨w4.heap.size, 0, none⟩), .agg #[.string op, .string tag, .slice b k.length c], .int .i64 q, .bool false, .bool false, .slice a n cap, .int .i64 n, .bool false, .bool false, .bool false, .agg #[.string op, .string tag, .slice b k.length c], .bool false, .bool false, undef, undef, undef, undef, undef, undef, undef, undef, undef, undef, undef, .agg #[.string op, .string tag, .slice b k.length c], .agg #[.string op, .string tag, .slice b4 k.length c4], .agg #[.string op, .string tag, .slice b4 k.length c4], .slice a n cap, .bool true, .bool false, .bool false, .agg #[.string op, .string tag, .slice b4 k.length c4], .slice (some ⟨V11.heap.size, 0, none⟩) 0 0, .slice a n cap, .slice a1 n c1, .string s, .slice (some ⟨g43, 0, none⟩) 1 1, undef, undef, undef, undef, undef, undef], []⟩ _
          have HB14 := Lib.hid (below_grown HB13.out HO0.out hg)
          have HO1 := Lib.hid hrow
          replace HR43 := Lib.hid (HR43.out.grown hg (fun e => HNE.out (Option.some.inj e)))
          clear hrow hg HO0
          have hq14 := (HB14.out.block _ (lt_of_block HQ5.out)).trans HQ5.out
          clear x0 x1 x2
          obtain ⟨⟨x0, x1, x2⟩, -⟩ := three_cells hq14
          refine wpAny_ready (rs := [11]) (by kernel_rfl) (by simp) ?_
          refine AllReady.cons rfl (fun K hK => ?_) (AllReady.nil)
          refine step_app_row (by rfl) _ _ rfl W.heap.size _ n (strV zs) rfl HO1.out _ 1 1 rfl [s] HR43.out (fun e => by cases e) (by have := HN2.out; omega) HB14.out.size ?_
          intro a2 c2 V15 hrow hg
          refine hK _ _ ?_
          clear hK K
          change wpAny _ _ _ _ _ #[true, true, true, true, true, true, true, true, true, true, true, true, false, false, false, false, false, false] ⟨#[.agg #[.string op, .string tag, .slice b k.length c], .slice a n cap, .string s, .pointer (some ⟨w.heap.size, 0, none⟩), undef, undef, .bool false, .pointer (some ⟨w4.heap.size, 0, none⟩), .agg #[.string op, .string tag, .slice b k.length c], .int .i64 q, .bool false, .bool false, .slice a n cap, .int .i64 n, .bool false, .bool false, .bool false, .agg #[.string op, .string tag, .slice b k.length c], .bool false, .bool false, undef, undef, undef, undef, undef, undef, undef, undef, undef, undef, undef, .agg #[.string op, .string tag, .slice b k.length c], .agg #[.string op, .string tag, .slice b4 k.length c4], .agg #[.string op, .string tag, .slice b4 k.length c4], .slice a n cap, .bool true, .bool false, .bool false, .agg #[.string op, .string tag, .slice b4 k.length c4], .slice (some ⟨V11.heap.size, 0, none⟩) 0 0, .slice a n cap, .slice a1 n c1, .string s, .slice (some ⟨g43, 0, none⟩) 1 1, .slice a2 (n + 1) c2, undef, undef, undef, undef, undef], []⟩ _
          have HB15 := Lib.hid (below_grown HB14.out HO1.out hg)
          have HR44 := Lib.hid (own_row2 (HZW.out _ HB15.out).1 hrow)
          clear hrow hg HO1
          have hq15 := (HB15.out.block _ (lt_of_block HQ5.out)).trans HQ5.out
          clear x0 x1 x2
          obtain ⟨⟨x0, x1, x2⟩, -⟩ := three_cells hq15
          refine wpAny_ready (rs := [12]) (by kernel_rfl) (by simp) ?_
          refine AllReady.cons rfl (fun K hK => ?_) (AllReady.nil)
          go_simp
          go_at_call 14
          refine (CH2.out _ HB15.out _ _ HR44.out).mono ?_
          rintro e V16 ⟨rfl, hb⟩
          refine hK _ _ ?_
          clear hK K
          change wpAny _ _ _ _ _ #[true, true, true, true, true, true, true, true, true, true, true, true, true, false, false, false, false, false] ⟨#[.agg #[.string op, .string tag, .slice b k.length c], .slice a n cap, .string s, .pointer (some ⟨w.heap.size, 0, none⟩), undef, undef, .bool false, .pointer (some ⟨w4.heap.size, 0, none⟩), .agg #[.string op, .string tag, .slice b k.length c], .int .i64 q, .bool false, .bool false, .slice a n cap, .int .i64 n, .bool false, .bool false, .bool false, .agg #[.string op, .string tag, .slice b k.length c], .bool false, .bool false, undef, undef, undef, undef, undef, undef, undef, undef, undef, undef, undef, .agg #[.string op, .string tag, .slice b k.length c], .agg #[.string op, .string tag, .slice b4 k.length c4], .agg #[.string op, .string tag, .slice b4 k.length c4], .slice a n cap, .bool true, .bool false, .bool false, .agg #[.string op, .string tag, .slice b4 k.length c4], .slice (some ⟨V11.heap.size, 0, none⟩) 0 0, .slice a n cap, .slice a1 n c1, .string s, .slice (some ⟨g43, 0, none⟩) 1 1, .slice a2 (n + 1) c2, .bool true, undef, undef, undef, undef], []⟩ _
          have HB16 := Lib.hid (HB15.out.trans (hb.mono HB15.out.size))
          clear hb
          refine wpAny_take (i := 13) (v := .bool true) rfl (by kernel_rfl) (by kernel_rfl) (by kernel_rfl) (fun _ _ _ h => h) (Or.inl ⟨by rfl, ?_⟩) ?_
          · intro w
            go_simp
            try with_reducible rfl
          change wpAny _ _ _ _ _ #[true, true, true, true, true, true, true, true, true, true, true, true, true, true, false, false, false, false] ⟨#[.agg #[.string op, .string tag, .slice b k.length c], .slice a n cap, .string s, .pointer (some ⟨w.heap.size, 0, none⟩), undef, undef, .bool false, .pointer (some ⟨w4.heap.size, 0, none⟩), .agg #[.string op, .string tag, .slice b k.length c], .int .i64 q, .bool false, .bool false, .slice a n cap, .int .i64 n, .bool false, .bool false, .bool false, .agg #[.string op, .string tag, .slice b k.length c], .bool false, .bool false, undef, undef, undef, undef, undef, undef, undef, undef, undef, undef, undef, .agg #[.string op, .string tag, .slice b k.length c], .agg #[.string op, .string tag, .slice b4 k.length c4], .agg #[.string op, .string tag, .slice b4 k.length c4], .slice a n cap, .bool true, .bool false, .bool false, .agg #[.string op, .string tag, .slice b4 k.length c4], .slice (some ⟨V11.heap.size, 0, none⟩) 0 0, .slice a n cap, .slice a1 n c1, .string s, .slice (some ⟨g43, 0, none⟩) 1 1, .slice a2 (n + 1) c2, .bool true, .bool true, undef, undef, undef], []⟩ _
          refine wpAny_take (i := 14) (v := .bool true) rfl (by kernel_rfl) (by kernel_rfl) (by kernel_rfl) (fun _ _ _ h => h) (Or.inl ⟨by rfl, ?_⟩) ?_
          · intro w
            go_simp
            try with_reducible rfl
          change wpAny _ _ _ _ _ #[true, true, true, true, true, true, true, true, true, true, true, true, true, true, true, false, false, false] ⟨#[.agg #[.string op, .string tag, .slice b k.length c], .slice a n cap, .string s, .pointer (some ⟨w.heap.size, 0, none⟩), undef, undef, .bool false, .pointer (some ⟨w4.heap.size, 0, none⟩), .agg #[.string op, .string tag, .slice b k.length c], .int .i64 q, .bool false, .bool false, .slice a n cap, .int .i64 n, .bool false, .bool false, .bool false, .agg #[.string op, .string tag, .slice b k.length c], .bool false, .bool false, undef, undef, undef, undef, undef, undef, undef, undef, undef, undef, undef, .agg #[.string op, .string tag, .slice b k.length c], .agg #[.string op, .string tag, .slice b4 k.length c4], .agg #[.string op, .string tag, .slice b4 k.length c4], .slice a n cap, .bool true, .bool false, .bool false, .agg #[.string op, .string tag, .slice b4 k.length c4], .slice (some ⟨V11.heap.size, 0, none⟩) 0 0, .slice a n cap, .slice a1 n c1, .string s, .slice (some ⟨g43, 0, none⟩) 1 1, .slice a2 (n + 1) c2, .bool true, .bool true, .bool true, undef, undef], []⟩ _
          refine wpAny_ready (rs := [15]) (by kernel_rfl) (by simp) ?_
          refine AllReady.cons rfl (fun K hK => ?_) (AllReady.nil)
          go_simp
          go_at_call 17
          refine (awake_any _).mono ?_
          rintro e V17 ⟨rfl, hb⟩
          refine hK _ _ ?_
          clear hK K
          change wpAny _ _ _ _ _ #[true, true, true, true, true, true, true, true, true, true, true, true, true, true, true, true, false, false] ⟨#[.agg #[.string op, .string tag, .slice b k.length c], .slice a n cap, .string s, .pointer (some ⟨w.heap.size, 0, none⟩), undef, undef, .bool false, .pointer (some ⟨w4.heap.size, 0, none⟩), .agg #[.string op, .string tag, .slice b k.length c], .int .i64 q, .bool false, .bool false, .slice a n cap, .int .i64 n, .bool false, .bool false, .bool false, .agg #[.string op, .string tag, .slice b k.length c], .bool false, .bool false, undef, undef, undef, undef, undef, undef, undef, undef, undef, undef, undef, .agg #[.string op, .string tag, .slice b k.length c], .agg #[.string op, .string tag, .slice b4 k.length c4], .agg #[.string op, .string tag, .slice b4 k.length c4], .slice a n cap, .bool true, .bool false, .bool false, .agg #[.string op, .string tag, .slice b4 k.length c4], .slice (some ⟨V11.heap.size, 0, none⟩) 0 0, .slice a n cap, .slice a1 n c1, .string s, .slice (some ⟨g43, 0, none⟩) 1 1, .slice a2 (n + 1) c2, .bool true, .bool true, .bool true, .bool true, undef], []⟩ _
          have HB17 := Lib.hid (HB16.out.trans (hb.mono HB16.out.size))
          clear hb
          refine wpAny_take (i := 16) (v := .bool true) rfl (by kernel_rfl) (by kernel_rfl) (by kernel_rfl) (fun _ _ _ h => h) (Or.inl ⟨by rfl, ?_⟩) ?_
          · intro w
            go_simp
            try with_reducible rfl
          change wpAny _ _ _ _ _ #[true, true, true, true, true, true, true, true, true, true, true, true, true, true, true, true, true, false] ⟨#[.agg #[.string op, .string tag, .slice b k.length c], .slice a n cap, .string s, .pointer (some ⟨w.heap.size, 0, none⟩), undef, undef, .bool false, .pointer (some ⟨w4.heap.size, 0, none⟩), .agg #[.string op, .string tag, .slice b k.length c], .int .i64 q, .bool false, .bool false, .slice a n cap, .int .i64 n, .bool false, .bool false, .bool false, .agg #[.string op, .string tag, .slice b k.length c], .bool false, .bool false, undef, undef, undef, undef, undef, undef, undef, undef, undef, undef, undef, .agg #[.string op, .string tag, .slice b k.length c], .agg #[.string op, .string tag, .slice b4 k.length c4], .agg #[.string op, .string tag, .slice b4 k.length c4], .slice a n cap, .bool true, .bool false, .bool false, .agg #[.string op, .string tag, .slice b4 k.length c4], .slice (some ⟨V11.heap.size, 0, none⟩) 0 0, .slice a n cap, .slice a1 n c1, .string s, .slice (some ⟨g43, 0, none⟩) 1 1, .slice a2 (n + 1) c2, .bool true, .bool true, .bool true, .bool true, .bool true], []⟩ _
          refine wpAny_take (i := 17) (v := .bool true) rfl (by kernel_rfl) (by kernel_rfl) (by kernel_rfl) (fun _ _ _ h => h) (Or.inl ⟨by rfl, ?_⟩) ?_
          · intro w
            go_simp
            try with_reducible rfl
          change wpAny _ _ _ _ _ #[true, true, true, true, true, true, true, true, true, true, true, true, true, true, true, true, true, true] ⟨#[.agg #[.string op, .string tag, .slice b k.length c], .slice a n cap, .string s, .pointer (some ⟨w.heap.size, 0, none⟩), undef, undef, .bool true, .pointer (some ⟨w4.heap.size, 0, none⟩), .agg #[.string op, .string tag, .slice b k.length c], .int .i64 q, .bool false, .bool false, .slice a n cap, .int .i64 n, .bool false, .bool false, .bool false, .agg #[.string op, .string tag, .slice b k.length c], .bool false, .bool false, undef, undef, undef, undef, undef, undef, undef, undef, undef, undef, undef, .agg #[.string op, .string tag, .slice b k.length c], .agg #[.string op, .string tag, .slice b4 k.length c4], .agg #[.string op, .string tag, .slice b4 k.length c4], .slice a n cap, .bool true, .bool false, .bool false, .agg #[.string op, .string tag, .slice b4 k.length c4], .slice (some ⟨V11.heap.size, 0, none⟩) 0 0, .slice a n cap, .slice a1 n c1, .string s, .slice (some ⟨g43, 0, none⟩) 1 1, .slice a2 (n + 1) c2, .bool true, .bool true, .bool true, .bool true, .bool true], []⟩ _
          refine wpAny_done (by kernel_rfl) ?_ _
          go_wp2
          go_ret
          exact ⟨rfl, HB5W.out.trans (HB17.out.mono HB5W.out.size)⟩
        ·
          refine step_app_first (by rfl) _ _ rfl W.heap.size _ rfl HO0.out a n cap rfl zs (HZW.out _ HB13.out) HC.out (by have := HN2.out; omega) HB13.out.size ?_
          intro a1 c1 V14 hrow hg
          refine hK _ _ ?_
          clear hK K
          change wpAny _ _ _ _ _ #[true, true, true, true, true, false, true, true, true, true, true, false, false, false, false, false, false, false] ⟨#[.agg #[.string op, .string tag, .slice b k.length c], .slice a n cap, .string s, .pointer (some ⟨w.heap.size, 0, none⟩), undef, undef, .bool false, .pointer (some ⟨w4.heap.size, 0, none⟩), .agg #[.string op, .string tag, .slice b k.length c], .int .i64 q, .bool false, .bool false, .slice a n cap, .int .i64 n, .bool false, .bool false, .bool false, .agg #[.string op, .string tag, .slice b k.length c], .bool false, .bool false, undef, undef, undef, undef, undef, undef, undef, undef, undef, undef, undef, .agg #[.string op, .string tag, .slice b k.length c], .agg #[.string op, .string tag, .slice b4 k.length c4], .agg #[.string op, .string tag, .slice b4 k.length c4], .slice a n cap, .bool true, .bool false, .bool false, undef, .slice (some ⟨V11.heap.size, 0, none⟩) 0 0, .slice a n cap, .slice a1 n c1, .string s, .slice (some ⟨g43, 0, none⟩) 1 1, undef, undef, undef, undef, undef, undef], []⟩ _
          have HB14 := Lib.hid (below_grown HB13.out HO0.out hg)
          have HO1 := Lib.hid hrow
          replace HR43 := Lib.hid (HR43.out.grown hg (fun e => HNE.out (Option.some.inj e)))
          clear hrow hg HO0
          have hq14 := (HB14.out.block _ (lt_of_block HQ5.out)).trans HQ5.out
          clear x0 x1 x2
          obtain ⟨⟨x0, x1, x2⟩, -⟩ := three_cells hq14
          refine wpAny_ready (rs := [5, 11]) (by kernel_rfl) (by simp) ?_
          refine AllReady.cons rfl (fun K hK => ?_) (AllReady.cons rfl (fun K hK => ?_) (AllReady.nil))
          ·
            go_simp
            refine hK _ _ ?_
            clear hK K
            change wpAny _ _ _ _ _ #[true, true, true, true, true, true, true, true, true, true, true, false, false, false, false, false, false, false] ⟨#[.agg #[.string op, .string tag, .slice b k.length c], .slice a n cap, .string s, .pointer (some ⟨w.heap.size, 0, none⟩), undef, undef, .bool false, .pointer (some ⟨w4.heap.size, 0, none⟩), .agg #[.string op, .string tag, .slice b k.length c], .int .i64 q, .bool false, .bool false, .slice a n cap, .int .i64 n, .bool false, .bool false, .bool false, .agg #[.string op, .string tag, .slice b k.length c], .bool false, .bool false, undef, undef, undef, undef, undef, undef, undef, undef, undef, undef, undef, .agg #[.string op, .string tag, .slice b k.length c], .agg #[.string op, .string tag, .slice b4 k.length c4], .agg #[.string op, .string tag, .slice b4 k.length c4], .slice a n cap, .bool true, .bool false, .bool false, .agg #[.string op, .string tag, .slice b4 k.length c4], .slice (some ⟨V11.heap.size, 0, none⟩) 0 0, .slice a n cap, .slice a1 n c1, .string s, .slice (some ⟨g43, 0, none⟩) 1 1, undef, undef, undef, undef, undef, undef], []⟩ _
            refine wpAny_ready (rs := [11]) (by kernel_rfl) (by simp) ?_
            refine AllReady.cons rfl (fun K hK => ?_) (AllReady.nil)
            refine step_app_row (by rfl) _ _ rfl W.heap.size _ n (strV zs) rfl HO1.out _ 1 1 rfl [s] HR43.out (fun e => by cases e) (by have := HN2.out; omega) HB14.out.size ?_
            intro a2 c2 V15 hrow hg
            refine hK _ _ ?_
            clear hK K
            change wpAny _ _ _ _ _ #[true, true, true, true, true, true, true, true, true, true, true, true, false, false, false, false, false, false] ⟨#[.agg #[.string op, .string tag, .slice b k.length c], .slice a n cap, .string s, .pointer (some ⟨w.heap.size, 0, none⟩), undef, undef, .bool false, .pointer (some ⟨w4.heap.size, 0, none⟩), .agg #[.string op, .string tag, .slice b k.length c], .int .i64 q, .bool false, .bool false, .slice a n cap, .int .i64 n, .bool false, .bool false, .bool false, .agg #[.string op, .string tag, .slice b k.length c], .bool false, .bool false, undef, undef, undef, undef, undef, undef, undef, undef, undef, undef, undef, .agg #[.string op, .string tag, .slice b k.length c], .agg #[.string op, .string tag, .slice b4 k.length c4], .agg #[.string op, .string tag, .slice b4 k.length c4], .slice a n cap, .bool true, .bool false, .bool false, .agg #[.string op, .string tag, .slice b4 k.length c4], .slice (some ⟨V11.heap.size, 0, none⟩) 0 0, .slice a n cap, .slice a1 n c1, .string s, .slice (some ⟨g43, 0, none⟩) 1 1, .slice a2 (n + 1) c2, undef, undef, undef, undef, undef], []⟩ _
            have HB15 := Lib.hid (below_grown HB14.out HO1.out hg)
            have HR44 := Lib.hid (own_row2 (HZW.out _ HB15.out).1 hrow)
            clear hrow hg HO1
            have hq15 := (HB15.out.block _ (lt_of_block HQ5.out)).trans HQ5.out
            clear x0 x1 x2
            obtain ⟨⟨x0, x1, x2⟩, -⟩ := three_cells hq15
            refine wpAny_ready (rs := [12]) (by kernel_rfl) (by simp) ?_
            refine AllReady.cons rfl (fun K hK => ?_) (AllReady.nil)
            go_simp
            go_at_call 14
            refine (CH2.out _ HB15.out _ _ HR44.out).mono ?_
            rintro e V16 ⟨rfl, hb⟩
            refine hK _ _ ?_
            clear hK K
            change wpAny _ _ _ _ _ #[true, true, true, true, true, true, true, true, true, true, true, true, true, false, false, false, false, false] ⟨#[.agg #[.string op, .string tag, .slice b k.length c], .slice a n cap, .string s, .pointer (some ⟨w.heap.size, 0, none⟩), undef, undef, .bool false, .pointer (some ⟨w4.heap.size, 0, none⟩), .agg #[.string op, .string tag, .slice b k.length c], .int .i64 q, .bool false, .bool false, .slice a n cap, .int .i64 n, .bool false, .bool false, .bool false, .agg #[.string op, .string tag, .slice b k.length c], .bool false, .bool false, undef, undef, undef, undef, undef, undef, undef, undef, undef, undef, undef, .agg #[.string op, .string tag, .slice b k.length c], .agg #[.string op, .string tag, .slice b4 k.length c4], .agg #[.string op, .string tag, .slice b4 k.length c4], .slice a n cap, .bool true, .bool false, .bool false, .agg #[.string op, .string tag, .slice b4 k.length c4], .slice (some ⟨V11.heap.size, 0, none⟩) 0 0, .slice a n cap, .slice a1 n c1, .string s, .slice (some ⟨g43, 0, none⟩) 1 1, .slice a2 (n + 1) c2, .bool true, undef, undef, undef, undef], []⟩ _
            have HB16 := Lib.hid (HB15.out.trans (hb.mono HB15.out.size))
            clear hb
            refine wpAny_take (i := 13) (v := .bool true) rfl (by kernel_rfl) (by kernel_rfl) (by kernel_rfl) (fun _ _ _ h => h) (Or.inl ⟨by rfl, ?_⟩) ?_
            · intro w
              go_simp
              try with_reducible rfl
            change wpAny _ _ _ _ _ #[true, true, true, true, true, true, true, true, true, true, true, true, true, true, false, false, false, false] ⟨#[.agg #[.string op, .string tag, .slice b k.length c], .slice a n cap, .string s, .pointer (some ⟨w.heap.size, 0, none⟩), undef, undef, .bool false, .pointer (some ⟨w4.heap.size, 0, none⟩), .agg #[.string op, .string tag, .slice b k.length c], .int .i64 q, .bool false, .bool false, .slice a n cap, .int .i64 n, .bool false, .bool false, .bool false, .agg #[.string op, .string tag, .slice b k.length c], .bool false, .bool false, undef, undef, undef, undef, undef, undef, undef, undef, undef, undef, undef, .agg #[.string op, .string tag, .slice b k.length c], .agg #[.string op, .string tag, .slice b4 k.length c4], .agg #[.string op, .string tag, .slice b4 k.length c4], .slice a n cap, .bool true, .bool false, .bool false, .agg #[.string op, .string tag, .slice b4 k.length c4], .slice (some ⟨V11.heap.size, 0, none⟩) 0 0, .slice a n cap, .slice a1 n c1, .string s, .slice (some ⟨g43, 0, none⟩) 1 1, .slice a2 (n + 1) c2, .bool true, .bool true, undef, undef, undef], []⟩ _
            refine wpAny_take (i := 14) (v := .bool true) rfl (by kernel_rfl) (by kernel_rfl) (by kernel_rfl) (fun _ _ _ h => h) (Or.inl ⟨by rfl, ?_⟩) ?_
            · intro w
              go_simp
              try with_reducible rfl
            change wpAny _ _ _ _ _ #[true, true, true, true, true, true, true, true, true, true, true, true, true, true, true, false, false, false] ⟨#[.agg #[.string op, .string tag, .slice b k.length c], .slice a n cap, .string s, .pointer (some ⟨w.heap.size, 0, none⟩), undef, undef, .bool false, .pointer (some ⟨w4.heap.size, 0, none⟩), .agg #[.string op, .string tag, .slice b k.length c], .int .i64 q, .bool false, .bool false, .slice a n cap, .int .i64 n, .bool false, .bool false, .bool false, .agg #[.string op, .string tag, .slice b k.length c], .bool false, .bool false, undef, undef, undef, undef, undef, undef, undef, undef, undef, undef, undef, .agg #[.string op, .string tag, .slice b k.length c], .agg #[.string op, .string tag, .slice b4 k.length c4], .agg #[.string op, .string tag, .slice b4 k.length c4], .slice a n cap, .bool true, .bool false, .bool false, .agg #[.string op, .string tag, .slice b4 k.length c4], .slice (some ⟨V11.heap.size, 0, none⟩) 0 0, .slice a n cap, .slice a1 n c1, .string s, .slice (some ⟨g43, 0, none⟩) 1 1, .slice a2 (n + 1) c2, .bool true, .bool true, .bool true, undef, undef], []⟩ _
            refine wpAny_ready (rs := [15]) (by kernel_rfl) (by simp) ?_
            refine AllReady.cons rfl (fun K hK => ?_) (AllReady.nil)
            go_simp
            go_at_call 17
            refine (awake_any _).mono ?_
            rintro e V17 ⟨rfl, hb⟩
            refine hK _ _ ?_
            clear hK K
            change wpAny _ _ _ _ _ #[true, true, true, true, true, true, true, true, true, true, true, true, true, true, true, true, false, false] ⟨#[.agg #[.string op, .string tag, .slice b k.length c], .slice a n cap, .string s, .pointer (some ⟨w.heap.size, 0, none⟩), undef, undef, .bool false, .pointer (some ⟨w4.heap.size, 0, none⟩), .agg #[.string op, .string tag, .slice b k.length c], .int .i64 q, .bool false, .bool false, .slice a n cap, .int .i64 n, .bool false, .bool false, .bool false, .agg #[.string op, .string tag, .slice b k.length c], .bool false, .bool false, undef, undef, undef, undef, undef, undef, undef, undef, undef, undef, undef, .agg #[.string op, .string tag, .slice b k.length c], .agg #[.string op, .string tag, .slice b4 k.length c4], .agg #[.string op, .string tag, .slice b4 k.length c4], .slice a n cap, .bool true, .bool false, .bool false, .agg #[.string op, .string tag, .slice b4 k.length c4], .slice (some ⟨V11.heap.size, 0, none⟩) 0 0, .slice a n cap, .slice a1 n c1, .string s, .slice (some ⟨g43, 0, none⟩) 1 1, .slice a2 (n + 1) c2, .bool true, .bool true, .bool true, .bool true, undef], []⟩ _
            have HB17 := Lib.hid (HB16.out.trans (hb.mono HB16.out.size))
            clear hb
            refine wpAny_take (i := 16) (v := .bool true) rfl (by kernel_rfl) (by kernel_rfl) (by kernel_rfl) (fun _ _ _ h => h) (Or.inl ⟨by rfl, ?_⟩) ?_
            · intro w
              go_simp
              try with_reducible rfl
            change wpAny _ _ _ _ _ #[true, true, true, true, true, true, true, true, true, true, true, true, true, true, true, true, true, false] ⟨#[.agg #[.string op, .string tag, .slice b k.length c], .slice a n cap, .string s, .pointer (some ⟨w.heap.size, 0, none⟩), undef, undef, .bool false, .pointer (some ⟨w4.heap.size, 0, none⟩), .agg #[.string op, .string tag, .slice b k.length c], .int .i64 q, .bool false, .bool false, .slice a n cap, .int .i64 n, .bool false, .bool false, .bool false, .agg #[.string op, .string tag, .slice b k.length c], .bool false, .bool false, undef, undef, undef, undef, undef, undef, undef, undef, undef, undef, undef, .agg #[.string op, .string tag, .slice b k.length c], .agg #[.string op, .string tag, .slice b4 k.length c4], .agg #[.string op, .string tag, .slice b4 k.length c4], .slice a n cap, .bool true, .bool false, .bool false, .agg #[.string op, .string tag, .slice b4 k.length c4], .slice (some ⟨V11.heap.size, 0, none⟩) 0 0, .slice a n cap, .slice a1 n c1, .string s, .slice (some ⟨g43, 0, none⟩) 1 1, .slice a2 (n + 1) c2, .bool true, .bool true, .bool true, .bool true, .bool true], []⟩ _
            refine wpAny_take (i := 17) (v := .bool true) rfl (by kernel_rfl) (by kernel_rfl) (by kernel_rfl) (fun _ _ _ h => h) (Or.inl ⟨by rfl, ?_⟩) ?_
            · intro w
              go_simp
              try with_reducible rfl
            change wpAny _ _ _ _ _ #[true, true, true, true, true, true, true, true, true, true, true, true, true, true, true, true, true, true] ⟨#[.agg #[.string op, .string tag, .slice b k.length c], .slice a n cap, .string s, .pointer (some ⟨w.heap.size, 0, none⟩), undef, undef, .bool true, .pointer (some ⟨w4.heap.size, 0, none⟩), .agg #[.string op, .string tag, .slice b k.length c], .int .i64 q, .bool false, .bool false, .slice a n cap, .int .i64 n, .bool false, .bool false, .bool false, .agg #[.string op, .string tag, .slice b k.length c], .bool false, .bool false, undef, undef, undef, undef, undef, undef, undef, undef, undef, undef, undef, .agg #[.string op, .string tag, .slice b k.length c], .agg #[.string op, .string tag, .slice b4 k.length c4], .agg #[.string op, .string tag, .slice b4 k.length c4], .slice a n cap, .bool true, .bool false, .bool false, .agg #[.string op, .string tag, .slice b4 k.length c4], .slice (some ⟨V11.heap.size, 0, none⟩) 0 0, .slice a n cap, .slice a1 n c1, .string s, .slice (some ⟨g43, 0, none⟩) 1 1, .slice a2 (n + 1) c2, .bool true, .bool true, .bool true, .bool true, .bool true], []⟩ _
            refine wpAny_done (by kernel_rfl) ?_ _
            go_wp2
            go_ret
            exact ⟨rfl, HB5W.out.trans (HB17.out.mono HB5W.out.size)⟩
          ·
            refine step_app_row (by rfl) _ _ rfl W.heap.size _ n (strV zs) rfl HO1.out _ 1 1 rfl [s] HR43.out (fun e => by cases e) (by have := HN2.out; omega) HB14.out.size ?_
            intro a2 c2 V15 hrow hg
            refine hK _ _ ?_
            clear hK K
            change wpAny _ _ _ _ _ #[true, true, true, true, true, false, true, true, true, true, true, true, false, false, false, false, false, false] ⟨#[.agg #[.string op, .string tag, .slice b k.length c], .slice a n cap, .string s, .pointer (some ⟨w.heap.size, 0, none⟩), undef, undef, .bool false, .pointer (some ⟨w4.heap.size, 0, none⟩), .agg #[.string op, .string tag, .slice b k.length c], .int .i64 q, .bool false, .bool false, .slice a n cap, .int .i64 n, .bool false, .bool false, .bool false, .agg #[.string op, .string tag, .slice b k.length c], .bool false, .bool false, undef, undef, undef, undef, undef, undef, undef, undef, undef, undef, undef, .agg #[.string op, .string tag, .slice b k.length c], .agg #[.string op, .string tag, .slice b4 k.length c4], .agg #[.string op, .string tag, .slice b4 k.length c4], .slice a n cap, .bool true, .bool false, .bool false, undef, .slice (some ⟨V11.heap.size, 0, none⟩) 0 0, .slice a n cap, .slice a1 n c1, .string s, .slice (some ⟨g43, 0, none⟩) 1 1, .slice a2 (n + 1) c2, undef, undef, undef, undef, undef], []⟩ _
            have HB15 := Lib.hid (below_grown HB14.out HO1.out hg)
            have HR44 := Lib.hid (own_row2 (HZW.out _ HB15.out).1 hrow)
            clear hrow hg HO1
            have hq15 := (HB15.out.block _ (lt_of_block HQ5.out)).trans HQ5.out
            clear x0 x1 x2
            obtain ⟨⟨x0, x1, x2⟩, -⟩ := three_cells hq15
            refine wpAny_ready (rs := [5]) (by kernel_rfl) (by simp) ?_
            refine AllReady.cons rfl (fun K hK => ?_) (AllReady.nil)
            go_simp
            refine hK _ _ ?_
            clear hK K
            change wpAny _ _ _ _ _ #[true, true, true, true, true, true, true, true, true, true, true, true, false, false, false, false, false, false] ⟨#[.agg #[.string op, .string tag, .slice b k.length c], .slice a n cap, .string s, .pointer (some ⟨w.heap.size, 0, none⟩), undef, undef, .bool false, .pointer (some ⟨w4.heap.size, 0, none⟩), .agg #[.string op, .string tag, .slice b k.length c], .int .i64 q, .bool false, .bool false, .slice a n cap, .int .i64 n, .bool false, .bool false, .bool false, .agg #[.string op, .string tag, .slice b k.length c], .bool false, .bool false, undef, undef, undef, undef, undef, undef, undef, undef, undef, undef, undef, .agg #[.string op, .string tag, .slice b k.length c], .agg #[.string op, .string tag, .slice b4 k.length c4], .agg #[.string op, .string tag, .slice b4 k.length c4], .slice a n cap, .bool true, .bool false, .bool false, .agg #[.string op, .string tag, .slice b4 k.length c4], .slice (some ⟨V11.heap.size, 0, none⟩) 0 0, .slice a n cap, .slice a1 n c1, .string s, .slice (some ⟨g43, 0, none⟩) 1 1, .slice a2 (n + 1) c2, undef, undef, undef, undef, undef], []⟩ _
            refine wpAny_ready (rs := [12]) (by kernel_rfl) (by simp) ?_
            refine AllReady.cons rfl (fun K hK => ?_) (AllReady.nil)
            go_simp
            go_at_call 14
            refine (CH2.out _ HB15.out _ _ HR44.out).mono ?_
            rintro e V16 ⟨rfl, hb⟩
            refine hK _ _ ?_
            clear hK K
            change wpAny _ _ _ _ _ #[true, true, true, true, true, true, true, true, true, true, true, true, true, false, false, false, false, false] ⟨#[.agg #[.string op, .string tag, .slice b k.length c], .slice a n cap, .string s, .pointer (some ⟨w.heap.size, 0, none⟩), undef, undef, .bool false, .pointer (some ⟨w4.heap.size, 0, none⟩), .agg #[.string op, .string tag, .slice b k.length c], .int .i64 q, .bool false, .bool false, .slice a n cap, .int .i64 n, .bool false, .bool false, .bool false, .agg #[.string op, .string tag, .slice b k.length c], .bool false, .bool false, undef, undef, undef, undef, undef, undef, undef, undef, undef, undef, undef, .agg #[.string op, .string tag, .slice b k.length c], .agg #[.string op, .string tag, .slice b4 k.length c4], .agg #[.string op, .string tag, .slice b4 k.length c4], .slice a n cap, .bool true, .bool false, .bool false, .agg #[.string op, .string tag, .slice b4 k.length c4], .slice (some ⟨V11.heap.size, 0, none⟩) 0 0, .slice a n cap, .slice a1 n c1, .string s, .slice (some ⟨g43, 0, none⟩) 1 1, .slice a2 (n + 1) c2, .bool true, undef, undef, undef, undef], []⟩ _
            have HB16 := Lib.hid (HB15.out.trans (hb.mono HB15.out.size))
            clear hb
            refine wpAny_take (i := 13) (v := .bool true) rfl (by kernel_rfl) (by kernel_rfl) (by kernel_rfl) (fun _ _ _ h => h) (Or.inl ⟨by rfl, ?_⟩) ?_
            · intro w
              go_simp
              try with_reducible rfl
            change wpAny _ _ _ _ _ #[true, true, true, true, true, true, true, true, true, true, true, true, true, true, false, false, false, false] ⟨#[.agg #[.string op, .string tag, .slice b k.length c], .slice a n cap, .string s, .pointer (some ⟨w.heap.size, 0, none⟩), undef, undef, .bool false, .pointer (some ⟨w4.heap.size, 0, none⟩), .agg #[.string op, .string tag, .slice b k.length c], .int .i64 q, .bool false, .bool false, .slice a n cap, .int .i64 n, .bool false, .bool false, .bool false, .agg #[.string op, .string tag, .slice b k.length c], .bool false, .bool false, undef, undef, undef, undef, undef, undef, undef, undef, undef, undef, undef, .agg #[.string op, .string tag, .slice b k.length c], .agg #[.string op, .string tag, .slice b4 k.length c4], .agg #[.string op, .string tag, .slice b4 k.length c4], .slice a n cap, .bool true, .bool false, .bool false, .agg #[.string op, .string tag, .slice b4 k.length c4], .slice (some ⟨V11.heap.size, 0, none⟩) 0 0, .slice a n cap, .slice a1 n c1, .string s, .slice (some ⟨g43, 0, none⟩) 1 1, .slice a2 (n + 1) c2, .bool true, .bool true, undef, undef, undef], []⟩ _
            refine wpAny_take (i := 14) (v := .bool true) rfl (by kernel_rfl) (by kernel_rfl) (by kernel_rfl) (fun _ _ _ h => h) (Or.inl ⟨by rfl, ?_⟩) ?_
            · intro w
              go_simp
              try with_reducible rfl
            change wpAny _ _ _ _ _ #[true, true, true, true, true, true, true, true, true, true, true, true, true, true, true, false, false, false] ⟨#[.agg #[.string op, .string tag, .slice b k.length c], .slice a n cap, .string s, .pointer (some ⟨w.heap.size, 0, none⟩), undef, undef, .bool false, .pointer (some ⟨w4.heap.size, 0, none⟩), .agg #[.string op, .string tag, .slice b k.length c], .int .i64 q, .bool false, .bool false, .slice a n cap, .int .i64 n, .bool false, .bool false, .bool false, .agg #[.string op, .string tag, .slice b k.length c], .bool false, .bool false, undef, undef, undef, undef, undef, undef, undef, undef, undef, undef, undef, .agg #[.string op, .string tag, .slice b k.length c], .agg #[.string op, .string tag, .slice b4 k.length c4], .agg #[.string op, .string tag, .slice b4 k.length c4], .slice a n cap, .bool true, .bool false, .bool false, .agg #[.string op, .string tag, .slice b4 k.length c4], .slice (some ⟨V11.heap.size, 0, none⟩) 0 0, .slice a n cap, .slice a1 n c1, .string s, .slice (some ⟨g43, 0, none⟩) 1 1, .slice a2 (n + 1) c2, .bool true, .bool true, .bool true, undef, undef], []⟩ _
            refine wpAny_ready (rs := [15]) (by kernel_rfl) (by simp) ?_
            refine AllReady.cons rfl (fun K hK => ?_) (AllReady.nil)
            go_simp
            go_at_call 17
            refine (awake_any _).mono ?_
            rintro e V17 ⟨rfl, hb⟩
            refine hK _ _ ?_
            clear hK K
            change wpAny _ _ _ _ _ #[true, true, true, true, true, true, true, true, true, true, true, true, true, true, true, true, false, false] ⟨#[.agg #[.string op, .string tag, .slice b k.length c], .slice a n cap, .string s, .pointer (some ⟨w.heap.size, 0, none⟩), undef, undef, .bool false, .pointer (some ⟨w4.heap.size, 0, none⟩), .agg #[.string op, .string tag, .slice b k.length c], .int .i64 q, .bool false, .bool false, .slice a n cap, .int .i64 n, .bool false, .bool false, .bool false, .agg #[.string op, .string tag, .slice b k.length c], .bool false, .bool false, undef, undef, undef, undef, undef, undef, undef, undef, undef, undef, undef, .agg #[.string op, .string tag, .slice b k.length c], .agg #[.string op, .string tag, .slice b4 k.length c4], .agg #[.string op, .string tag, .slice b4 k.length c4], .slice a n cap, .bool true, .bool false, .bool false, .agg #[.string op, .string tag, .slice b4 k.length c4], .slice (some ⟨V11.heap.size, 0, none⟩) 0 0, .slice a n cap, .slice a1 n c1, .string s, .slice (some ⟨g43, 0, none⟩) 1 1, .slice a2 (n + 1) c2, .bool true, .bool true, .bool true, .bool true, undef], []⟩ _
            have HB17 := Lib.hid (HB16.out.trans (hb.mono HB16.out.size))
            clear hb
            refine wpAny_take (i := 16) (v := .bool true) rfl (by kernel_rfl) (by kernel_rfl) (by kernel_rfl) (fun _ _ _ h => h) (Or.inl ⟨by rfl, ?_⟩) ?_
            · intro w
              go_simp
              try with_reducible rfl
            change wpAny _ _ _ _ _ #[true, true, true, true, true, true, true, true, true, true, true, true, true, true, true, true, true, false] ⟨#[.agg #[.string op, .string tag, .slice b k.length c], .slice a n cap, .string s, .pointer (some ⟨w.heap.size, 0, none⟩), undef, undef, .bool false, .pointer (some ⟨w4.heap.size, 0, none⟩), .agg #[.string op, .string tag, .slice b k.length c], .int .i64 q, .bool false, .bool false, .slice a n cap, .int .i64 n, .bool false, .bool false, .bool false, .agg #[.string op, .string tag, .slice b k.length c], .bool false, .bool false, undef, undef, undef, undef, undef, undef, undef, undef, undef, undef, undef, .agg #[.string op, .string tag, .slice b k.length c], .agg #[.string op, .string tag, .slice b4 k.length c4], .agg #[.string op, .string tag, .slice b4 k.length c4], .slice a n cap, .bool true, .bool false, .bool false, .agg #[.string op, .string tag, .slice b4 k.length c4], .slice (some ⟨V11.heap.size, 0, none⟩) 0 0, .slice a n cap, .slice a1 n c1, .string s, .slice (some ⟨g43, 0, none⟩) 1 1, .slice a2 (n + 1) c2, .bool true, .bool true, .bool true, .bool true, .bool true], []⟩ _
            refine wpAny_take (i := 17) (v := .bool true) rfl (by kernel_rfl) (by kernel_rfl) (by kernel_rfl) (fun _ _ _ h => h) (Or.inl ⟨by rfl, ?_⟩) ?_
            · intro w
              go_simp
              try with_reducible rfl
            change wpAny _ _ _ _ _ #[true, true, true, true, true, true, true, true, true, true, true, true, true, true, true, true, true, true] ⟨#[.agg #[.string op, .string tag, .slice b k.length c], .slice a n cap, .string s, .pointer (some ⟨w.heap.size, 0, none⟩), undef, undef, .bool true, .pointer (some ⟨w4.heap.size, 0, none⟩), .agg #[.string op, .string tag, .slice b k.length c], .int .i64 q, .bool false, .bool false, .slice a n cap, .int .i64 n, .bool false, .bool false, .bool false, .agg #[.string op, .string tag, .slice b k.length c], .bool false, .bool false, undef, undef, undef, undef, undef, undef, undef, undef, undef, undef, undef, .agg #[.string op, .string tag, .slice b k.length c], .agg #[.string op, .string tag, .slice b4 k.length c4], .agg #[.string op, .string tag, .slice b4 k.length c4], .slice a n cap, .bool true, .bool false, .bool false, .agg #[.string op, .string tag, .slice b4 k.length c4], .slice (some ⟨V11.heap.size, 0, none⟩) 0 0, .slice a n cap, .slice a1 n c1, .string s, .slice (some ⟨g43, 0, none⟩) 1 1, .slice a2 (n + 1) c2, .bool true, .bool true, .bool true, .bool true, .bool true], []⟩ _
            refine wpAny_done (by kernel_rfl) ?_ _
            go_wp2
            go_ret
            exact ⟨rfl, HB5W.out.trans (HB17.out.mono HB5W.out.size)⟩
    ·
      go_simp
      refine hK _ _ ?_
      clear hK K
      change wpAny _ _ _ _ _ #[true, true, true, true, true, false, false, true, false, true, true, false, false, false, false, false, false, false] ⟨#[.agg #[.string op, .string tag, .slice b k.length c], .slice a n cap, .string s, .pointer (some ⟨w.heap.size, 0, none⟩), undef, undef, .bool false, .pointer (some ⟨w4.heap.size, 0, none⟩), .agg #[.string op, .string tag, .slice b k.length c], .int .i64 q, .bool false, .bool false, .slice a n cap, .int .i64 n, .bool false, .bool false, .bool false, .agg #[.string op, .string tag, .slice b k.length c], .bool false, .bool false, undef, undef, undef, undef, undef, undef, undef, undef, undef, undef, undef, .agg #[.string op, .string tag, .slice b k.length c], .agg #[.string op, .string tag, .slice b4 k.length c4], .agg #[.string op, .string tag, .slice b4 k.length c4], .slice a n cap, .bool true, .bool false, .bool false, undef, undef, .slice a n cap, undef, .string s, .slice (some ⟨V11.heap.size, 0, none⟩) 1 1, undef, undef, undef, undef, undef, undef], []⟩ _
      have HR43 := Lib.hid (row_one V11 s)
      have HB12 := Lib.hid (HB11.out.alloc HB11.out.size (.cells #[.string s] 9))
      generalize V11.alloc (.cells #[.string s] 9) = V12 at *
      generalize V11.heap.size = g43 at *
      have hq12 := (HB12.out.block _ (lt_of_block HQ5.out)).trans HQ5.out
      clear x0 x1 x2
      obtain ⟨⟨x0, x1, x2⟩, -⟩ := three_cells hq12
      refine wpAny_ready (rs := [5, 6]) (by kernel_rfl) (by simp) ?_
      refine AllReady.cons rfl (fun K hK => ?_) (AllReady.cons rfl (fun K hK => ?_) (AllReady.nil))
      ·
        go_simp
        refine hK _ _ ?_
        clear hK K
        change wpAny _ _ _ _ _ #[true, true, true, true, true, true, false, true, false, true, true, false, false, false, false, false, false, false] ⟨#[.agg #[.string op, .string tag, .slice b k.length c], .slice a n cap, .string s, .pointer (some ⟨w.heap.size, 0, none⟩), undef, undef, .bool false, .pointer (some ⟨w4.heap.size, 0, none⟩), .agg #[.string op, .string tag, .slice b k.length c], .int .i64 q, .bool false, .bool false, .slice a n cap, .int .i64 n, .bool false, .bool false, .bool false, .agg #[.string op, .string tag, .slice b k.length c], .bool false, .bool false, undef, undef, undef, undef, undef, undef, undef, undef, undef, undef, undef, .agg #[.string op, .string tag, .slice b k.length c], .agg #[.string op, .string tag, .slice b4 k.length c4], .agg #[.string op, .string tag, .slice b4 k.length c4], .slice a n cap, .bool true, .bool false, .bool false, .agg #[.string op, .string tag, .slice b4 k.length c4], undef, .slice a n cap, undef, .string s, .slice (some ⟨g43, 0, none⟩) 1 1, undef, undef, undef, undef, undef, undef], []⟩ _
        refine wpAny_ready (rs := [6]) (by kernel_rfl) (by simp) ?_
        refine AllReady.cons rfl (fun K hK => ?_) (AllReady.nil)
        go_simp
        refine hK _ _ ?_
        clear hK K
        change wpAny _ _ _ _ _ #[true, true, true, true, true, true, true, true, false, true, true, false, false, false, false, false, false, false] ⟨#[.agg #[.string op, .string tag, .slice b k.length c], .slice a n cap, .string s, .pointer (some ⟨w.heap.size, 0, none⟩), undef, undef, .bool false, .pointer (some ⟨w4.heap.size, 0, none⟩), .agg #[.string op, .string tag, .slice b k.length c], .int .i64 q, .bool false, .bool false, .slice a n cap, .int .i64 n, .bool false, .bool false, .bool false, .agg #[.string op, .string tag, .slice b k.length c], .bool false, .bool false, undef, undef, undef, undef, undef, undef, undef, undef, undef, undef, undef, .agg #[.string op, .string tag, .slice b k.length c], .agg #[.string op, .string tag, .slice b4 k.length c4], .agg #[.string op, .string tag, .slice b4 k.length c4], .slice a n cap, .bool true, .bool false, .bool false, .agg #[.string op, .string tag, .slice b4 k.length c4], .slice (some ⟨V12.heap.size, 0, none⟩) 0 0, .slice a n cap, undef, .string s, .slice (some ⟨g43, 0, none⟩) 1 1, undef, undef, undef, undef, undef, undef], []⟩ _
        have HO0 := Lib.hid (own_none V12 W.heap.size HB12.out.size)
        have HB13 := Lib.hid (HB12.out.alloc HB12.out.size (.cells #[] 9))
        have HNE : Hid (V12.heap.size ≠ g43) := by show _ ≠ _; have := row_lt HR43.out; omega
        replace HR43 := Lib.hid (HR43.out.below ((Below.refl V12.heap.size V12).alloc (Nat.le_refl _) (.cells #[] 9)))
        generalize V12.alloc (.cells #[] 9) = V13 at *
        have hq13 := (HB13.out.block _ (lt_of_block HQ5.out)).trans HQ5.out
        clear x0 x1 x2
        obtain ⟨⟨x0, x1, x2⟩, -⟩ := three_cells hq13
        refine wpAny_ready (rs := [8]) (by kernel_rfl) (by simp) ?_
        refine AllReady.cons rfl (fun K hK => ?_) (AllReady.nil)
        refine step_app_first (by rfl) _ _ rfl W.heap.size _ rfl HO0.out a n cap rfl zs (HZW.out _ HB13.out) HC.out (by have := HN2.out; omega) HB13.out.size ?_
        intro a1 c1 V14 hrow hg
        refine hK _ _ ?_
        clear hK K
        change wpAny _ _ _ _ _ #[true, true, true, true, true, true, true, true, true, true, true, false, false, false, false, false, false, false] ⟨#[.agg #[.string op, .string tag, .slice b k.length c], .slice a n cap, .string s, .pointer (some ⟨w.heap.size, 0, none⟩), undef, undef, .bool false, .pointer (some ⟨w4.heap.size, 0, none⟩), .agg #[.string op, .string tag, .slice b k.length c], .int .i64 q, .bool false, .bool false, .slice a n cap, .int .i64 n, .bool false, .bool false, .bool false, .agg #[.string op, .string tag, .slice b k.length c], .bool false, .bool false, undef, undef, undef, undef, undef, undef, undef, undef, undef, undef, undef, .agg #[.string op, .string tag, .slice b k.length c], .agg #[.string op, .string tag, .slice b4 k.length c4], .agg #[.string op, .string tag, .slice b4 k.length c4], .slice a n cap, .bool true, .bool false, .bool false, .agg #[.string op, .string tag, .slice b4 k.length c4], .slice (some ⟨V12.heap.size, 0, none⟩) 0 0, .slice a n cap, .slice a1 n c1, .string s, .slice (some ⟨g43, 0, none⟩) 1 1, undef, undef, undef, undef, undef, undef], []⟩ _
        have HB14 := Lib.hid (below_grown HB13.out HO0.out hg)
        have HO1 := Lib.hid hrow
        replace HR43 := Lib.hid (HR43.out.grown hg (fun e => HNE.out (Option.some.inj e)))
        clear hrow hg HO0
        have hq14 := (HB14.out.block _ (lt_of_block HQ5.out)).trans HQ5.out
        clear x0 x1 x2
        obtain ⟨⟨x0, x1, x2⟩, -⟩ := three_cells hq14
        refine wpAny_ready (rs := [11]) (by kernel_rfl) (by simp) ?_
        refine AllReady.cons rfl (fun K hK => ?_) (AllReady.nil)
        refine step_app_row (by rfl) _ _ rfl W.heap.size _ n (strV zs) rfl HO1.out _ 1 1 rfl [s] HR43.out (fun e => by cases e) (by have := HN2.out; omega) HB14.out.size ?_
        intro a2 c2 V15 hrow hg
        refine hK _ _ ?_
        clear hK K
        change wpAny _ _ _ _ _ #[true, true, true, true, true, true, true, true, true, true, true, true, false, false, false, false, false, false] ⟨#[.agg #[.string op, .string tag, .slice b k.length c], .slice a n cap, .string s, .pointer (some ⟨w.heap.size, 0, none⟩), undef, undef, .bool false, .pointer (some ⟨w4.heap.size, 0, none⟩), .agg #[.string op, .string tag, .slice b k.length c], .int .i64 q, .bool false, .bool false, .slice a n cap, .int .i64 n, .bool false, .bool false, .bool false, .agg #[.string op, .string tag, .slice b k.length c], .bool false, .bool false, undef, undef, undef, undef, undef, undef, undef, undef, undef, undef, undef, .agg #[.string op, .string tag, .slice b k.length c], .agg #[.string op, .string tag, .slice b4 k.length c4], .agg #[.string op, .string tag, .slice b4 k.length c4], .slice a n cap, .bool true, .bool false, .bool false, .agg #[.string op, .string tag, .slice b4 k.length c4], .slice (some ⟨V12.heap.size, 0, none⟩) 0 0, .slice a n cap, .slice a1 n c1, .string s, .slice (some ⟨g43, 0, none⟩) 1 1, .slice a2 (n + 1) c2, undef, undef, undef, undef, undef], []⟩ _
        have HB15 := Lib.hid (below_grown HB14.out HO1.out hg)
        have HR44 := Lib.hid (own_row2 (HZW.out _ HB15.out).1 hrow)
        clear hrow hg HO1
        have hq15 := (HB15.out.block _ (lt_of_block HQ5.out)).trans HQ5.out
        clear x0 x1 x2
        obtain ⟨⟨x0, x1, x2⟩, -⟩ := three_cells hq15
        refine wpAny_ready (rs := [12]) (by kernel_rfl) (by simp) ?_
        refine AllReady.cons rfl (fun K hK => ?_) (AllReady.nil)
        go_simp
        go_at_call 14
        refine (CH2.out _ HB15.out _ _ HR44.out).mono ?_
        rintro e V16 ⟨rfl, hb⟩
        refine hK _ _ ?_
        clear hK K
        change wpAny _ _ _ _ _ #[true, true, true, true, true, true, true, true, true, true, true, true, true, false, false, false, false, false] ⟨#[.agg #[.string op, .string tag, .slice b k.length c], .slice a n cap, .string s, .pointer (some ⟨w.heap.size, 0, none⟩), undef, undef, .bool false, .pointer (some ⟨w4.heap.size, 0, none⟩), .agg #[.string op, .string tag, .slice b k.length c], .int .i64 q, .bool false, .bool false, .slice a n cap, .int .i64 n, .bool false, .bool false, .bool false, .agg #[.string op, .string tag, .slice b k.length c], .bool false, .bool false, undef, undef, undef, undef, undef, undef, undef, undef, undef, undef, undef, .agg #[.string op, .string tag, .slice b k.length c], .agg #[.string op, .string tag, .slice b4 k.length c4], .agg #[.string op, .string tag, .slice b4 k.length c4], .slice a n cap, .bool true, .bool false, .bool false, .agg #[.string op, .string tag, .slice b4 k.length c4], .slice (some ⟨V12.heap.size, 0, none⟩) 0 0, .slice a n cap, .slice a1 n c1, .string s, .slice (some ⟨g43, 0, none⟩) 1 1, .slice a2 (n + 1) c2, .bool true, undef, undef, undef, undef], []⟩ _
        have HB16 := Lib.hid (HB15.out.trans (hb.mono HB15.out.size))
        clear hb
        refine wpAny_take (i := 13) (v := .bool true) rfl (by kernel_rfl) (by kernel_rfl) (by kernel_rfl) (fun _ _ _ h => h) (Or.inl ⟨by rfl, ?_⟩) ?_
        · intro w
          go_simp
          try with_reducible rfl
        change wpAny _ _ _ _ _ #[true, true, true, true, true, true, true, true, true, true, true, true, true, true, false, false, false, false] ⟨#[.agg #[.string op, .string tag, .slice b k.length c], .slice a n cap, .string s, .pointer (some ⟨w.heap.size, 0, none⟩), undef, undef, .bool false, .pointer (some ⟨w4.heap.size, 0, none⟩), .agg #[.string op, .string tag, .slice b k.length c], .int .i64 q, .bool false, .bool false, .slice a n cap, .int .i64 n, .bool false, .bool false, .bool false, .agg #[.string op, .string tag, .slice b k.length c], .bool false, .bool false, undef, undef, undef, undef, undef, undef, undef, undef, undef, undef, undef, .agg #[.string op, .string tag, .slice b k.length c], .agg #[.string op, .string tag, .slice b4 k.length c4], .agg #[.string op, .string tag, .slice b4 k.length c4], .slice a n cap, .bool true, .bool false, .bool false, .agg #[.string op, .string tag, .slice b4 k.length c4], .slice (some ⟨V12.heap.size, 0, none⟩) 0 0, .slice a n cap, .slice a1 n c1, .string s, .slice (some ⟨g43, 0, none⟩) 1 1, .slice a2 (n + 1) c2, .bool true, .bool true, undef, undef, undef], []⟩ _
        refine wpAny_take (i := 14) (v := .bool true) rfl (by kernel_rfl) (by kernel_rfl) (by kernel_rfl) (fun _ _ _ h => h) (Or.inl ⟨by rfl, ?_⟩) ?_
        · intro w
          go_simp
          try with_reducible rfl
        change wpAny _ _ _ _ _ #[true, true, true, true, true, true, true, true, true, true, true, true, true, true, true, false, false, false] ⟨#[.agg #[.string op, .string tag, .slice b k.length c], .slice a n cap, .string s, .pointer (some ⟨w.heap.size, 0, none⟩), undef, undef, .bool false, .pointer (some ⟨w4.heap.size, 0, none⟩), .agg #[.string op, .string tag, .slice b k.length c], .int .i64 q, .bool false, .bool false, .slice a n cap, .int .i64 n, .bool false, .bool false, .bool false, .agg #[.string op, .string tag, .slice b k.length c], .bool false, .bool false, undef, undef, undef, undef, undef, undef, undef, undef, undef, undef, undef, .agg #[.string op, .string tag, .slice b k.length c], .agg #[.string op, .string tag, .slice b4 k.length c4], .agg #[.string op, .string tag, .slice b4 k.length c4], .slice a n cap, .bool true, .bool false, .bool false, .agg #[.string op, .string tag, .slice b4 k.length c4], .slice (some ⟨V12.heap.size, 0, none⟩) 0 0, .slice a n cap, .slice a1 n c1, .string s, .slice (some ⟨g43, 0, none⟩) 1 1, .slice a2 (n + 1) c2, .bool true, .bool true, .bool true, undef, undef], []⟩ _
        refine wpAny_ready (rs := [15]) (by kernel_rfl) (by simp) ?_
        refine AllReady.cons rfl (fun K hK => ?_) (AllReady.nil)
        go_simp
        go_at_call 17
        refine (awake_any _).mono ?_
        rintro e V17 ⟨rfl, hb⟩
        refine hK _ _ ?_
        clear hK K
        change wpAny _ _ _ _ _ #[true, true, true, true, true, true, true, true, true, true, true, true, true, true, true, true, false, false] ⟨#[.agg #[.string op, .string tag, .slice b k.length c], .slice a n cap, .string s, .pointer (some ⟨w.heap.size, 0, none⟩), undef, undef, .bool false, .pointer (some ⟨w4.heap.size, 0, none⟩), .agg #[.string op, .string tag, .slice b k.length c], .int .i64 q, .bool false, .bool false, .slice a n cap, .int .i64 n, .bool false, .bool false, .bool false, .agg #[.string op, .string tag, .slice b k.length c], .bool false, .bool false, undef, undef, undef, undef, undef, undef, undef, undef, undef, undef, undef, .agg #[.string op, .string tag, .slice b k.length c], .agg #[.string op, .string tag, .slice b4 k.length c4], .agg #[.string op, .string tag, .slice b4 k.length c4], .slice a n cap, .bool true, .bool false, .bool false, .agg #[.string op, .string tag, .slice b4 k.length c4], .slice (some ⟨V12.heap.size, 0, none⟩) 0 0, .slice a n cap, .slice a1 n c1, .string s, .slice (some ⟨g43, 0, none⟩) 1 1, .slice a2 (n + 1) c2, .bool true, .bool true, .bool true, .bool true, undef], []⟩ _
        have HB17 := Lib.hid (HB16.out.trans (hb.mono HB16.out.size))
        clear hb
        refine wpAny_take (i := 16) (v := .bool true) rfl (by kernel_rfl) (by kernel_rfl) (by kernel_rfl) (fun _ _ _ h => h) (Or.inl ⟨by rfl, ?_⟩) ?_
        · intro w
          go_simp
          try with_reducible rfl
        change wpAny _ _ _ _ _ #[true, true, true, true, true, true, true, true, true, true, true, true, true, true, true, true, true, false] ⟨#[.agg #[.string op, .string tag, .slice b k.length c], .slice a n cap, .string s, .pointer (some ⟨w.heap.size, 0, none⟩), undef, undef, .bool false, .pointer (some ⟨w4.heap.size, 0, none⟩), .agg #[.string op, .string tag, .slice b k.length c], .int .i64 q, .bool false, .bool false, .slice a n cap, .int .i64 n, .bool false, .bool false, .bool false, .agg #[.string op, .string tag, .slice b k.length c], .bool false, .bool false, undef, undef, undef, undef, undef, undef, undef, undef, undef, undef, undef, .agg #[.string op, .string tag, .slice b k.length c], .agg #[.string op, .string tag, .slice b4 k.length c4], .agg #[.string op, .string tag, .slice b4 k.length c4], .slice a n cap, .bool true, .bool false, .bool false, .agg #[.string op, .string tag, .slice b4 k.length c4], .slice (some ⟨V12.heap.size, 0, none⟩) 0 0, .slice a n cap, .slice a1 n c1, .string s, .slice (some ⟨g43, 0, none⟩) 1 1, .slice a2 (n + 1) c2, .bool true, .bool true, .bool true, .bool true, .bool true], []⟩ _
        refine wpAny_take (i := 17) (v := .bool true) rfl (by kernel_rfl) (by kernel_rfl) (by kernel_rfl) (fun _ _ _ h => h) (Or.inl ⟨by rfl, ?_⟩) ?_
        · intro w
          go_simp
          try with_reducible rfl
        change wpAny _ _ _ _ _ #[true, true, true, true, true, true, true, true, true, true, true, true, true, true, true, true, true, true] ⟨#[.agg #[.string op, .string tag, .slice b k.length c], .slice a n cap, .string s, .pointer (some ⟨w.heap.size, 0, none⟩), undef, undef, .bool true, .pointer (some ⟨w4.heap.size, 0, none⟩), .agg #[.string op, .string tag, .slice b k.length c], .int .i64 q, .bool false, .bool false, .slice a n cap, .int .i64 n, .bool false, .bool false, .bool false, .agg #[.string op, .string tag, .slice b k.length c], .bool false, .bool false, undef, undef, undef, undef, undef, undef, undef, undef, undef, undef, undef, .agg #[.string op, .string tag, .slice b k.length c], .agg #[.string op, .string tag, .slice b4 k.length c4], .agg #[.string op, .string tag, .slice b4 k.length c4], .slice a n cap, .bool true, .bool false, .bool false, .agg #[.string op, .string tag, .slice b4 k.length c4], .slice (some ⟨V12.heap.size, 0, none⟩) 0 0, .slice a n cap, .slice a1 n c1, .string s, .slice (some ⟨g43, 0, none⟩) 1 1, .slice a2 (n + 1) c2, .bool true, .bool true, .bool true, .bool true, .bool true], []⟩ _
        refine wpAny_done (by kernel_rfl) ?_ _
        go_wp2
        go_ret
        exact ⟨rfl, HB5W.out.trans (HB17.out.mono HB5W.out.size)⟩
      ·
        go_simp
        refine hK _ _ ?_
        clear hK K
        change wpAny _ _ _ _ _ #[true, true, true, true, true, false, true, true, false, true, true, false, false, false, false, false, false, false] ⟨#[.agg #[.string op, .string tag, .slice b k.length c], .slice a n cap, .string s, .pointer (some ⟨w.heap.size, 0, none⟩), undef, undef, .bool false, .pointer (some ⟨w4.heap.size, 0, none⟩), .agg #[.string op, .string tag, .slice b k.length c], .int .i64 q, .bool false, .bool false, .slice a n cap, .int .i64 n, .bool false, .bool false, .bool false, .agg #[.string op, .string tag, .slice b k.length c], .bool false, .bool false, undef, undef, undef, undef, undef, undef, undef, undef, undef, undef, undef, .agg #[.string op, .string tag, .slice b k.length c], .agg #[.string op, .string tag, .slice b4 k.length c4], .agg #[.string op, .string tag, .slice b4 k.length c4], .slice a n cap, .bool true, .bool false, .bool false, undef, .slice (some ⟨V12.heap.size, 0, none⟩) 0 0, .slice a n cap, undef, .string s, .slice (some ⟨g43, 0, none⟩) 1 1, undef, undef, undef, undef, undef, undef], []⟩ _
        have HO0 := Lib.hid (own_none V12 W.heap.size HB12.out.size)
        have HB13 := Lib.hid (HB12.out.alloc HB12.out.size (.cells #[] 9))
        have HNE : Hid (V12.heap.size ≠ g43) := by show _ ≠ _; have := row_lt HR43.out; omega
        replace HR43 := Lib.hid (HR43.out.below ((Below.refl V12.heap.size V12).alloc (Nat.le_refl _) (.cells #[] 9)))
        generalize V12.alloc (.cells #[] 9) = V13 at *
        have hq13 := (HB13.out.block _ (lt_of_block HQ5.out)).trans HQ5.out
        clear x0 x1 x2
        obtain ⟨⟨x0, x1, x2⟩, -⟩ := three_cells hq13
        refine wpAny_ready (rs := [5, 8]) (by kernel_rfl) (by simp) ?_
        refine AllReady.cons rfl (fun K hK => ?_) (AllReady.cons rfl (fun K hK => ?_) (AllReady.nil))
        ·
          go_simp
          refine hK _ _ ?_
          clear hK K
          change wpAny _ _ _ _ _ #[true, true, true, true, true, true, true, true, false, true, true, false, false, false, false, false, false, false] ⟨#[.agg #[.string op, .string tag, .slice b k.length c], .slice a n cap, .string s, .pointer (some ⟨w.heap.size, 0, none⟩), undef, undef, .bool false, .pointer (some ⟨w4.heap.size, 0, none⟩), .agg #[.string op, .string tag, .slice b k.length c], .int .i64 q, .bool false, .bool false, .slice a n cap, .int .i64 n, .bool false, .bool false, .bool false, .agg #[.string op, .string tag, .slice b k.length c], .bool false, .bool false, undef, undef, undef, undef, undef, undef, undef, undef, undef, undef, undef, .agg #[.string op, .string tag, .slice b k.length c], .agg #[.string op, .string tag, .slice b4 k.length c4], .agg #[.string op, .string tag, .slice b4 k.length c4], .slice a n cap, .bool true, .bool false, .bool false, .agg #[.string op, .string tag, .slice b4 k.length c4], .slice (some ⟨V12.heap.size, 0, none⟩) 0 0, .slice a n cap, undef, .string s, .slice (some ⟨g43, 0, none⟩) 1 1, undef, undef, undef, undef, undef, undef], []⟩ _
          refine wpAny_ready (rs := [8]) (by kernel_rfl) (by simp) ?_
          refine AllReady.cons rfl (fun K hK => ?_) (AllReady.nil)
          refine step_app_first (by rfl) _ _ rfl W.heap.size _ rfl HO0.out a n cap rfl zs (HZW.out _ HB13.out) HC.out (by have := HN2.out; omega) HB13.out.size ?_
          intro a1 c1 V14 hrow hg
          refine hK _ _ ?_
          clear hK K
          change wpAny _ _ _ _ _ #[true, true, true, true, true, true, true, true, true, true, true, false, false, false, false, false, false, false] ⟨#[.agg #[.string op, .string tag, .slice b k.length c], .slice a n cap, .string s, .pointer (some ⟨w.heap.size, 0, none⟩), undef, undef, .bool false, .pointer (some ⟨w4.heap.size, 0, none⟩), .agg #[.string op, .string tag, .slice b k.length c], .int .i64 q, .bool false, .bool false, .slice a n cap, .int .i64 n, .bool false, .bool false, .bool false, .agg #[.string op, .string tag, .slice b k.length c], .bool false, .bool false, undef, undef, undef, undef, undef, undef, undef, undef, undef, undef, undef, .agg #[.string op, .string tag, .slice b k.length c], .agg #[.string op, .string tag, .slice b4 k.length c4], .agg #[.string op, .string tag, .slice b4 k.length c4], .slice a n cap, .bool true, .bool false, .bool false, .agg #[.string op, .string tag, .slice b4 k.length c4], .slice (some ⟨V12.heap.size, 0, none⟩) 0 0, .slice a n cap, .slice a1 n c1, .string s, .slice (some ⟨g43, 0, none⟩) 1 1, undef, undef, undef, undef, undef, undef], []⟩ _
          have HB14 := Lib.hid (below_grown HB13.out HO0.out hg)
          have HO1 := Lib.hid hrow
          replace HR43 := Lib.hid (HR43.out.grown hg (fun e => HNE.out (Option.some.inj e)))
          clear hrow hg HO0
          have hq14 := (HB14.out.block _ (lt_of_block HQ5.out)).trans HQ5.out
          clear x0 x1 x2
          obtain ⟨⟨x0, x1, x2⟩, -⟩ := three_cells hq14
          refine wpAny_ready (rs := [11]) (by kernel_rfl) (by simp) ?_
          refine AllReady.cons rfl (fun K hK => ?_) (AllReady.nil)
          refine step_app_row (by rfl) _ _ rfl W.heap.size _ n (strV zs) rfl HO1.out _ 1 1 rfl [s] HR43.out (fun e => by cases e) (by have := HN2.out; omega) HB14.out.size ?_
          intro a2 c2 V15 hrow hg
          refine hK _ _ ?_
          clear hK K
          change wpAny _ _ _ _ _ #[true, true, true, true, true, true, true, true, true, true, true, true, false, false, false, false, false, false] ⟨#[.agg #[.string op, .string tag, .slice b k.length c], .slice a n cap, .string s, .pointer (some ⟨w.heap.size, 0, none⟩), undef, undef, .bool false, .pointer (some ⟨w4.heap.size, 0, none⟩), .agg #[.string op, .string tag, .slice b k.length c], .int .i64 q, .bool false, .bool false, .slice a n cap, .int .i64 n, .bool false, .bool false, .bool false, .agg #[.string op, .string tag, .slice b k.length c], .bool false, .bool false, undef, undef, undef, undef, undef, undef, undef, undef, undef, undef, undef, .agg #[.string op, .string tag, .slice b k.length c], .agg #[.string op, .string tag, .slice b4 k.length c4], .agg #[.string op, .string tag, .slice b4 k.length c4], .slice a n cap, .bool true, .bool false, .bool false, .agg #[.string op, .string tag, .slice b4 k.length c4], .slice (some ⟨V12.heap.size, 0, none⟩) 0 0, .slice a n cap, .slice a1 n c1, .string s, .slice (some ⟨g43, 0, none⟩) 1 1, .slice a2 (n + 1) c2, undef, undef, undef, undef, undef], []⟩ _
          have HB15 := Lib.hid (below_grown HB14.out HO1.out hg)
          have HR44 := Lib.hid (own_row2 (HZW.out _ HB15.out).1 hrow)
          clear hrow hg HO1
          have hq15 := (HB15.out.block _ (lt_of_block HQ5.out)).trans HQ5.out
          clear x0 x1 x2
          obtain ⟨⟨x0, x1, x2⟩, -⟩ := three_cells hq15
          refine wpAny_ready (rs := [12]) (by kernel_rfl) (by simp) ?_
          refine AllReady.cons rfl (fun K hK => ?_) (AllReady.nil)
          go_simp
          go_at_call 14
          refine (CH2.out _ HB15.out _ _ HR44.out).mono ?_
          rintro e V16 ⟨rfl, hb⟩
          refine hK _ _ ?_
          clear hK K
          change wpAny _ _ _ _ _ #[true, true, true, true, true, true, true, true, true, true, true, true, true, false, false, false, false, false] ⟨#[.agg #[.string op, .string tag, .slice b k.length c], .slice a n cap, .string s, .pointer (some ⟨w.heap.size, 0, none⟩), undef, undef, .bool false, .pointer (some ⟨w4.heap.size, 0, none⟩), .agg #[.string op, .string tag, .slice b k.length c], .int .i64 q, .bool false, .bool false, .slice a n cap, .int .i64 n, .bool false, .bool false, .bool false, .agg #[.string op, .string tag, .slice b k.length c], .bool false, .bool false, undef, undef, undef, undef, undef, undef, undef, undef, undef, undef, undef, .agg #[.string op, .string tag, .slice b k.length c], .agg #[.string op, .string tag, .slice b4 k.length c4], .agg #[.string op, .string tag, .slice b4 k.length c4], .slice a n cap, .bool true, .bool false, .bool false, .agg #[.string op, .string tag, .slice b4 k.length c4], .slice (some ⟨V12.heap.size, 0, none⟩) 0 0, .slice a n cap, .slice a1 n c1, .string s, .slice (some ⟨g43, 0, none⟩) 1 1, .slice a2 (n + 1) c2, .bool true, undef, undef, undef, undef], []⟩ _
          have HB16 := Lib.hid (HB15.out.trans (hb.mono HB15.out.size))
          clear hb
          refine wpAny_take (i := 13) (v := .bool true) rfl (by kernel_rfl) (by kernel_rfl) (by kernel_rfl) (fun _ _ _ h => h) (Or.inl ⟨by rfl, ?_⟩) ?_
          · intro w
            go_simp
            try with_reducible rfl
          change wpAny _ _ _ _ _ #[true, true, true, true, true, true, true, true, true, true, true, true, true, true, false, false, false, false] ⟨#[.agg #[.string op, .string tag, .slice b k.length c], .slice a n cap, .string s, .pointer (some ⟨w.heap.size, 0, none⟩), undef, undef, .bool false, .pointer (some ⟨w4.heap.size, 0, none⟩), .agg #[.string op, .string tag, .slice b k.length c], .int .i64 q, .bool false, .bool false, .slice a n cap, .int .i64 n, .bool false, .bool false, .bool false, .agg #[.string op, .string tag, .slice b k.length c], .bool false, .bool false, undef, undef, undef, undef, undef, undef, undef, undef, undef, undef, undef, .agg #[.string op, .string tag, .slice b k.length c], .agg #[.string op, .string tag, .slice b4 k.length c4], .agg #[.string op, .string tag, .slice b4 k.length c4], .slice a n cap, .bool true, .bool false, .bool false, .agg #[.string op, .string tag, .slice b4 k.length c4], .slice (some ⟨V12.heap.size, 0, none⟩) 0 0, .slice a n cap, .slice a1 n c1, .string s, .slice (some ⟨g43, 0, none⟩) 1 1, .slice a2 (n + 1) c2, .bool true, .bool true, undef, undef, undef], []⟩ _
          refine wpAny_take (i := 14) (v := .bool true) rfl (by kernel_rfl) (by kernel_rfl) (by kernel_rfl) (fun _ _ _ h => h) (Or.inl ⟨by rfl, ?_⟩) ?_
          · intro w
            go_simp
            try with_reducible rfl
          change wpAny _ _ _ _ _ #[true, true, true, true, true, true, true, true, true, true, true, true, true, true, true, false, false, false] ⟨#[.agg #[.string op, .string tag, .slice b k.length c], .slice a n cap, .string s, .pointer (some ⟨w.heap.size, 0, none⟩), undef, undef, .bool false, .pointer (some ⟨w4.heap.size, 0, none⟩), .agg #[.string op, .string tag, .slice b k.length c], .int .i64 q, .bool false, .bool false, .slice a n cap, .int .i64 n, .bool false, .bool false, .bool false, .agg #[.string op, .string tag, .slice b k.length c], .bool false, .bool false, undef, undef, undef, undef, undef, undef, undef, undef, undef, undef, undef, .agg #[.string op, .string tag, .slice b k.length c], .agg #[.string op, .string tag, .slice b4 k.length c4], .agg #[.string op, .string tag, .slice b4 k.length c4], .slice a n cap, .bool true, .bool false, .bool false, .agg #[.string op, .string tag, .slice b4 k.length c4], .slice (some ⟨V12.heap.size, 0, none⟩) 0 0, .slice a n cap, .slice a1 n c1, .string s, .slice (some ⟨g43, 0, none⟩) 1 1, .slice a2 (n + 1) c2, .bool true, .bool true, .bool true, undef, undef], []⟩ _
          refine wpAny_ready (rs := [15]) (by kernel_rfl) (by simp) ?_
          refine AllReady.cons rfl (fun K hK => ?_) (AllReady.nil)
          go_simp
          go_at_call 17
          refine (awake_any _).mono ?_
          rintro e V17 ⟨rfl, hb⟩
          refine hK _ _ ?_
          clear hK K
          change wpAny _ _ _ _ _ #[true, true, true, true, true, true, true, true, true, true, true, true, true, true, true, true, false, false] ⟨#[.agg #[.string op, .string tag, .slice b k.length c], .slice a n cap, .string s, .pointer (some ⟨w.heap.size, 0, none⟩), undef, undef, .bool false, .pointer (some ⟨w4.heap.size, 0, none⟩), .agg #[.string op, .string tag, .slice b k.length c], .int .i64 q, .bool false, .bool false, .slice a n cap, .int .i64 n, .bool false, .bool false, .bool false, .agg #[.string op, .string tag, .slice b k.length c], .bool false, .bool false, undef, undef, undef, undef, undef, undef, undef, undef, undef, undef, undef, .agg #[.string op, .string tag, .slice b k.length c], .agg #[.string op, .string tag, .slice b4 k.length c4], .agg #[.string op, .string tag, .slice b4 k.length c4], .slice a n cap, .bool true, .bool false, .bool false, .agg #[.string op, .string tag, .slice b4 k.length c4], .slice (some ⟨V12.heap.size, 0, none⟩) 0 0, .slice a n cap, .slice a1 n c1, .string s, .slice (some ⟨g43, 0, none⟩) 1 1, .slice a2 (n + 1) c2, .bool true, .bool true, .bool true, .bool true, undef], []⟩ _
          have HB17 := Lib.hid (HB16.out.trans (hb.mono HB16.out.size))
          clear hb
          refine wpAny_take (i := 16) (v := .bool true) rfl (by kernel_rfl) (by kernel_rfl) (by kernel_rfl) (fun _ _ _ h => h) (Or.inl ⟨by rfl, ?_⟩) ?_
          · intro w
            go_simp
            try with_reducible rfl
          change wpAny _ _ _ _ _ #[true, true, true, true, true, true, true, true, true, true, true, true, true, true, true, true, true, false] ⟨#[.agg #[.string op, .string tag, .slice b k.length c], .slice a n cap, .string s, .pointer (some ⟨w.heap.size, 0, none⟩), undef, undef, .bool false, .pointer (some ⟨w4.heap.size, 0, none⟩), .agg #[.string op, .string tag, .slice b k.length c], .int .i64 q, .bool false, .bool false, .slice a n cap, .int .i64 n, .bool false, .bool false, .bool false, .agg #[.string op, .string tag, .slice b k.length c], .bool false, .bool false, undef, undef, undef, undef, undef, undef, undef, undef, undef, undef, undef, .agg #[.string op, .string tag, .slice b k.length c], .agg #[.string op, .string tag, .slice b4 k.length c4], .agg #[.string op, .string tag, .slice b4 k.length c4], .slice a n cap, .bool true, .bool false, .bool false, .agg #[.string op, .string tag, .slice b4 k.length c4], .slice (some ⟨V12.heap.size, 0, none⟩) 0 0, .slice a n cap, .slice a1 n c1, .string s, .slice (some ⟨g43, 0, none⟩) 1 1, .slice a2 (n + 1) c2, .bool true, .bool true, .bool true, .bool true, .bool true], []⟩ _
          refine wpAny_take (i := 17) (v := .bool true) rfl (by kernel_rfl) (by kernel_rfl) (by kernel_rfl) (fun _ _ _ h => h) (Or.inl ⟨by rfl, ?_⟩) ?_
          · intro w
            go_simp
            try with_reducible rfl
          change wpAny _ _ _ _ _ #[true, true, true, true, true, true, true, true, true, true, true, true, true, true, true, true, true, true] ⟨#[.agg #[.string op, .string tag, .slice b k.length c], .slice a n cap, .string s, .pointer (some ⟨w.heap.size, 0, none⟩), undef, undef, .bool true, .pointer (some ⟨w4.heap.size, 0, none⟩), .agg #[.string op, .string tag, .slice b k.length c], .int .i64 q, .bool false, .bool false, .slice a n cap, .int .i64 n, .bool false, .bool false, .bool false, .agg #[.string op, .string tag, .slice b k.length c], .bool false, .bool false, undef, undef, undef, undef, undef, undef, undef, undef, undef, undef, undef, .agg #[.string op, .string tag, .slice b k.length c], .agg #[.string op, .string tag, .slice b4 k.length c4], .agg #[.string op, .string tag, .slice b4 k.length c4], .slice a n cap, .bool true, .bool false, .bool false, .agg #[.string op, .string tag, .slice b4 k.length c4], .slice (some ⟨V12.heap.size, 0, none⟩) 0 0, .slice a n cap, .slice a1 n c1, .string s, .slice (some ⟨g43, 0, none⟩) 1 1, .slice a2 (n + 1) c2, .bool true, .bool true, .bool true, .bool true, .bool true], []⟩ _
          refine wpAny_done (by kernel_rfl) ?_ _
          go_wp2
          go_ret
          exact ⟨rfl, HB5W.out.trans (HB17.out.mono HB5W.out.size)⟩
        ·
          refine step_app_first (by rfl) _ _ rfl W.heap.size _ rfl HO0.out a n cap rfl zs (HZW.out _ HB13.out) HC.out (by have := HN2.out; omega) HB13.out.size ?_
          intro a1 c1 V14 hrow hg
          refine hK _ _ ?_
          clear hK K
          change wpAny _ _ _ _ _ #[true, true, true, true, true, false, true, true, true, true, true, false, false, false, false, false, false, false] ⟨#[.agg #[.string op, .string tag, .slice b k.length c], .slice a n cap, .string s, .pointer (some ⟨w.heap.size, 0, none⟩), undef, undef, .bool false, .pointer (some ⟨w4.heap.size, 0, none⟩), .agg #[.string op, .string tag, .slice b k.length c], .int .i64 q, .bool false, .bool false, .slice a n cap, .int .i64 n, .bool false, .bool false, .bool false, .agg #[.string op, .string tag, .slice b k.length c], .bool false, .bool false, undef, undef, undef, undef, undef, undef, undef, undef, undef, undef, undef, .agg #[.string op, .string tag, .slice b k.length c], .agg #[.string op, .string tag, .slice b4 k.length c4], .agg #[.string op, .string tag, .slice b4 k.length c4], .slice a n cap, .bool true, .bool false, .bool false, undef, .slice (some ⟨V12.heap.size, 0, none⟩) 0 0, .slice a n cap, .slice a1 n c1, .string s, .slice (some ⟨g43, 0, none⟩) 1 1, undef, undef, undef, undef, undef, undef], []⟩ _
          have HB14 := Lib.hid (below_grown HB13.out HO0.out hg)
          have HO1 := Lib.hid hrow
          replace HR43 := Lib.hid (HR43.out.grown hg (fun e => HNE.out (Option.some.inj e)))
          clear hrow hg HO0
          have hq14 := (HB14.out.block _ (lt_of_block HQ5.out)).trans HQ5.out
          clear x0 x1 x2
          obtain ⟨⟨x0, x1, x2⟩, -⟩ := three_cells hq14
          refine wpAny_ready (rs := [5, 11]) (by kernel_rfl) (by simp) ?_
          refine AllReady.cons rfl (fun K hK => ?_) (AllReady.cons rfl (fun K hK => ?_) (AllReady.nil))
          ·
            go_simp
            refine hK _ _ ?_
            clear hK K
            change wpAny _ _ _ _ _ #[true, true, true, true, true, true, true, true, true, true, true, false, false, false, false, false, false, false] ⟨#[.agg #[.string op, .string tag, .slice b k.length c], .slice a n cap, .string s, .pointer (some ⟨w.heap.size, 0, none⟩), undef, undef, .bool false, .pointer (some ⟨w4.heap.size, 0, none⟩), .agg #[.string op, .string tag, .slice b k.length c], .int .i64 q, .bool false, .bool false, .slice a n cap, .int .i64 n, .bool false, .bool false, .bool false, .agg #[.string op, .string tag, .slice b k.length c], .bool false, .bool false, undef, undef, undef, undef, undef, undef, undef, undef, undef, undef, undef, .agg #[.string op, .string tag, .slice b k.length c], .agg #[.string op, .string tag, .slice b4 k.length c4], .agg #[.string op, .string tag, .slice b4 k.length c4], .slice a n cap, .bool true, .bool false, .bool false, .agg #[.string op, .string tag, .slice b4 k.length c4], .slice (some ⟨V12.heap.size, 0, none⟩) 0 0, .slice a n cap, .slice a1 n c1, .string s, .slice (some ⟨g43, 0, none⟩) 1 1, undef, undef, undef, undef, undef, undef], []⟩ _
            refine wpAny_ready (rs := [11]) (by kernel_rfl) (by simp) ?_
            refine AllReady.cons rfl (fun K hK => ?_) (AllReady.nil)
            refine step_app_row (by rfl) _ _ rfl W.heap.size _ n (strV zs) rfl HO1.out _ 1 1 rfl [s] HR43.out (fun e => by cases e) (by have := HN2.out; omega) HB14.out.size ?_
            intro a2 c2 V15 hrow hg
            refine hK _ _ ?_
            clear hK K
            change wpAny _ _ _ _ _ #[true, true, true, true, true, true, true, true, true, true, true, true, false, false, false, false, false, false] ⟨#[.agg #[.string op, .string tag, .slice b k.length c], .slice a n cap, .string s, .pointer (some ⟨w.heap.size, 0, none⟩), undef, undef, .bool false, .pointer (some ⟨w4.heap.size, 0, none⟩), .agg #[.string op, .string tag, .slice b k.length c], .int .i64 q, .bool false, .bool false, .slice a n cap, .int .i64 n, .bool false, .bool false, .bool false, .agg #[.string op, .string tag, .slice b k.length c], .bool false, .bool false, undef, undef, undef, undef, undef, undef, undef, undef, undef, undef, undef, .agg #[.string op, .string tag, .slice b k.length c], .agg #[.string op, .string tag, .slice b4 k.length c4], .agg #[.string op, .string tag, .slice b4 k.length c4], .slice a n cap, .bool true, .bool false, .bool false, .agg #[.string op, .string tag, .slice b4 k.length c4], .slice (some ⟨V12.heap.size, 0, none⟩) 0 0, .slice a n cap, .slice a1 n c1, .string s, .slice (some ⟨g43, 0, none⟩) 1 1, .slice a2 (n + 1) c2, undef, undef, undef, undef, undef], []⟩ _
            have HB15 := Lib.hid (below_grown HB14.out HO1.out hg)
            have HR44 := Lib.hid (own_row2 (HZW.out _ HB15.out).1 hrow)
            clear hrow hg HO1
            have hq15 := (HB15.out.block _ (lt_of_block HQ5.out)).trans HQ5.out
            clear x0 x1 x2
            obtain ⟨⟨x0, x1, x2⟩, -⟩ := three_cells hq15
            refine wpAny_ready (rs := [12]) (by kernel_rfl) (by simp) ?_
            refine AllReady.cons rfl (fun K hK => ?_) (AllReady.nil)
            go_simp
            go_at_call 14
            refine (CH2.out _ HB15.out _ _ HR44.out).mono ?_
            rintro e V16 ⟨rfl, hb⟩
            refine hK _ _ ?_
            clear hK K
            change wpAny _ _ _ _ _ #[true, true, true, true, true, true, true, true, true, true, true, true, true, false, false, false, false, false] ⟨#[.agg #[.string op, .string tag, .slice b k.length c], .slice a n cap, .string s, .pointer (some ⟨w.heap.size, 0, none⟩), undef, undef, .bool false, .pointer (some ⟨w4.heap.size, 0, none⟩), .agg #[.string op, .string tag, .slice b k.length c], .int .i64 q, .bool false, .bool false, .slice a n cap, .int .i64 n, .bool false, .bool false, .bool false, .agg #[.string op, .string tag, .slice b k.length c], .bool false, .bool false, undef, undef, undef, undef, undef, undef, undef, undef, undef, undef, undef, .agg #[.string op, .string tag, .slice b k.length c], .agg #[.string op, .string tag, .slice b4 k.length c4], .agg #[.string op, .string tag, .slice b4 k.length c4], .slice a n cap, .bool true, .bool false, .bool false, .agg #[.string op, .string tag, .slice b4 k.length c4], .slice (some ⟨V12.heap.size, 0, none⟩) 0 0, .slice a n cap, .slice a1 n c1, .string s, .slice (some ⟨g43, 0, none⟩) 1 1, .slice a2 (n + 1) c2, .bool true, undef, undef, undef, undef], []⟩ _
            have HB16 := Lib.hid (HB15.out.trans (hb.mono HB15.out.size))
            clear hb
            refine wpAny_take (i := 13) (v := .bool true) rfl (by kernel_rfl) (by kernel_rfl) (by kernel_rfl) (fun _ _ _ h => h) (Or.inl ⟨by rfl, ?_⟩) ?_
            · intro w
              go_simp
              try with_reducible rfl
            change wpAny _ _ _ _ _ #[true, true, true, true, true, true, true, true, true, true, true, true, true, true, false, false, false, false] ⟨#[.agg #[.string op, .string tag, .slice b k.length c], .slice a n cap, .string s, .pointer (some ⟨w.heap.size, 0, none⟩), undef, undef, .bool false, .pointer (some ⟨w4.heap.size, 0, none⟩), .agg #[.string op, .string tag, .slice b k.length c], .int .i64 q, .bool false, .bool false, .slice a n cap, .int .i64 n, .bool false, .bool false, .bool false, .agg #[.string op, .string tag, .slice b k.length c], .bool false, .bool false, undef, undef, undef, undef, undef, undef, undef, undef, undef, undef, undef, .agg #[.string op, .string tag, .slice b k.length c], .agg #[.string op, .string tag, .slice b4 k.length c4], .agg #[.string op, .string tag, .slice b4 k.length c4], .slice a n cap, .bool true, .bool false, .bool false, .agg #[.string op, .string tag, .slice b4 k.length c4], .slice (some ⟨V12.heap.size, 0, none⟩) 0 0, .slice a n cap, .slice a1 n c1, .string s, .slice (some ⟨g43, 0, none⟩) 1 1, .slice a2 (n + 1) c2, .bool true, .bool true, undef, undef, undef], []⟩ _
            refine wpAny_take (i := 14) (v := .bool true) rfl (by kernel_rfl) (by kernel_rfl) (by kernel_rfl) (fun _ _ _ h => h) (Or.inl ⟨by rfl, ?_⟩) ?_
            · intro w
              go_simp
              try with_reducible rfl
            change wpAny _ _ _ _ _ #[true, true, true, true, true, true, true, true, true, true, true, true, true, true, true, false, false, false] ⟨#[.agg #[.string op, .string tag, .slice b k.length c], .slice a n cap, .string s, .pointer (some ⟨w.heap.size, 0, none⟩), undef, undef, .bool false, .pointer (some ⟨w4.heap.size, 0, none⟩), .agg #[.string op, .string tag, .slice b k.length c], .int .i64 q, .bool false, .bool false, .slice a n cap, .int .i64 n, .bool false, .bool false, .bool false, .agg #[.string op, .string tag, .slice b k.length c], .bool false, .bool false, undef, undef, undef, undef, undef, undef, undef, undef, undef, undef, undef, .agg #[.string op, .string tag, .slice b k.length c], .agg #[.string op, .string tag, .slice b4 k.length c4], .agg #[.string op, .string tag, .slice b4 k.length c4], .slice a n cap, .bool true, .bool false, .bool false, .agg #[.string op, .string tag, .slice b4 k.length c4], .slice (some ⟨V12.heap.size, 0, none⟩) 0 0, .slice a n cap, .slice a1 n c1, .string s, .slice (some ⟨g43, 0, none⟩) 1 1, .slice a2 (n + 1) c2, .bool true, .bool true, .bool true, undef, undef], []⟩ _
            refine wpAny_ready (rs := [15]) (by kernel_rfl) (by simp) ?_
            refine AllReady.cons rfl (fun K hK => ?_) (AllReady.nil)
            go_simp
            go_at_call 17
            refine (awake_any _).mono ?_
            rintro e V17 ⟨rfl, hb⟩
            refine hK _ _ ?_
            clear hK K
            change wpAny _ _ _ _ _ #[true, true, true, true, true, true, true, true, true, true, true, true, true, true, true, true, false, false] ⟨#[.agg #[.string op, .string tag, .slice b k.length c], .slice a n cap, .string s, .pointer (some ⟨w.heap.size, 0, none⟩), undef, undef, .bool false, .pointer (some ⟨w4.heap.size, 0, none⟩), .agg #[.string op, .string tag, .slice b k.length c], .int .i64 q, .bool false, .bool false, .slice a n cap, .int .i64 n, .bool false, .bool false, .bool false, .agg #[.string op, .string tag, .slice b k.length c], .bool false, .bool false, undef, undef, undef, undef, undef, undef, undef, undef, undef, undef, undef, .agg #[.string op, .string tag, .slice b k.length c], .agg #[.string op, .string tag, .slice b4 k.length c4], .agg #[.string op, .string tag, .slice b4 k.length c4], .slice a n cap, .bool true, .bool false, .bool false, .agg #[.string op, .string tag, .slice b4 k.length c4], .slice (some ⟨V12.heap.size, 0, none⟩) 0 0, .slice a n cap, .slice a1 n c1, .string s, .slice (some ⟨g43, 0, none⟩) 1 1, .slice a2 (n + 1) c2, .bool true, .bool true, .bool true, .bool true, undef], []⟩ _
            have HB17 := Lib.hid (HB16.out.trans (hb.mono HB16.out.size))
            clear hb
            refine wpAny_take (i := 16) (v := .bool true) rfl (by kernel_rfl) (by kernel_rfl) (by kernel_rfl) (fun _ _ _ h => h) (Or.inl ⟨by rfl, ?_⟩) ?_
            · intro w
              go_simp
              try with_reducible rfl
            change wpAny _ _ _ _ _ #[true, true, true, true, true, true, true, true, true, true, true, true, true, true, true, true, true, false] ⟨#[.agg #[.string op, .string tag, .slice b k.length c], .slice a n cap, .string s, .pointer (some ⟨w.heap.size, 0, none⟩), undef, undef, .bool false, .pointer (some ⟨w4.heap.size, 0, none⟩), .agg #[.string op, .string tag, .slice b k.length c], .int .i64 q, .bool false, .bool false, .slice a n cap, .int .i64 n, .bool false, .bool false, .bool false, .agg #[.string op, .string tag, .slice b k.length c], .bool false, .bool false, undef, undef, undef, undef, undef, undef, undef, undef, undef, undef, undef, .agg #[.string op, .string tag, .slice b k.length c], .agg #[.string op, .string tag, .slice b4 k.length c4], .agg #[.string op, .string tag, .slice b4 k.length c4], .slice a n cap, .bool true, .bool false, .bool false, .agg #[.string op, .string tag, .slice b4 k.length c4], .slice (some ⟨V12.heap.size, 0, none⟩) 0 0, .slice a n cap, .slice a1 n c1, .string s, .slice (some ⟨g43, 0, none⟩) 1 1, .slice a2 (n + 1) c2, .bool true, .bool true, .bool true, .bool true, .bool true], []⟩ _
            refine wpAny_take (i := 17) (v := .bool true) rfl (by kernel_rfl) (by kernel_rfl) (by kernel_rfl) (fun _ _ _ h => h) (Or.inl ⟨by rfl, ?_⟩) ?_
            · intro w
              go_simp
              try with_reducible rfl
            change wpAny _ _ _ _ _ #[true, true, true, true, true, true, true, true, true, true, true, true, true, true, true, true, true, true] ⟨#[.agg #[.string op, .string tag, .slice b k.length c], .slice a n cap, .string s, .pointer (some ⟨w.heap.size, 0, none⟩), undef, undef, .bool true, .pointer (some ⟨w4.heap.size, 0, none⟩), .agg #[.string op, .string tag, .slice b k.length c], .int .i64 q, .bool false, .bool false, .slice a n cap, .int .i64 n, .bool false, .bool false, .bool false, .agg #[.string op, .string tag, .slice b k.length c], .bool false, .bool false, undef, undef, undef, undef, undef, undef, undef, undef, undef, undef, undef, .agg #[.string op, .string tag, .slice b k.length c], .agg #[.string op, .string tag, .slice b4 k.length c4], .agg #[.string op, .string tag, .slice b4 k.length c4], .slice a n cap, .bool true, .bool false, .bool false, .agg #[.string op, .string tag, .slice b4 k.length c4], .slice (some ⟨V12.heap.size, 0, none⟩) 0 0, .slice a n cap, .slice a1 n c1, .string s, .slice (some ⟨g43, 0, none⟩) 1 1, .slice a2 (n + 1) c2, .bool true, .bool true, .bool true, .bool true, .bool true], []⟩ _
            refine wpAny_done (by kernel_rfl) ?_ _
            go_wp2
            go_ret
            exact ⟨rfl, HB5W.out.trans (HB17.out.mono HB5W.out.size)⟩
          ·
            refine step_app_row (by rfl) _ _ rfl W.heap.size _ n (strV zs) rfl HO1.out _ 1 1 rfl [s] HR43.out (fun e => by cases e) (by have := HN2.out; omega) HB14.out.size ?_
            intro a2 c2 V15 hrow hg
            refine hK _ _ ?_
            clear hK K
            change wpAny _ _ _ _ _ #[true, true, true, true, true, false, true, true, true, true, true, true, false, false, false, false, false, false] ⟨#[.agg #[.string op, .string tag, .slice b k.length c], .slice a n cap, .string s, .pointer (some ⟨w.heap.size, 0, none⟩), undef, undef, .bool false, .pointer (some ⟨w4.heap.size, 0, none⟩), .agg #[.string op, .string tag, .slice b k.length c], .int .i64 q, .bool false, .bool false, .slice a n cap, .int .i64 n, .bool false, .bool false, .bool false, .agg #[.string op, .string tag, .slice b k.length c], .bool false, .bool false, undef, undef, undef, undef, undef, undef, undef, undef, undef, undef, undef, .agg #[.string op, .string tag, .slice b k.length c], .agg #[.string op, .string tag, .slice b4 k.length c4], .agg #[.string op, .string tag, .slice b4 k.length c4], .slice a n cap, .bool true, .bool false, .bool false, undef, .slice (some ⟨V12.heap.size, 0, none⟩) 0 0, .slice a n cap, .slice a1 n c1, .string s, .slice (some ⟨g43, 0, none⟩) 1 1, .slice a2 (n + 1) c2, undef, undef, undef, undef, undef], []⟩ _
            have HB15 := Lib.hid (below_grown HB14.out HO1.out hg)
            have HR44 := Lib.hid (own_row2 (HZW.out _ HB15.out).1 hrow)
            clear hrow hg HO1
            have hq15 := (HB15.out.block _ (lt_of_block HQ5.out)).trans HQ5.out
            clear x0 x1 x2
            obtain ⟨⟨x0, x1, x2⟩, -⟩ := three_cells hq15
            refine wpAny_ready (rs := [5]) (by kernel_rfl) (by simp) ?_
            refine AllReady.cons rfl (fun K hK => ?_) (AllReady.nil)
            go_simp
            refine hK _ _ ?_
            clear hK K
            change wpAny _ _ _ _ _ #[true, true, true, true, true, true, true, true, true, true, true, true, false, false, false, false, false, false] ⟨#[.agg #[.string op, .string tag, .slice b k.length c], .slice a n cap, .string s, .pointer (some ⟨w.heap.size, 0, none⟩), undef, undef, .bool false, .pointer (some ⟨w4.heap.size, 0, none⟩), .agg #[.string op, .string tag, .slice b k.length c], .int .i64 q, .bool false, .bool false, .slice a n cap, .int .i64 n, .bool false, .bool false, .bool false, .agg #[.string op, .string tag, .slice b k.length c], .bool false, .bool false, undef, undef, undef, undef, undef, undef, undef, undef, undef, undef, undef, .agg #[.string op, .string tag, .slice b k.length c], .agg #[.string op, .string tag, .slice b4 k.length c4], .agg #[.string op, .string tag, .slice b4 k.length c4], .slice a n cap, .bool true, .bool false, .bool false, .agg #[.string op, .string tag, .slice b4 k.length c4], .slice (some ⟨V12.heap.size, 0, none⟩) 0 0, .slice a n cap, .slice a1 n c1, .string s, .slice (some ⟨g43, 0, none⟩) 1 1, .slice a2 (n + 1) c2, undef, undef, undef, undef, undef], []⟩ _
            refine wpAny_ready (rs := [12]) (by kernel_rfl) (by simp) ?_
            refine AllReady.cons rfl (fun K hK => ?_) (AllReady.nil)
            go_simp
            go_at_call 14
            refine (CH2.out _ HB15.out _ _ HR44.out).mono ?_
            rintro e V16 ⟨rfl, hb⟩
            refine hK _ _ ?_
            clear hK K
            change wpAny _ _ _ _ _ #[true, true, true, true, true, true, true, true, true, true, true, true, true, false, false, false, false, false] ⟨#[.agg #[.string op, .string tag, .slice b k.length c], .slice a n cap, .string s, .pointer (some ⟨w.heap.size, 0, none⟩), undef, undef, .bool false, .pointer (some ⟨w4.heap.size, 0, none⟩), .agg #[.string op, .string tag, .slice b k.length c], .int .i64 q, .bool false, .bool false, .slice a n cap, .int .i64 n, .bool false, .bool false, .bool false, .agg #[.string op, .string tag, .slice b k.length c], .bool false, .bool false, undef, undef, undef, undef, undef, undef, undef, undef, undef, undef, undef, .agg #[.string op, .string tag, .slice b k.length c], .agg #[.string op, .string tag, .slice b4 k.length c4], .agg #[.string op, .string tag, .slice b4 k.length c4], .slice a n cap, .bool true, .bool false, .bool false, .agg #[.string op, .string tag, .slice b4 k.length c4], .slice (some ⟨V12.heap.size, 0, none⟩) 0 0, .slice a n cap, .slice a1 n c1, .string s, .slice (some ⟨g43, 0, none⟩) 1 1, .slice a2 (n + 1) c2, .bool true, undef, undef, undef, undef], []⟩ _
            have HB16 := Lib.hid (HB15.out.trans (hb.mono HB15.out.size))
            clear hb
            refine wpAny_take (i := 13) (v := .bool true) rfl (by kernel_rfl) (by kernel_rfl) (by kernel_rfl) (fun _ _ _ h => h) (Or.inl ⟨by rfl, ?_⟩) ?_
            · intro w
              go_simp
              try with_reducible rfl
            change wpAny _ _ _ _ _ #[true, true, true, true, true, true, true, true, true, true, true, true, true, true, false, false, false, false] ⟨#[.agg #[.string op, .string tag, .slice b k.length c], .slice a n cap, .string s, .pointer (some ⟨w.heap.size, 0, none⟩), undef, undef, .bool false, .pointer (some ⟨w4.heap.size, 0, none⟩), .agg #[.string op, .string tag, .slice b k.length c], .int .i64 q, .bool false, .bool false, .slice a n cap, .int .i64 n, .bool false, .bool false, .bool false, .agg #[.string op, .string tag, .slice b k.length c], .bool false, .bool false, undef, undef, undef, undef, undef, undef, undef, undef, undef, undef, undef, .agg #[.string op, .string tag, .slice b k.length c], .agg #[.string op, .string tag, .slice b4 k.length c4], .agg #[.string op, .string tag, .slice b4 k.length c4], .slice a n cap, .bool true, .bool false, .bool false, .agg #[.string op, .string tag, .slice b4 k.length c4], .slice (some ⟨V12.heap.size, 0, none⟩) 0 0, .slice a n cap, .slice a1 n c1, .string s, .slice (some ⟨g43, 0, none⟩) 1 1, .slice a2 (n + 1) c2, .bool true, .bool true, undef, undef, undef], []⟩ _
            refine wpAny_take (i := 14) (v := .bool true) rfl (by kernel_rfl) (by kernel_rfl) (by kernel_rfl) (fun _ _ _ h => h) (Or.inl ⟨by rfl, ?_⟩) ?_
            · intro w
              go_simp
              try with_reducible rfl
            change wpAny _ _ _ _ _ #[true, true, true, true, true, true, true, true, true, true, true, true, true, true, true, false, false, false] ⟨#[.agg #[.string op, .string tag, .slice b k.length c], .slice a n cap, .string s, .pointer (some ⟨w.heap.size, 0, none⟩), undef, undef, .bool false, .pointer (some ⟨w4.heap.size, 0, none⟩), .agg #[.string op, .string tag, .slice b k.length c], .int .i64 q, .bool false, .bool false, .slice a n cap, .int .i64 n, .bool false, .bool false, .bool false, .agg #[.string op, .string tag, .slice b k.length c], .bool false, .bool false, undef, undef, undef, undef, undef, undef, undef, undef, undef, undef, undef, .agg #[.string op, .string tag, .slice b k.length c], .agg #[.string op, .string tag, .slice b4 k.length c4], .agg #[.string op, .string tag, .slice b4 k.length c4], .slice a n cap, .bool true, .bool false, .bool false, .agg #[.string op, .string tag, .slice b4 k.length c4], .slice (some ⟨V12.heap.size, 0, none⟩) 0 0, .slice a n cap, .slice a1 n c1, .string s, .slice (some ⟨g43, 0, none⟩) 1 1, .slice a2 (n + 1) c2, .bool true, .bool true, .bool true, undef, undef], []⟩ _
            refine wpAny_ready (rs := [15]) (by kernel_rfl) (by simp) ?_
            refine AllReady.cons rfl (fun K hK => ?_) (AllReady.nil)
            go_simp
            go_at_call 17
            refine (awake_any _).mono ?_
            rintro e V17 ⟨rfl, hb⟩
            refine hK _ _ ?_
            clear hK K
            change wpAny _ _ _ _ _ #[true, true, true, true, true, true, true, true, true, true, true, true, true, true, true, true, false, false] ⟨#[.agg #[.string op, .string tag, .slice b k.length c], .slice a n cap, .string s, .pointer (some ⟨w.heap.size, 0, none⟩), undef, undef, .bool false, .pointer (some ⟨w4.heap.size, 0, none⟩), .agg #[.string op, .string tag, .slice b k.length c], .int .i64 q, .bool false, .bool false, .slice a n cap, .int .i64 n, .bool false, .bool false, .bool false, .agg #[.string op, .string tag, .slice b k.length c], .bool false, .bool false, undef, undef, undef, undef, undef, undef, undef, undef, undef, undef, undef, .agg #[.string op, .string tag, .slice b k.length c], .agg #[.string op, .string tag, .slice b4 k.length c4], .agg #[.string op, .string tag, .slice b4 k.length c4], .slice a n cap, .bool true, .bool false, .bool false, .agg #[.string op, .string tag, .slice b4 k.length c4], .slice (some ⟨V12.heap.size, 0, none⟩) 0 0, .slice a n cap, .slice a1 n c1, .string s, .slice (some ⟨g43, 0, none⟩) 1 1, .slice a2 (n + 1) c2, .bool true, .bool true, .bool true, .bool true, undef], []⟩ _
            have HB17 := Lib.hid (HB16.out.trans (hb.mono HB16.out.size))
            clear hb
            refine wpAny_take (i := 16) (v := .bool true) rfl (by kernel_rfl) (by kernel_rfl) (by kernel_rfl) (fun _ _ _ h => h) (Or.inl ⟨by rfl, ?_⟩) ?_
            · intro w
              go_simp
              try with_reducible rfl
            change wpAny _ _ _ _ _ #[true, true, true, true, true, true, true, true, true, true, true, true, true, true, true, true, true, false] ⟨#[.agg #[.string op, .string tag, .slice b k.length c], .slice a n cap, .string s, .pointer (some ⟨w.heap.size, 0, none⟩), undef, undef, .bool false, .pointer (some ⟨w4.heap.size, 0, none⟩), .agg #[.string op, .string tag, .slice b k.length c], .int .i64 q, .bool false, .bool false, .slice a n cap, .int .i64 n, .bool false, .bool false, .bool false, .agg #[.string op, .string tag, .slice b k.length c], .bool false, .bool false, undef, undef, undef, undef, undef, undef, undef, undef, undef, undef, undef, .agg #[.string op, .string tag, .slice b k.length c], .agg #[.string op, .string tag, .slice b4 k.length c4], .agg #[.string op, .string tag, .slice b4 k.length c4], .slice a n cap, .bool true, .bool false, .bool false, .agg #[.string op, .string tag, .slice b4 k.length c4], .slice (some ⟨V12.heap.size, 0, none⟩) 0 0, .slice a n cap, .slice a1 n c1, .string s, .slice (some ⟨g43, 0, none⟩) 1 1, .slice a2 (n + 1) c2, .bool true, .bool true, .bool true, .bool true, .bool true], []⟩ _
            refine wpAny_take (i := 17) (v := .bool true) rfl (by kernel_rfl) (by kernel_rfl) (by kernel_rfl) (fun _ _ _ h => h) (Or.inl ⟨by rfl, ?_⟩) ?_
            · intro w
              go_simp
              try with_reducible rfl
            change wpAny _ _ _ _ _ #[true, true, true, true, true, true, true, true, true, true, true, true, true, true, true, true, true, true] ⟨#[.agg #[.string op, .string tag, .slice b k.length c], .slice a n cap, .string s, .pointer (some ⟨w.heap.size, 0, none⟩), undef, undef, .bool true, .pointer (some ⟨w4.heap.size, 0, none⟩), .agg #[.string op, .string tag, .slice b k.length c], .int .i64 q, .bool false, .bool false, .slice a n cap, .int .i64 n, .bool false, .bool false, .bool false, .agg #[.string op, .string tag, .slice b k.length c], .bool false, .bool false, undef, undef, undef, undef, undef, undef, undef, undef, undef, undef, undef, .agg #[.string op, .string tag, .slice b k.length c], .agg #[.string op, .string tag, .slice b4 k.length c4], .agg #[.string op, .string tag, .slice b4 k.length c4], .slice a n cap, .bool true, .bool false, .bool false, .agg #[.string op, .string tag, .slice b4 k.length c4], .slice (some ⟨V12.heap.size, 0, none⟩) 0 0, .slice a n cap, .slice a1 n c1, .string s, .slice (some ⟨g43, 0, none⟩) 1 1, .slice a2 (n + 1) c2, .bool true, .bool true, .bool true, .bool true, .bool true], []⟩ _
            refine wpAny_done (by kernel_rfl) ?_ _
            go_wp2
            go_ret
            exact ⟨rfl, HB5W.out.trans (HB17.out.mono HB5W.out.size)⟩

theorem more_walk (x : Ex) (v : Value) (w : World) (ok : Nat → Prop) (hb : bulkE x ≤ 1048576) (hx : ExtAt w ok x v) (a : Option Addr) (n cap : Nat) (zs : List ByteArray) (hz : TagRow w a n zs) (hc : a = none → cap = 0) (s : ByteArray) :
    Calls Tryd.prog 7 #[v, .slice a n cap, .string s] w fun e w' => e = .returned (.bool true) ∧ Below w.heap.size w w' := by
  by_cases h1 : 200 < nodesE x
  · exact more_long x v w ok hb hx a n cap s (.inl h1)
  by_cases h2 : 20 < n
  · exact more_long x v w ok hb hx a n cap s (.inr (.inl ⟨by omega, h2⟩))
  cases hd : deniesE x with
  | true => exact more_long x v w ok hb hx a n cap s (.inr (.inr ⟨by omega, by omega, hd⟩))
  | false => exact more_go x v w ok hb hx a n cap zs hz hc s (by omega) (by omega) hd
end Go.Proofs.YtojdhlmmnhjolaaDoor
