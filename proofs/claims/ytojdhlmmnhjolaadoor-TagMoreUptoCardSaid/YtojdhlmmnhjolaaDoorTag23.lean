/- TagLists: in whatever order tags are given, and however often (made by tools/gentag23.py). -/
import Derived.Test.YtojdhlmmnhjolaaDoorTag20
import Derived.Test.YtojdhlmmnhjolaaDoorTagU
import Derived.Test.YtojdhlmmnhjolaaDoorTagF
namespace Go.Proofs.YtojdhlmmnhjolaaDoor
open Go.RowKit
set_option linter.unusedVariables false

/-- What is handed back behind j rounds. -/
def backL (zs : List ByteArray) : Nat → List ByteArray
  | 0 => []
  | j + 1 => backL zs j ++ [zs.getD (zs.length - 1 - j) ByteArray.empty, zs.getD (zs.length - 1 - j) ByteArray.empty]
theorem backL_len (zs : List ByteArray) : ∀ j, (backL zs j).length = 2 * j
  | 0 => rfl
  | j + 1 => by rw [backL, List.length_append, backL_len zs j]; simp; omega
theorem backL_mem (zs : List ByteArray) (t : ByteArray) : ∀ j, j ≤ zs.length → (t ∈ backL zs j ↔ ∃ i, zs.length - j ≤ i ∧ i < zs.length ∧ zs.getD i ByteArray.empty = t)
  | 0, h => by
    rw [backL]
    constructor
    · intro h; cases h
    · rintro ⟨i, h1, h2, _⟩; omega
  | j + 1, h => by
    rw [backL, List.mem_append, backL_mem zs t j (by omega)]
    constructor
    · rintro (⟨i, h1, h2, h3⟩ | h1)
      · exact ⟨i, by omega, h2, h3⟩
      · have : t = zs.getD (zs.length - 1 - j) ByteArray.empty := by simpa using h1
        exact ⟨zs.length - 1 - j, by omega, by omega, this.symm⟩
    · rintro ⟨i, h1, h2, h3⟩
      by_cases e : i = zs.length - 1 - j
      · right
        subst e
        rw [h3]; simp
      · exact .inl ⟨i, by omega, h2, h3⟩
theorem backL_all (zs : List ByteArray) : Lib.containsS (backL zs zs.length) = Lib.containsS zs := by
  funext t
  rw [Bool.eq_iff_iff, Lib.containsS_iff, Lib.containsS_iff, backL_mem zs t _ (Nat.le_refl _), List.mem_iff_getElem]
  constructor
  · rintro ⟨i, _, h2, h3⟩
    exact ⟨i, h2, by rw [← h3, List.getD, List.getElem?_eq_getElem h2]; rfl⟩
  · rintro ⟨i, h2, h3⟩
    exact ⟨i, by omega, h2, by rw [List.getD, List.getElem?_eq_getElem h2]; exact h3⟩
def strV (zs : List ByteArray) : List Value := zs.map Value.string
theorem info_str : (Tryd.prog.info? 9).map (fun i => (i.zero, i.size, i.bytes)) = some (some (.string ⟨#[]⟩), 1, 16) := by kernel_rfl
theorem cell_two (w : World) (x y : Value) (t : TypeId) : ∀ j u, [x, y][j]? = some u → (w.alloc (.cells #[x, y] t)).cell? ((⟨w.heap.size, 0, none⟩ : Addr).add j) = some u := by
  intro j u hj
  match j, hj with
  | 0, hj => simp at hj; subst hj; simp [Addr.add]
  | 1, hj => simp at hj; subst hj; simp [Addr.add]
  | (j + 2), hj => simp at hj
/-- A row of texts of the call's own, as tags. -/
theorem own_tags {w : World} {base : Nat} {v : Value} {zs : List ByteArray} (h : w.ownsRow base 9 1 v zs.length (strV zs)) : ∃ a cap, v = .slice a zs.length cap ∧ TagRow w a zs.length zs := by
  rcases h.2 with ⟨rfl, h0⟩ | ⟨g, cap, cur, rfl, hbg, hgg, _⟩
  · exact ⟨none, 0, by rw [h0], rfl, .inl h0⟩
  · refine ⟨_, cap, rfl, rfl, .inr ⟨g, 0, rfl, (h.lt g rfl).2, fun j hj => ?_⟩⟩
    have := h.cellAt j (by omega)
    rw [Nat.zero_add, this]
    simp [strV, List.getD, hj]
theorem step_app_two {ops : Array Oper} {o : Oper} {act : Act} {K : Act → World → Prop} {Q : Exit → Act → World → Prop} {E : Prop} {w : World} (hgd : o.guard = none) (x y : Operand)
    (ho : o.op = .call { callee := .builtin .append, args := #[x, y], argTypes := #[25, 25] }) (base : Nat) (v : Value) (n : Nat) (xs : List Value) (hs : act.eval x = v) {s1 s2 : ByteArray}
    (hown : w.ownsRow base 9 1 v n xs)
    (hy : act.eval y = .slice (some ⟨w.heap.size, 0, none⟩) 2 2) (hn : n ≤ 3000000) (hbase : base ≤ w.heap.size)
    (h : ∀ g cap w', w'.ownsRow base 9 1 (.slice (some ⟨g, 0, none⟩) (n + 2) cap) (n + 2) (xs ++ [.string s1, .string s2]) → (w.alloc (.cells #[.string s1, .string s2] 9)).grownBy w' v.ownBlock → K (act.put o.dst (.slice (some ⟨g, 0, none⟩) (n + 2) cap)) w') :
    if Region.wanted o (yielded ops act.tmps) = true then Oper.wp Tryd.prog o act (w.alloc (.cells #[.string s1, .string s2] 9)) K Q else E := by
  obtain ⟨i0, hi, hz0, hz1, hz2⟩ := info_parts info_str
  have hown' : (w.alloc (.cells #[.string s1, .string s2] 9)).ownsRow base 9 1 v n xs :=
    hown.kept (row := none) ⟨rfl, rfl, rfl, by simp, fun k hk _ => heap_alloc_old _ _ hk⟩ (by by_cases e : v.ownBlock = none; exact .inl e; exact .inr e)
  refine step_append_lies (P := Tryd.prog) _ hgd x y 25 ho base 9 i0 (.string ⟨#[]⟩) 1 16 Tryd.underlying25 hi hz0 hz1 hz2 rfl (by decide) v n xs hs hown' ⟨w.heap.size, 0, none⟩ 2 2 [.string s1, .string s2] hy rfl (cell_two _ _ _ _) (fun u hu => ?_) (by decide) (by unfold maxLen; omega) (by omega) (by simp; omega) (w.heap.size + 1) (by simp) (fun g cap w' h1 h2 h3 h4 => h g cap w' h1 h2)
  simp at hu
  rcases hu with rfl | rfl <;> rfl
theorem grown_below {w wr w3 : World} {v : Value} {n base : Nat} {T : TypeId} {xs : List Value} {O : Obj} (hb : Below w.heap.size w wr) (hr : wr.ownsRow base T 1 v n xs) (hg : (wr.drew.alloc O).grownBy w3 v.ownBlock) (hbase : w.heap.size + 1 = base := by rfl) : Hid (Below w.heap.size w w3) := by
  have hsz := hg.size
  have hsb := hb.size
  rw [World.size_alloc] at hsz
  have hz : wr.drew.heap.size = wr.heap.size := rfl
  refine ⟨hg.os.trans hb.os, hg.tape.trans hb.tape, hg.output.trans hb.output, by omega, fun i hi => ?_⟩
  refine ((hg.block i (by rw [World.size_alloc]; omega) (fun e => ?_)).trans (heap_alloc_old _ _ (by omega))).trans (hb.block i hi)
  have := (hr.lt i e.symm).1
  omega
theorem grown_block {w wr w3 : World} {v : Value} {n base : Nat} {T : TypeId} {xs : List Value} {O X : Obj} (hr : wr.ownsRow base T 1 v n xs) (hg : (wr.drew.alloc O).grownBy w3 v.ownBlock) (hq : wr.heap[w.heap.size]? = some X) (hbase : w.heap.size + 1 = base := by rfl) : Hid (w3.heap[w.heap.size]? = some X) := by
  have hlt := lt_of_block hq
  have hz : wr.drew.heap.size = wr.heap.size := rfl
  show _ = _
  refine ((hg.block _ (by rw [World.size_alloc]; omega) (fun e => ?_)).trans (heap_alloc_old _ _ (by omega))).trans hq
  have := (hr.lt _ e.symm).1
  omega

set_option maxRecDepth 100000 in
theorem lists_long (x : Ex) (v : Value) (w : World) (ok : Nat → Prop) (hb : bulkE x ≤ 1048576) (hx : ExtAt w ok x v) (a : Option Addr) (n cap : Nat) (hl : 200 < nodesE x ∨ 20 < n) :
    Calls Tryd.prog 9 #[v, .slice a n cap] w fun e w' => e = .returned (.bool true) ∧ Below w.heap.size w w' := by
  obtain ⟨op, tag, k⟩ := x
  have hx' := hx
  rw [ExtAt_eq] at hx'
  obtain ⟨b, c, rfl, hk⟩ := hx'
  have hW1 := (Below.refl w.heap.size w).alloc (Nat.le_refl _) (.cells #[.string op, .string tag, .slice b k.length c] 24)
  obtain ⟨⟨d0, d1, d2⟩, -⟩ := three_cells (heap_alloc_new w (.cells #[.string op, .string tag, .slice b k.length c] 24))
  have c1 := size_any (.mk op tag k) (.agg #[.string op, .string tag, .slice b k.length c]) _ ok hb (by rw [ExtAt_eq]; exact ⟨b, c, rfl, hk.below hW1⟩)
  have HW1 := Lib.hid hW1
  clear hW1 hx hk hb
  generalize nodesE (.mk op tag k) = q at *
  by_cases h1 : 200 < q
  · have g1 : decide ((200 : Int) < (q : Int)) = true := by simp; omega
    clear hl
    go_enter Tryd.func9, Tryd.ntmps9
    go_wp2_with fail
    refine c1.mono ?_
    rintro e w2 ⟨rfl, hb2⟩
    go_wp2
    go_ret
    exact ⟨rfl, HW1.out.trans (hb2.mono HW1.out.size)⟩
  · have g1 : decide ((200 : Int) < (q : Int)) = false := by simp; omega
    have g2 : decide ((20 : Int) < (n : Int)) = true := by simp; omega
    clear hl
    go_enter Tryd.func9, Tryd.ntmps9
    go_wp2_with fail
    refine c1.mono ?_
    rintro e w2 ⟨rfl, hb2⟩
    go_wp2
    go_ret
    exact ⟨rfl, HW1.out.trans (hb2.mono HW1.out.size)⟩

set_option maxHeartbeats 4000000 in
set_option maxRecDepth 100000 in
theorem lists_go (x : Ex) (v : Value) (w : World) (ok : Nat → Prop) (hb : bulkE x ≤ 1048576) (hx : ExtAt w ok x v) (a : Option Addr) (n cap : Nat) (zs : List ByteArray) (hz : TagRow w a n zs) (hl1 : nodesE x ≤ 200) (hl2 : n ≤ 20) :
    Calls Tryd.prog 9 #[v, .slice a n cap] w fun e w' => e = .returned (.bool true) ∧ Below w.heap.size w w' := by
  obtain ⟨op, tag, k⟩ := x
  have hx' := hx
  rw [ExtAt_eq] at hx'
  obtain ⟨b, c, rfl, hk⟩ := hx'
  have hW1 := (Below.refl w.heap.size w).alloc (Nat.le_refl _) (.cells #[.string op, .string tag, .slice b k.length c] 24)
  have hq := heap_alloc_new w (.cells #[.string op, .string tag, .slice b k.length c] 24)
  obtain ⟨⟨d0, d1, d2⟩, -⟩ := three_cells hq
  have c1 := size_any (.mk op tag k) (.agg #[.string op, .string tag, .slice b k.length c]) _ ok hb (by rw [ExtAt_eq]; exact ⟨b, c, rfl, hk.below hW1⟩)
  have HW1 := Lib.hid hW1
  have HQ := Lib.hid hq
  have HSM := Lib.hid (small_bulk _ hb)
  have COF := Lib.hid (fun W (h : Below w.heap.size w W) => of_any (.mk op tag k) (.agg #[.string op, .string tag, .slice b k.length c]) W ok hb (by rw [ExtAt_eq]; exact ⟨b, c, rfl, hk.below h⟩))
  have HTG := Lib.hid (fun W (h : Below w.heap.size w W) => (hz.below h).ok cap (by omega))
  have HZ := Lib.hid hz
  have g1 : decide ((200 : Int) < (nodesE (.mk op tag k) : Int)) = false := by simp; omega
  have g2 : decide ((20 : Int) < (n : Int)) = false := by simp; omega
  clear hW1 hx hk hb hq hz hl1
  generalize nodesE (.mk op tag k) = q at *
  go_enter Tryd.func9, Tryd.ntmps9
  go_wp2_with fail
  refine c1.mono ?_
  rintro e w2 ⟨rfl, hb2⟩
  have HB2 := Lib.hid (HW1.out.trans (hb2.mono HW1.out.size))
  have HQ2 := Lib.hid ((hb2.block _ (lt_of_block HQ.out)).trans HQ.out)
  clear hb2 c1 d0 d1 d2
  go_wp2_with fail
  go_loopw [5, 6] (fun s5 s6 wr => ∃ (j : Nat), s6 = .int .i64 ((n : Int) - 1 - j) ∧ j ≤ n ∧ Hid (Below w.heap.size w wr) ∧ Hid (wr.heap[w.heap.size]? = some (.cells #[.string op, .string tag, .slice b k.length c] 24 (0, 0))) ∧ Hid (wr.ownsRow (w.heap.size + 1) 9 1 s5 (2 * j) (strV (backL zs j))))
    (fun s5 s6 wr => (intOf s6 + 1).toNat)
  case atStart =>
    exact ⟨0, by go_num, Nat.zero_le _, HB2, HQ2, ⟨rfl, .inl ⟨rfl, rfl⟩⟩⟩
  case round =>
    obtain ⟨j, rfl, hj, HB, HQR, HR⟩ := hrel
    by_cases hlt : j < n
    · obtain ⟨p, hp⟩ : ∃ p : Nat, (n : Int) - 1 - (j : Int) = (p : Int) := ⟨n - 1 - j, by omega⟩
      have hpn : p < n := by omega
      have hpj : p = n - 1 - j := by omega
      obtain ⟨hzl, h0 | ⟨b2, off2, rfl, hlt2, hc⟩⟩ := HZ.out
      · omega
      have kc := (HB.out.cell (p := ⟨b2, off2 + p, none⟩) hlt2).trans (hc p hpn)
      have HBK : Hid (backL zs (j + 1) = backL zs j ++ [zs.getD p ByteArray.empty, zs.getD p ByteArray.empty]) := by show _ = _; rw [backL, hzl, ← hpj]
      have HPN := Lib.hid (show (n : Int) - 1 - (j : Int) = (p : Int) from hp)
      have HRD : Hid (wr.drew.ownsRow (w.heap.size + 1) 9 1 u5 (2 * j) (strV (backL zs j))) := HR.out
      clear hc hpj
      rw [hp]
      clear hp
      generalize zs.getD p ByteArray.empty = t at *
      go_wp2_with fail
      refine wp_region_any (by kernel_rfl) ?_
      change wpAny _ _ _ _ _ _ _ (World.drew _)
      change wpAny _ _ _ _ _ #[false, false, false, false, false, false, false, false, false, false, false, false] ⟨#[.agg #[.string op, .string tag, .slice b k.length c], .slice (some ⟨b2, off2, none⟩) n cap, .pointer (some ⟨w.heap.size, 0, none⟩), undef, .bool false, u5, .int .i64 p, .agg #[.string op, .string tag, .slice b k.length c], .int .i64 q, .bool false, .bool false, .slice (some ⟨b2, off2, none⟩) n cap, .int .i64 n, .bool false, .bool false, .slice (some ⟨b2, off2, none⟩) n cap, .int .i64 n, .int .i64 ((n : Int) - 1), .int .i64 p, .bool true, u20, u21, u22, u23, u24, u25, u26, u27, u28, u29, u30, u31, u32, undef, undef, undef, undef, undef, undef, undef, undef, undef, undef, undef, undef], []⟩ _
      refine wpAny_take (i := 0) (v := u5) rfl (by kernel_rfl) (by kernel_rfl) (by kernel_rfl) (fun _ _ _ h => h) (Or.inl ⟨by rfl, ?_⟩) ?_
      · intro w
        go_simp
        try with_reducible rfl
      change wpAny _ _ _ _ _ #[true, false, false, false, false, false, false, false, false, false, false, false] ⟨#[.agg #[.string op, .string tag, .slice b k.length c], .slice (some ⟨b2, off2, none⟩) n cap, .pointer (some ⟨w.heap.size, 0, none⟩), undef, .bool false, u5, .int .i64 p, .agg #[.string op, .string tag, .slice b k.length c], .int .i64 q, .bool false, .bool false, .slice (some ⟨b2, off2, none⟩) n cap, .int .i64 n, .bool false, .bool false, .slice (some ⟨b2, off2, none⟩) n cap, .int .i64 n, .int .i64 ((n : Int) - 1), .int .i64 p, .bool true, u20, u21, u5, u23, u24, u25, u26, u27, u28, u29, u30, u31, u32, undef, undef, undef, undef, undef, undef, undef, undef, undef, undef, undef, undef], []⟩ _
      refine wpAny_take (i := 1) (v := .slice (some ⟨b2, off2, none⟩) n cap) rfl (by kernel_rfl) (by kernel_rfl) (by kernel_rfl) (fun _ _ _ h => h) (Or.inl ⟨by rfl, ?_⟩) ?_
      · intro w
        go_simp
        try with_reducible rfl
      change wpAny _ _ _ _ _ #[true, true, false, false, false, false, false, false, false, false, false, false] ⟨#[.agg #[.string op, .string tag, .slice b k.length c], .slice (some ⟨b2, off2, none⟩) n cap, .pointer (some ⟨w.heap.size, 0, none⟩), undef, .bool false, u5, .int .i64 p, .agg #[.string op, .string tag, .slice b k.length c], .int .i64 q, .bool false, .bool false, .slice (some ⟨b2, off2, none⟩) n cap, .int .i64 n, .bool false, .bool false, .slice (some ⟨b2, off2, none⟩) n cap, .int .i64 n, .int .i64 ((n : Int) - 1), .int .i64 p, .bool true, u20, u21, u5, .slice (some ⟨b2, off2, none⟩) n cap, u24, u25, u26, u27, u28, u29, u30, u31, u32, undef, undef, undef, undef, undef, undef, undef, undef, undef, undef, undef, undef], []⟩ _
      refine wpAny_take (i := 2) (v := .int .i64 p) rfl (by kernel_rfl) (by kernel_rfl) (by kernel_rfl) (fun _ _ _ h => h) (Or.inl ⟨by rfl, ?_⟩) ?_
      · intro w
        go_simp
        try with_reducible rfl
      change wpAny _ _ _ _ _ #[true, true, true, false, false, false, false, false, false, false, false, false] ⟨#[.agg #[.string op, .string tag, .slice b k.length c], .slice (some ⟨b2, off2, none⟩) n cap, .pointer (some ⟨w.heap.size, 0, none⟩), undef, .bool false, u5, .int .i64 p, .agg #[.string op, .string tag, .slice b k.length c], .int .i64 q, .bool false, .bool false, .slice (some ⟨b2, off2, none⟩) n cap, .int .i64 n, .bool false, .bool false, .slice (some ⟨b2, off2, none⟩) n cap, .int .i64 n, .int .i64 ((n : Int) - 1), .int .i64 p, .bool true, u20, u21, u5, .slice (some ⟨b2, off2, none⟩) n cap, .int .i64 p, u25, u26, u27, u28, u29, u30, u31, u32, undef, undef, undef, undef, undef, undef, undef, undef, undef, undef, undef, undef], []⟩ _
      refine wpAny_take (i := 3) (v := .pointer (some ⟨b2, off2 + p, none⟩)) rfl (by kernel_rfl) (by kernel_rfl) (by kernel_rfl) (fun _ _ _ h => h) (Or.inl ⟨by rfl, ?_⟩) ?_
      · intro w
        go_simp
        try with_reducible rfl
      change wpAny _ _ _ _ _ #[true, true, true, true, false, false, false, false, false, false, false, false] ⟨#[.agg #[.string op, .string tag, .slice b k.length c], .slice (some ⟨b2, off2, none⟩) n cap, .pointer (some ⟨w.heap.size, 0, none⟩), undef, .bool false, u5, .int .i64 p, .agg #[.string op, .string tag, .slice b k.length c], .int .i64 q, .bool false, .bool false, .slice (some ⟨b2, off2, none⟩) n cap, .int .i64 n, .bool false, .bool false, .slice (some ⟨b2, off2, none⟩) n cap, .int .i64 n, .int .i64 ((n : Int) - 1), .int .i64 p, .bool true, u20, u21, u5, .slice (some ⟨b2, off2, none⟩) n cap, .int .i64 p, .pointer (some ⟨b2, off2 + p, none⟩), u26, u27, u28, u29, u30, u31, u32, undef, undef, undef, undef, undef, undef, undef, undef, undef, undef, undef, undef], []⟩ _
      refine wpAny_take (i := 5) (v := .slice (some ⟨b2, off2, none⟩) n cap) rfl (by kernel_rfl) (by kernel_rfl) (by kernel_rfl) (fun _ _ _ h => h) (Or.inl ⟨by rfl, ?_⟩) ?_
      · intro w
        go_simp
        try with_reducible rfl
      change wpAny _ _ _ _ _ #[true, true, true, true, false, true, false, false, false, false, false, false] ⟨#[.agg #[.string op, .string tag, .slice b k.length c], .slice (some ⟨b2, off2, none⟩) n cap, .pointer (some ⟨w.heap.size, 0, none⟩), undef, .bool false, u5, .int .i64 p, .agg #[.string op, .string tag, .slice b k.length c], .int .i64 q, .bool false, .bool false, .slice (some ⟨b2, off2, none⟩) n cap, .int .i64 n, .bool false, .bool false, .slice (some ⟨b2, off2, none⟩) n cap, .int .i64 n, .int .i64 ((n : Int) - 1), .int .i64 p, .bool true, u20, u21, u5, .slice (some ⟨b2, off2, none⟩) n cap, .int .i64 p, .pointer (some ⟨b2, off2 + p, none⟩), u26, .slice (some ⟨b2, off2, none⟩) n cap, u28, u29, u30, u31, u32, undef, undef, undef, undef, undef, undef, undef, undef, undef, undef, undef, undef], []⟩ _
      refine wpAny_take (i := 6) (v := .int .i64 p) rfl (by kernel_rfl) (by kernel_rfl) (by kernel_rfl) (fun _ _ _ h => h) (Or.inl ⟨by rfl, ?_⟩) ?_
      · intro w
        go_simp
        try with_reducible rfl
      change wpAny _ _ _ _ _ #[true, true, true, true, false, true, true, false, false, false, false, false] ⟨#[.agg #[.string op, .string tag, .slice b k.length c], .slice (some ⟨b2, off2, none⟩) n cap, .pointer (some ⟨w.heap.size, 0, none⟩), undef, .bool false, u5, .int .i64 p, .agg #[.string op, .string tag, .slice b k.length c], .int .i64 q, .bool false, .bool false, .slice (some ⟨b2, off2, none⟩) n cap, .int .i64 n, .bool false, .bool false, .slice (some ⟨b2, off2, none⟩) n cap, .int .i64 n, .int .i64 ((n : Int) - 1), .int .i64 p, .bool true, u20, u21, u5, .slice (some ⟨b2, off2, none⟩) n cap, .int .i64 p, .pointer (some ⟨b2, off2 + p, none⟩), u26, .slice (some ⟨b2, off2, none⟩) n cap, .int .i64 p, u29, u30, u31, u32, undef, undef, undef, undef, undef, undef, undef, undef, undef, undef, undef, undef], []⟩ _
      refine wpAny_take (i := 7) (v := .pointer (some ⟨b2, off2 + p, none⟩)) rfl (by kernel_rfl) (by kernel_rfl) (by kernel_rfl) (fun _ _ _ h => h) (Or.inl ⟨by rfl, ?_⟩) ?_
      · intro w
        go_simp
        try with_reducible rfl
      change wpAny _ _ _ _ _ #[true, true, true, true, false, true, true, true, false, false, false, false] ⟨#[.agg #[.string op, .string tag, .slice b k.length c], .slice (some ⟨b2, off2, none⟩) n cap, .pointer (some ⟨w.heap.size, 0, none⟩), undef, .bool false, u5, .int .i64 p, .agg #[.string op, .string tag, .slice b k.length c], .int .i64 q, .bool false, .bool false, .slice (some ⟨b2, off2, none⟩) n cap, .int .i64 n, .bool false, .bool false, .slice (some ⟨b2, off2, none⟩) n cap, .int .i64 n, .int .i64 ((n : Int) - 1), .int .i64 p, .bool true, u20, u21, u5, .slice (some ⟨b2, off2, none⟩) n cap, .int .i64 p, .pointer (some ⟨b2, off2 + p, none⟩), u26, .slice (some ⟨b2, off2, none⟩) n cap, .int .i64 p, .pointer (some ⟨b2, off2 + p, none⟩), u30, u31, u32, undef, undef, undef, undef, undef, undef, undef, undef, undef, undef, undef, undef], []⟩ _
      refine wpAny_ready (rs := [4, 8]) (by kernel_rfl) (by simp) ?_
      refine AllReady.cons rfl (fun K hK => ?_) (AllReady.cons rfl (fun K hK => ?_) (AllReady.nil))
      ·
        go_simp
        refine hK _ _ ?_
        clear hK K
        change wpAny _ _ _ _ _ #[true, true, true, true, true, true, true, true, false, false, false, false] ⟨#[.agg #[.string op, .string tag, .slice b k.length c], .slice (some ⟨b2, off2, none⟩) n cap, .pointer (some ⟨w.heap.size, 0, none⟩), undef, .bool false, u5, .int .i64 p, .agg #[.string op, .string tag, .slice b k.length c], .int .i64 q, .bool false, .bool false, .slice (some ⟨b2, off2, none⟩) n cap, .int .i64 n, .bool false, .bool false, .slice (some ⟨b2, off2, none⟩) n cap, .int .i64 n, .int .i64 ((n : Int) - 1), .int .i64 p, .bool true, u20, u21, u5, .slice (some ⟨b2, off2, none⟩) n cap, .int .i64 p, .pointer (some ⟨b2, off2 + p, none⟩), .string t, .slice (some ⟨b2, off2, none⟩) n cap, .int .i64 p, .pointer (some ⟨b2, off2 + p, none⟩), u30, u31, u32, undef, undef, undef, undef, undef, undef, undef, undef, undef, undef, undef, undef], []⟩ _
        refine wpAny_ready (rs := [8]) (by kernel_rfl) (by simp) ?_
        refine AllReady.cons rfl (fun K hK => ?_) (AllReady.nil)
        go_simp
        refine hK _ _ ?_
        clear hK K
        change wpAny _ _ _ _ _ #[true, true, true, true, true, true, true, true, true, false, false, false] ⟨#[.agg #[.string op, .string tag, .slice b k.length c], .slice (some ⟨b2, off2, none⟩) n cap, .pointer (some ⟨w.heap.size, 0, none⟩), undef, .bool false, u5, .int .i64 p, .agg #[.string op, .string tag, .slice b k.length c], .int .i64 q, .bool false, .bool false, .slice (some ⟨b2, off2, none⟩) n cap, .int .i64 n, .bool false, .bool false, .slice (some ⟨b2, off2, none⟩) n cap, .int .i64 n, .int .i64 ((n : Int) - 1), .int .i64 p, .bool true, u20, u21, u5, .slice (some ⟨b2, off2, none⟩) n cap, .int .i64 p, .pointer (some ⟨b2, off2 + p, none⟩), .string t, .slice (some ⟨b2, off2, none⟩) n cap, .int .i64 p, .pointer (some ⟨b2, off2 + p, none⟩), .string t, u31, u32, undef, undef, undef, undef, undef, undef, undef, undef, undef, undef, undef, undef], []⟩ _
        refine wpAny_ready (rs := [9]) (by kernel_rfl) (by simp) ?_
        refine AllReady.cons rfl (fun K hK => ?_) (AllReady.nil)
        go_simp
        refine hK _ _ ?_
        clear hK K
        change wpAny _ _ _ _ _ #[true, true, true, true, true, true, true, true, true, true, false, false] ⟨#[.agg #[.string op, .string tag, .slice b k.length c], .slice (some ⟨b2, off2, none⟩) n cap, .pointer (some ⟨w.heap.size, 0, none⟩), undef, .bool false, u5, .int .i64 p, .agg #[.string op, .string tag, .slice b k.length c], .int .i64 q, .bool false, .bool false, .slice (some ⟨b2, off2, none⟩) n cap, .int .i64 n, .bool false, .bool false, .slice (some ⟨b2, off2, none⟩) n cap, .int .i64 n, .int .i64 ((n : Int) - 1), .int .i64 p, .bool true, u20, u21, u5, .slice (some ⟨b2, off2, none⟩) n cap, .int .i64 p, .pointer (some ⟨b2, off2 + p, none⟩), .string t, .slice (some ⟨b2, off2, none⟩) n cap, .int .i64 p, .pointer (some ⟨b2, off2 + p, none⟩), .string t, .slice (some ⟨wr.heap.size, 0, none⟩) 2 2, u32, undef, undef, undef, undef, undef, undef, undef, undef, undef, undef, undef, undef], []⟩ _
        change wpAny _ _ _ _ _ _ _ (wr.drew.alloc (.cells #[.string t, .string t] 9))
        refine wpAny_ready (rs := [10]) (by kernel_rfl) (by simp) ?_
        refine AllReady.cons rfl (fun K hK => ?_) (AllReady.nil)
        refine step_app_two rfl _ _ rfl (w.heap.size + 1) u5 (2 * j) (strV (backL zs j)) rfl HRD.out rfl (by omega) (by have := lt_of_block HQR.out; show _ ≤ wr.heap.size; omega) ?_
        intro gb capr w3 hrow hg
        refine hK _ _ ?_
        clear hK K
        change wpAny _ _ _ _ _ #[true, true, true, true, true, true, true, true, true, true, true, false] ⟨#[.agg #[.string op, .string tag, .slice b k.length c], .slice (some ⟨b2, off2, none⟩) n cap, .pointer (some ⟨w.heap.size, 0, none⟩), undef, .bool false, u5, .int .i64 p, .agg #[.string op, .string tag, .slice b k.length c], .int .i64 q, .bool false, .bool false, .slice (some ⟨b2, off2, none⟩) n cap, .int .i64 n, .bool false, .bool false, .slice (some ⟨b2, off2, none⟩) n cap, .int .i64 n, .int .i64 ((n : Int) - 1), .int .i64 p, .bool true, u20, u21, u5, .slice (some ⟨b2, off2, none⟩) n cap, .int .i64 p, .pointer (some ⟨b2, off2 + p, none⟩), .string t, .slice (some ⟨b2, off2, none⟩) n cap, .int .i64 p, .pointer (some ⟨b2, off2 + p, none⟩), .string t, .slice (some ⟨wr.heap.size, 0, none⟩) 2 2, .slice (some ⟨gb, 0, none⟩) (2 * j + 2) capr, undef, undef, undef, undef, undef, undef, undef, undef, undef, undef, undef, undef], []⟩ _
        refine wpAny_take (i := 11) (v := .slice (some ⟨gb, 0, none⟩) (2 * j + 2) capr) rfl (by kernel_rfl) (by kernel_rfl) (by kernel_rfl) (fun _ _ _ h => h) (Or.inl ⟨by rfl, ?_⟩) ?_
        · intro w
          go_simp
          try with_reducible rfl
        change wpAny _ _ _ _ _ #[true, true, true, true, true, true, true, true, true, true, true, true] ⟨#[.agg #[.string op, .string tag, .slice b k.length c], .slice (some ⟨b2, off2, none⟩) n cap, .pointer (some ⟨w.heap.size, 0, none⟩), undef, .bool false, .slice (some ⟨gb, 0, none⟩) (2 * j + 2) capr, .int .i64 p, .agg #[.string op, .string tag, .slice b k.length c], .int .i64 q, .bool false, .bool false, .slice (some ⟨b2, off2, none⟩) n cap, .int .i64 n, .bool false, .bool false, .slice (some ⟨b2, off2, none⟩) n cap, .int .i64 n, .int .i64 ((n : Int) - 1), .int .i64 p, .bool true, u20, u21, u5, .slice (some ⟨b2, off2, none⟩) n cap, .int .i64 p, .pointer (some ⟨b2, off2 + p, none⟩), .string t, .slice (some ⟨b2, off2, none⟩) n cap, .int .i64 p, .pointer (some ⟨b2, off2 + p, none⟩), .string t, .slice (some ⟨wr.heap.size, 0, none⟩) 2 2, .slice (some ⟨gb, 0, none⟩) (2 * j + 2) capr, undef, undef, undef, undef, undef, undef, undef, undef, undef, undef, undef, undef], []⟩ _
        refine wpAny_done (by kernel_rfl) ?_ _
        have hgb := grown_below HB.out HR.out hg
        have hq3 := grown_block HR.out hg HQR.out
        go_wp2
        go_roundw
        case rel => exact ⟨j + 1, by have e := HPN.out; go_num, by omega, hgb, hq3, by show World.ownsRow _ _ _ _ _ _ _; rw [HBK.out, strV, List.map_append]; exact hrow⟩
        case measure => have e := HPN.out; simp [intOf]
      ·
        go_simp
        refine hK _ _ ?_
        clear hK K
        change wpAny _ _ _ _ _ #[true, true, true, true, false, true, true, true, true, false, false, false] ⟨#[.agg #[.string op, .string tag, .slice b k.length c], .slice (some ⟨b2, off2, none⟩) n cap, .pointer (some ⟨w.heap.size, 0, none⟩), undef, .bool false, u5, .int .i64 p, .agg #[.string op, .string tag, .slice b k.length c], .int .i64 q, .bool false, .bool false, .slice (some ⟨b2, off2, none⟩) n cap, .int .i64 n, .bool false, .bool false, .slice (some ⟨b2, off2, none⟩) n cap, .int .i64 n, .int .i64 ((n : Int) - 1), .int .i64 p, .bool true, u20, u21, u5, .slice (some ⟨b2, off2, none⟩) n cap, .int .i64 p, .pointer (some ⟨b2, off2 + p, none⟩), u26, .slice (some ⟨b2, off2, none⟩) n cap, .int .i64 p, .pointer (some ⟨b2, off2 + p, none⟩), .string t, u31, u32, undef, undef, undef, undef, undef, undef, undef, undef, undef, undef, undef, undef], []⟩ _
        refine wpAny_ready (rs := [4]) (by kernel_rfl) (by simp) ?_
        refine AllReady.cons rfl (fun K hK => ?_) (AllReady.nil)
        go_simp
        refine hK _ _ ?_
        clear hK K
        change wpAny _ _ _ _ _ #[true, true, true, true, true, true, true, true, true, false, false, false] ⟨#[.agg #[.string op, .string tag, .slice b k.length c], .slice (some ⟨b2, off2, none⟩) n cap, .pointer (some ⟨w.heap.size, 0, none⟩), undef, .bool false, u5, .int .i64 p, .agg #[.string op, .string tag, .slice b k.length c], .int .i64 q, .bool false, .bool false, .slice (some ⟨b2, off2, none⟩) n cap, .int .i64 n, .bool false, .bool false, .slice (some ⟨b2, off2, none⟩) n cap, .int .i64 n, .int .i64 ((n : Int) - 1), .int .i64 p, .bool true, u20, u21, u5, .slice (some ⟨b2, off2, none⟩) n cap, .int .i64 p, .pointer (some ⟨b2, off2 + p, none⟩), .string t, .slice (some ⟨b2, off2, none⟩) n cap, .int .i64 p, .pointer (some ⟨b2, off2 + p, none⟩), .string t, u31, u32, undef, undef, undef, undef, undef, undef, undef, undef, undef, undef, undef, undef], []⟩ _
        refine wpAny_ready (rs := [9]) (by kernel_rfl) (by simp) ?_
        refine AllReady.cons rfl (fun K hK => ?_) (AllReady.nil)
        go_simp
        refine hK _ _ ?_
        clear hK K
        change wpAny _ _ _ _ _ #[true, true, true, true, true, true, true, true, true, true, false, false] ⟨#[.agg #[.string op, .string tag, .slice b k.length c], .slice (some ⟨b2, off2, none⟩) n cap, .pointer (some ⟨w.heap.size, 0, none⟩), undef, .bool false, u5, .int .i64 p, .agg #[.string op, .string tag, .slice b k.length c], .int .i64 q, .bool false, .bool false, .slice (some ⟨b2, off2, none⟩) n cap, .int .i64 n, .bool false, .bool false, .slice (some ⟨b2, off2, none⟩) n cap, .int .i64 n, .int .i64 ((n : Int) - 1), .int .i64 p, .bool true, u20, u21, u5, .slice (some ⟨b2, off2, none⟩) n cap, .int .i64 p, .pointer (some ⟨b2, off2 + p, none⟩), .string t, .slice (some ⟨b2, off2, none⟩) n cap, .int .i64 p, .pointer (some ⟨b2, off2 + p, none⟩), .string t, .slice (some ⟨wr.heap.size, 0, none⟩) 2 2, u32, undef, undef, undef, undef, undef, undef, undef, undef, undef, undef, undef, undef], []⟩ _
        change wpAny _ _ _ _ _ _ _ (wr.drew.alloc (.cells #[.string t, .string t] 9))
        refine wpAny_ready (rs := [10]) (by kernel_rfl) (by simp) ?_
        refine AllReady.cons rfl (fun K hK => ?_) (AllReady.nil)
        refine step_app_two rfl _ _ rfl (w.heap.size + 1) u5 (2 * j) (strV (backL zs j)) rfl HRD.out rfl (by omega) (by have := lt_of_block HQR.out; show _ ≤ wr.heap.size; omega) ?_
        intro gb capr w3 hrow hg
        refine hK _ _ ?_
        clear hK K
        change wpAny _ _ _ _ _ #[true, true, true, true, true, true, true, true, true, true, true, false] ⟨#[.agg #[.string op, .string tag, .slice b k.length c], .slice (some ⟨b2, off2, none⟩) n cap, .pointer (some ⟨w.heap.size, 0, none⟩), undef, .bool false, u5, .int .i64 p, .agg #[.string op, .string tag, .slice b k.length c], .int .i64 q, .bool false, .bool false, .slice (some ⟨b2, off2, none⟩) n cap, .int .i64 n, .bool false, .bool false, .slice (some ⟨b2, off2, none⟩) n cap, .int .i64 n, .int .i64 ((n : Int) - 1), .int .i64 p, .bool true, u20, u21, u5, .slice (some ⟨b2, off2, none⟩) n cap, .int .i64 p, .pointer (some ⟨b2, off2 + p, none⟩), .string t, .slice (some ⟨b2, off2, none⟩) n cap, .int .i64 p, .pointer (some ⟨b2, off2 + p, none⟩), .string t, .slice (some ⟨wr.heap.size, 0, none⟩) 2 2, .slice (some ⟨gb, 0, none⟩) (2 * j + 2) capr, undef, undef, undef, undef, undef, undef, undef, undef, undef, undef, undef, undef], []⟩ _
        refine wpAny_take (i := 11) (v := .slice (some ⟨gb, 0, none⟩) (2 * j + 2) capr) rfl (by kernel_rfl) (by kernel_rfl) (by kernel_rfl) (fun _ _ _ h => h) (Or.inl ⟨by rfl, ?_⟩) ?_
        · intro w
          go_simp
          try with_reducible rfl
        change wpAny _ _ _ _ _ #[true, true, true, true, true, true, true, true, true, true, true, true] ⟨#[.agg #[.string op, .string tag, .slice b k.length c], .slice (some ⟨b2, off2, none⟩) n cap, .pointer (some ⟨w.heap.size, 0, none⟩), undef, .bool false, .slice (some ⟨gb, 0, none⟩) (2 * j + 2) capr, .int .i64 p, .agg #[.string op, .string tag, .slice b k.length c], .int .i64 q, .bool false, .bool false, .slice (some ⟨b2, off2, none⟩) n cap, .int .i64 n, .bool false, .bool false, .slice (some ⟨b2, off2, none⟩) n cap, .int .i64 n, .int .i64 ((n : Int) - 1), .int .i64 p, .bool true, u20, u21, u5, .slice (some ⟨b2, off2, none⟩) n cap, .int .i64 p, .pointer (some ⟨b2, off2 + p, none⟩), .string t, .slice (some ⟨b2, off2, none⟩) n cap, .int .i64 p, .pointer (some ⟨b2, off2 + p, none⟩), .string t, .slice (some ⟨wr.heap.size, 0, none⟩) 2 2, .slice (some ⟨gb, 0, none⟩) (2 * j + 2) capr, undef, undef, undef, undef, undef, undef, undef, undef, undef, undef, undef, undef], []⟩ _
        refine wpAny_done (by kernel_rfl) ?_ _
        have hgb := grown_below HB.out HR.out hg
        have hq3 := grown_block HR.out hg HQR.out
        go_wp2
        go_roundw
        case rel => exact ⟨j + 1, by have e := HPN.out; go_num, by omega, hgb, hq3, by show World.ownsRow _ _ _ _ _ _ _; rw [HBK.out, strV, List.map_append]; exact hrow⟩
        case measure => have e := HPN.out; simp [intOf]
    · obtain rfl : j = n := by omega
      have hzl := HZ.out.1
      have hr := HR.out
      have hln := backL_len zs j
      rw [← hln] at hr
      obtain ⟨a2, cap2, rfl, ht2⟩ := own_tags hr
      rw [hln] at ht2
      have HT2 : Hid (∀ W, Below wr.heap.size wr W → TagsOk (.slice a2 (2 * j) cap2) (Lib.containsS zs) W) := fun W h => by
        have e := (ht2.below h).ok cap2 (by omega)
        rw [← hzl, backL_all] at e
        rw [← hzl]
        exact e
      have COF2 := Lib.hid (fun W (h : Below wr.heap.size wr W) => COF.out W (HB.out.trans (h.mono HB.out.size)))
      have HTG2 := Lib.hid (fun W (h : Below wr.heap.size wr W) => HTG.out W (HB.out.trans (h.mono HB.out.size)))
      obtain ⟨⟨x0, x1, x2⟩, -⟩ := three_cells HQR.out
      rw [hln, show (j : Int) - 1 - (j : Int) = -1 by omega]
      have CH := Lib.hid (fun tv W ok' a5 cap5 (hl : ExtK W ok' k a5 cap5) (ht : TagsOk tv (Lib.containsS zs) W) => Holds_any (.mk op tag k) (.agg #[.string op, .string tag, .slice a5 k.length cap5]) tv (Lib.containsS zs) W ok' HSM.out (by rw [ExtAt_eq]; exact ⟨a5, cap5, rfl, hl⟩) ht)
      generalize holdsM (Lib.containsS zs) (.mk op tag k) = hv at *
      have HBW := HB
      have HQW := HQR
      clear hr ht2 hln hzl
      go_wp2_with fail
      have HB0 := Lib.hid ((Below.refl wr.heap.size wr).drew)
      refine wp_region_any (by kernel_rfl) ?_
      change wpAny _ _ _ _ _ _ _ (World.drew _)
      change wpAny _ _ _ _ _ #[false, false, false, false, false, false, false, false, false, false, false, false, false] ⟨#[.agg #[.string op, .string tag, .slice b k.length c], .slice a j cap, .pointer (some ⟨w.heap.size, 0, none⟩), undef, .bool false, .slice a2 (2 * j) cap2, .int .i64 (-1), .agg #[.string op, .string tag, .slice b k.length c], .int .i64 q, .bool false, .bool false, .slice a j cap, .int .i64 j, .bool false, .bool false, .slice a j cap, .int .i64 j, .int .i64 ((j : Int) - 1), .int .i64 (-1), .bool false, u20, u21, u22, u23, u24, u25, u26, u27, u28, u29, u30, u31, u32, undef, undef, undef, undef, undef, undef, undef, undef, undef, undef, undef, undef], []⟩ _
      refine wpAny_take (i := 2) (v := .slice a j cap) rfl (by kernel_rfl) (by kernel_rfl) (by kernel_rfl) (fun _ _ _ h => h) (Or.inl ⟨by rfl, ?_⟩) ?_
      · intro w
        go_simp
        try with_reducible rfl
      change wpAny _ _ _ _ _ #[false, false, true, false, false, false, false, false, false, false, false, false, false] ⟨#[.agg #[.string op, .string tag, .slice b k.length c], .slice a j cap, .pointer (some ⟨w.heap.size, 0, none⟩), undef, .bool false, .slice a2 (2 * j) cap2, .int .i64 (-1), .agg #[.string op, .string tag, .slice b k.length c], .int .i64 q, .bool false, .bool false, .slice a j cap, .int .i64 j, .bool false, .bool false, .slice a j cap, .int .i64 j, .int .i64 ((j : Int) - 1), .int .i64 (-1), .bool false, u20, u21, u22, u23, u24, u25, u26, u27, u28, u29, u30, u31, u32, undef, undef, .slice a j cap, undef, undef, undef, undef, undef, undef, undef, undef, undef], []⟩ _
      refine wpAny_take (i := 6) (v := .slice a2 (2 * j) cap2) rfl (by kernel_rfl) (by kernel_rfl) (by kernel_rfl) (fun _ _ _ h => h) (Or.inl ⟨by rfl, ?_⟩) ?_
      · intro w
        go_simp
        try with_reducible rfl
      change wpAny _ _ _ _ _ #[false, false, true, false, false, false, true, false, false, false, false, false, false] ⟨#[.agg #[.string op, .string tag, .slice b k.length c], .slice a j cap, .pointer (some ⟨w.heap.size, 0, none⟩), undef, .bool false, .slice a2 (2 * j) cap2, .int .i64 (-1), .agg #[.string op, .string tag, .slice b k.length c], .int .i64 q, .bool false, .bool false, .slice a j cap, .int .i64 j, .bool false, .bool false, .slice a j cap, .int .i64 j, .int .i64 ((j : Int) - 1), .int .i64 (-1), .bool false, u20, u21, u22, u23, u24, u25, u26, u27, u28, u29, u30, u31, u32, undef, undef, .slice a j cap, undef, undef, undef, .slice a2 (2 * j) cap2, undef, undef, undef, undef, undef], []⟩ _
      refine wpAny_ready (rs := [0, 4]) (by kernel_rfl) (by simp) ?_
      refine AllReady.cons rfl (fun K hK => ?_) (AllReady.cons rfl (fun K hK => ?_) (AllReady.nil))
      ·
        go_simp
        refine hK _ _ ?_
        clear hK K
        change wpAny _ _ _ _ _ #[true, false, true, false, false, false, true, false, false, false, false, false, false] ⟨#[.agg #[.string op, .string tag, .slice b k.length c], .slice a j cap, .pointer (some ⟨w.heap.size, 0, none⟩), undef, .bool false, .slice a2 (2 * j) cap2, .int .i64 (-1), .agg #[.string op, .string tag, .slice b k.length c], .int .i64 q, .bool false, .bool false, .slice a j cap, .int .i64 j, .bool false, .bool false, .slice a j cap, .int .i64 j, .int .i64 ((j : Int) - 1), .int .i64 (-1), .bool false, u20, u21, u22, u23, u24, u25, u26, u27, u28, u29, u30, u31, u32, .agg #[.string op, .string tag, .slice b k.length c], undef, .slice a j cap, undef, undef, undef, .slice a2 (2 * j) cap2, undef, undef, undef, undef, undef], []⟩ _
        refine wpAny_ready (rs := [1, 4]) (by kernel_rfl) (by simp) ?_
        refine AllReady.cons rfl (fun K hK => ?_) (AllReady.cons rfl (fun K hK => ?_) (AllReady.nil))
        ·
          go_simp
          go_at_call 11
          refine (COF2.out _ HB0.out).mono ?_
          rintro e W1 ⟨hb1, v1, rfl, hx1⟩
          rw [ExtAt_eq] at hx1
          obtain ⟨e1, c1, rfl, hl1⟩ := hx1
          refine hK _ _ ?_
          clear hK K
          change wpAny _ _ _ _ _ #[true, true, true, false, false, false, true, false, false, false, false, false, false] ⟨#[.agg #[.string op, .string tag, .slice b k.length c], .slice a j cap, .pointer (some ⟨w.heap.size, 0, none⟩), undef, .bool false, .slice a2 (2 * j) cap2, .int .i64 (-1), .agg #[.string op, .string tag, .slice b k.length c], .int .i64 q, .bool false, .bool false, .slice a j cap, .int .i64 j, .bool false, .bool false, .slice a j cap, .int .i64 j, .int .i64 ((j : Int) - 1), .int .i64 (-1), .bool false, u20, u21, u22, u23, u24, u25, u26, u27, u28, u29, u30, u31, u32, .agg #[.string op, .string tag, .slice b k.length c], .agg #[.string op, .string tag, .slice e1 k.length c1], .slice a j cap, undef, undef, undef, .slice a2 (2 * j) cap2, undef, undef, undef, undef, undef], []⟩ _
          have HB1 := Lib.hid (HB0.out.trans (hb1.mono HB0.out.size))
          have hq1 := (HB1.out.block _ (lt_of_block HQW.out)).trans HQW.out
          clear hb1 x0 x1 x2
          obtain ⟨⟨x0, x1, x2⟩, -⟩ := three_cells hq1
          have HL1 := Lib.hid hl1
          clear hl1
          refine wpAny_ready (rs := [3, 4]) (by kernel_rfl) (by simp) ?_
          refine AllReady.cons rfl (fun K hK => ?_) (AllReady.cons rfl (fun K hK => ?_) (AllReady.nil))
          ·
            go_simp
            go_at_call 14
            refine (CH.out _ _ _ _ _ HL1.out (HTG2.out _ HB1.out)).mono ?_
            rintro e W2 ⟨rfl, hb2⟩
            refine hK _ _ ?_
            clear hK K
            change wpAny _ _ _ _ _ #[true, true, true, true, false, false, true, false, false, false, false, false, false] ⟨#[.agg #[.string op, .string tag, .slice b k.length c], .slice a j cap, .pointer (some ⟨w.heap.size, 0, none⟩), undef, .bool false, .slice a2 (2 * j) cap2, .int .i64 (-1), .agg #[.string op, .string tag, .slice b k.length c], .int .i64 q, .bool false, .bool false, .slice a j cap, .int .i64 j, .bool false, .bool false, .slice a j cap, .int .i64 j, .int .i64 ((j : Int) - 1), .int .i64 (-1), .bool false, u20, u21, u22, u23, u24, u25, u26, u27, u28, u29, u30, u31, u32, .agg #[.string op, .string tag, .slice b k.length c], .agg #[.string op, .string tag, .slice e1 k.length c1], .slice a j cap, .bool hv, undef, undef, .slice a2 (2 * j) cap2, undef, undef, undef, undef, undef], []⟩ _
            have HB2 := Lib.hid (HB1.out.trans (hb2.mono HB1.out.size))
            have hq2 := (HB2.out.block _ (lt_of_block HQW.out)).trans HQW.out
            clear hb2 x0 x1 x2
            obtain ⟨⟨x0, x1, x2⟩, -⟩ := three_cells hq2
            refine wpAny_ready (rs := [4]) (by kernel_rfl) (by simp) ?_
            refine AllReady.cons rfl (fun K hK => ?_) (AllReady.nil)
            go_simp
            refine hK _ _ ?_
            clear hK K
            change wpAny _ _ _ _ _ #[true, true, true, true, true, false, true, false, false, false, false, false, false] ⟨#[.agg #[.string op, .string tag, .slice b k.length c], .slice a j cap, .pointer (some ⟨w.heap.size, 0, none⟩), undef, .bool false, .slice a2 (2 * j) cap2, .int .i64 (-1), .agg #[.string op, .string tag, .slice b k.length c], .int .i64 q, .bool false, .bool false, .slice a j cap, .int .i64 j, .bool false, .bool false, .slice a j cap, .int .i64 j, .int .i64 ((j : Int) - 1), .int .i64 (-1), .bool false, u20, u21, u22, u23, u24, u25, u26, u27, u28, u29, u30, u31, u32, .agg #[.string op, .string tag, .slice b k.length c], .agg #[.string op, .string tag, .slice e1 k.length c1], .slice a j cap, .bool hv, .agg #[.string op, .string tag, .slice b k.length c], undef, .slice a2 (2 * j) cap2, undef, undef, undef, undef, undef], []⟩ _
            refine wpAny_ready (rs := [5]) (by kernel_rfl) (by simp) ?_
            refine AllReady.cons rfl (fun K hK => ?_) (AllReady.nil)
            go_simp
            go_at_call 11
            refine (COF2.out _ HB2.out).mono ?_
            rintro e W3 ⟨hb3, v3, rfl, hx3⟩
            rw [ExtAt_eq] at hx3
            obtain ⟨e3, c3, rfl, hl3⟩ := hx3
            refine hK _ _ ?_
            clear hK K
            change wpAny _ _ _ _ _ #[true, true, true, true, true, true, true, false, false, false, false, false, false] ⟨#[.agg #[.string op, .string tag, .slice b k.length c], .slice a j cap, .pointer (some ⟨w.heap.size, 0, none⟩), undef, .bool false, .slice a2 (2 * j) cap2, .int .i64 (-1), .agg #[.string op, .string tag, .slice b k.length c], .int .i64 q, .bool false, .bool false, .slice a j cap, .int .i64 j, .bool false, .bool false, .slice a j cap, .int .i64 j, .int .i64 ((j : Int) - 1), .int .i64 (-1), .bool false, u20, u21, u22, u23, u24, u25, u26, u27, u28, u29, u30, u31, u32, .agg #[.string op, .string tag, .slice b k.length c], .agg #[.string op, .string tag, .slice e1 k.length c1], .slice a j cap, .bool hv, .agg #[.string op, .string tag, .slice b k.length c], .agg #[.string op, .string tag, .slice e3 k.length c3], .slice a2 (2 * j) cap2, undef, undef, undef, undef, undef], []⟩ _
            have HB3 := Lib.hid (HB2.out.trans (hb3.mono HB2.out.size))
            have hq3 := (HB3.out.block _ (lt_of_block HQW.out)).trans HQW.out
            clear hb3 x0 x1 x2
            obtain ⟨⟨x0, x1, x2⟩, -⟩ := three_cells hq3
            have HL3 := Lib.hid hl3
            clear hl3
            refine wpAny_ready (rs := [7]) (by kernel_rfl) (by simp) ?_
            refine AllReady.cons rfl (fun K hK => ?_) (AllReady.nil)
            go_simp
            go_at_call 14
            refine (CH.out _ _ _ _ _ HL3.out (HT2.out _ HB3.out)).mono ?_
            rintro e W4 ⟨rfl, hb4⟩
            refine hK _ _ ?_
            clear hK K
            change wpAny _ _ _ _ _ #[true, true, true, true, true, true, true, true, false, false, false, false, false] ⟨#[.agg #[.string op, .string tag, .slice b k.length c], .slice a j cap, .pointer (some ⟨w.heap.size, 0, none⟩), undef, .bool false, .slice a2 (2 * j) cap2, .int .i64 (-1), .agg #[.string op, .string tag, .slice b k.length c], .int .i64 q, .bool false, .bool false, .slice a j cap, .int .i64 j, .bool false, .bool false, .slice a j cap, .int .i64 j, .int .i64 ((j : Int) - 1), .int .i64 (-1), .bool false, u20, u21, u22, u23, u24, u25, u26, u27, u28, u29, u30, u31, u32, .agg #[.string op, .string tag, .slice b k.length c], .agg #[.string op, .string tag, .slice e1 k.length c1], .slice a j cap, .bool hv, .agg #[.string op, .string tag, .slice b k.length c], .agg #[.string op, .string tag, .slice e3 k.length c3], .slice a2 (2 * j) cap2, .bool hv, undef, undef, undef, undef], []⟩ _
            have HB4 := Lib.hid (HB3.out.trans (hb4.mono HB3.out.size))
            have hq4 := (HB4.out.block _ (lt_of_block HQW.out)).trans HQW.out
            clear hb4 x0 x1 x2
            obtain ⟨⟨x0, x1, x2⟩, -⟩ := three_cells hq4
            refine wpAny_take (i := 8) (v := .bool true) rfl (by kernel_rfl) (by kernel_rfl) (by kernel_rfl) (fun _ _ _ h => h) (Or.inl ⟨by rfl, ?_⟩) ?_
            · intro w
              go_simp
              try with_reducible rfl
            change wpAny _ _ _ _ _ #[true, true, true, true, true, true, true, true, true, false, false, false, false] ⟨#[.agg #[.string op, .string tag, .slice b k.length c], .slice a j cap, .pointer (some ⟨w.heap.size, 0, none⟩), undef, .bool false, .slice a2 (2 * j) cap2, .int .i64 (-1), .agg #[.string op, .string tag, .slice b k.length c], .int .i64 q, .bool false, .bool false, .slice a j cap, .int .i64 j, .bool false, .bool false, .slice a j cap, .int .i64 j, .int .i64 ((j : Int) - 1), .int .i64 (-1), .bool false, u20, u21, u22, u23, u24, u25, u26, u27, u28, u29, u30, u31, u32, .agg #[.string op, .string tag, .slice b k.length c], .agg #[.string op, .string tag, .slice e1 k.length c1], .slice a j cap, .bool hv, .agg #[.string op, .string tag, .slice b k.length c], .agg #[.string op, .string tag, .slice e3 k.length c3], .slice a2 (2 * j) cap2, .bool hv, .bool true, undef, undef, undef], []⟩ _
            refine wpAny_take (i := 9) (v := .bool true) rfl (by kernel_rfl) (by kernel_rfl) (by kernel_rfl) (fun _ _ _ h => h) (Or.inl ⟨by rfl, ?_⟩) ?_
            · intro w
              go_simp
              try with_reducible rfl
            change wpAny _ _ _ _ _ #[true, true, true, true, true, true, true, true, true, true, false, false, false] ⟨#[.agg #[.string op, .string tag, .slice b k.length c], .slice a j cap, .pointer (some ⟨w.heap.size, 0, none⟩), undef, .bool false, .slice a2 (2 * j) cap2, .int .i64 (-1), .agg #[.string op, .string tag, .slice b k.length c], .int .i64 q, .bool false, .bool false, .slice a j cap, .int .i64 j, .bool false, .bool false, .slice a j cap, .int .i64 j, .int .i64 ((j : Int) - 1), .int .i64 (-1), .bool false, u20, u21, u22, u23, u24, u25, u26, u27, u28, u29, u30, u31, u32, .agg #[.string op, .string tag, .slice b k.length c], .agg #[.string op, .string tag, .slice e1 k.length c1], .slice a j cap, .bool hv, .agg #[.string op, .string tag, .slice b k.length c], .agg #[.string op, .string tag, .slice e3 k.length c3], .slice a2 (2 * j) cap2, .bool hv, .bool true, .bool true, undef, undef], []⟩ _
            refine wpAny_ready (rs := [10]) (by kernel_rfl) (by simp) ?_
            refine AllReady.cons rfl (fun K hK => ?_) (AllReady.nil)
            go_simp
            go_at_call 17
            refine (awake_any _).mono ?_
            rintro e W5 ⟨rfl, hb5⟩
            refine hK _ _ ?_
            clear hK K
            change wpAny _ _ _ _ _ #[true, true, true, true, true, true, true, true, true, true, true, false, false] ⟨#[.agg #[.string op, .string tag, .slice b k.length c], .slice a j cap, .pointer (some ⟨w.heap.size, 0, none⟩), undef, .bool false, .slice a2 (2 * j) cap2, .int .i64 (-1), .agg #[.string op, .string tag, .slice b k.length c], .int .i64 q, .bool false, .bool false, .slice a j cap, .int .i64 j, .bool false, .bool false, .slice a j cap, .int .i64 j, .int .i64 ((j : Int) - 1), .int .i64 (-1), .bool false, u20, u21, u22, u23, u24, u25, u26, u27, u28, u29, u30, u31, u32, .agg #[.string op, .string tag, .slice b k.length c], .agg #[.string op, .string tag, .slice e1 k.length c1], .slice a j cap, .bool hv, .agg #[.string op, .string tag, .slice b k.length c], .agg #[.string op, .string tag, .slice e3 k.length c3], .slice a2 (2 * j) cap2, .bool hv, .bool true, .bool true, .bool true, undef], []⟩ _
            have HB5 := Lib.hid (HB4.out.trans (hb5.mono HB4.out.size))
            have hq5 := (HB5.out.block _ (lt_of_block HQW.out)).trans HQW.out
            clear hb5 x0 x1 x2
            obtain ⟨⟨x0, x1, x2⟩, -⟩ := three_cells hq5
            refine wpAny_take (i := 11) (v := .bool true) rfl (by kernel_rfl) (by kernel_rfl) (by kernel_rfl) (fun _ _ _ h => h) (Or.inl ⟨by rfl, ?_⟩) ?_
            · intro w
              go_simp
              try with_reducible rfl
            change wpAny _ _ _ _ _ #[true, true, true, true, true, true, true, true, true, true, true, true, false] ⟨#[.agg #[.string op, .string tag, .slice b k.length c], .slice a j cap, .pointer (some ⟨w.heap.size, 0, none⟩), undef, .bool false, .slice a2 (2 * j) cap2, .int .i64 (-1), .agg #[.string op, .string tag, .slice b k.length c], .int .i64 q, .bool false, .bool false, .slice a j cap, .int .i64 j, .bool false, .bool false, .slice a j cap, .int .i64 j, .int .i64 ((j : Int) - 1), .int .i64 (-1), .bool false, u20, u21, u22, u23, u24, u25, u26, u27, u28, u29, u30, u31, u32, .agg #[.string op, .string tag, .slice b k.length c], .agg #[.string op, .string tag, .slice e1 k.length c1], .slice a j cap, .bool hv, .agg #[.string op, .string tag, .slice b k.length c], .agg #[.string op, .string tag, .slice e3 k.length c3], .slice a2 (2 * j) cap2, .bool hv, .bool true, .bool true, .bool true, .bool true], []⟩ _
            refine wpAny_take (i := 12) (v := .bool true) rfl (by kernel_rfl) (by kernel_rfl) (by kernel_rfl) (fun _ _ _ h => h) (Or.inl ⟨by rfl, ?_⟩) ?_
            · intro w
              go_simp
              try with_reducible rfl
            change wpAny _ _ _ _ _ #[true, true, true, true, true, true, true, true, true, true, true, true, true] ⟨#[.agg #[.string op, .string tag, .slice b k.length c], .slice a j cap, .pointer (some ⟨w.heap.size, 0, none⟩), undef, .bool true, .slice a2 (2 * j) cap2, .int .i64 (-1), .agg #[.string op, .string tag, .slice b k.length c], .int .i64 q, .bool false, .bool false, .slice a j cap, .int .i64 j, .bool false, .bool false, .slice a j cap, .int .i64 j, .int .i64 ((j : Int) - 1), .int .i64 (-1), .bool false, u20, u21, u22, u23, u24, u25, u26, u27, u28, u29, u30, u31, u32, .agg #[.string op, .string tag, .slice b k.length c], .agg #[.string op, .string tag, .slice e1 k.length c1], .slice a j cap, .bool hv, .agg #[.string op, .string tag, .slice b k.length c], .agg #[.string op, .string tag, .slice e3 k.length c3], .slice a2 (2 * j) cap2, .bool hv, .bool true, .bool true, .bool true, .bool true], []⟩ _
            refine wpAny_done (by kernel_rfl) ?_ _
            go_wp2
            go_ret
            exact ⟨rfl, HBW.out.trans (HB5.out.mono HBW.out.size)⟩
          ·
            go_simp
            refine hK _ _ ?_
            clear hK K
            change wpAny _ _ _ _ _ #[true, true, true, false, true, false, true, false, false, false, false, false, false] ⟨#[.agg #[.string op, .string tag, .slice b k.length c], .slice a j cap, .pointer (some ⟨w.heap.size, 0, none⟩), undef, .bool false, .slice a2 (2 * j) cap2, .int .i64 (-1), .agg #[.string op, .string tag, .slice b k.length c], .int .i64 q, .bool false, .bool false, .slice a j cap, .int .i64 j, .bool false, .bool false, .slice a j cap, .int .i64 j, .int .i64 ((j : Int) - 1), .int .i64 (-1), .bool false, u20, u21, u22, u23, u24, u25, u26, u27, u28, u29, u30, u31, u32, .agg #[.string op, .string tag, .slice b k.length c], .agg #[.string op, .string tag, .slice e1 k.length c1], .slice a j cap, undef, .agg #[.string op, .string tag, .slice b k.length c], undef, .slice a2 (2 * j) cap2, undef, undef, undef, undef, undef], []⟩ _
            refine wpAny_ready (rs := [3]) (by kernel_rfl) (by simp) ?_
            refine AllReady.cons rfl (fun K hK => ?_) (AllReady.nil)
            go_simp
            go_at_call 14
            refine (CH.out _ _ _ _ _ HL1.out (HTG2.out _ HB1.out)).mono ?_
            rintro e W2 ⟨rfl, hb2⟩
            refine hK _ _ ?_
            clear hK K
            change wpAny _ _ _ _ _ #[true, true, true, true, true, false, true, false, false, false, false, false, false] ⟨#[.agg #[.string op, .string tag, .slice b k.length c], .slice a j cap, .pointer (some ⟨w.heap.size, 0, none⟩), undef, .bool false, .slice a2 (2 * j) cap2, .int .i64 (-1), .agg #[.string op, .string tag, .slice b k.length c], .int .i64 q, .bool false, .bool false, .slice a j cap, .int .i64 j, .bool false, .bool false, .slice a j cap, .int .i64 j, .int .i64 ((j : Int) - 1), .int .i64 (-1), .bool false, u20, u21, u22, u23, u24, u25, u26, u27, u28, u29, u30, u31, u32, .agg #[.string op, .string tag, .slice b k.length c], .agg #[.string op, .string tag, .slice e1 k.length c1], .slice a j cap, .bool hv, .agg #[.string op, .string tag, .slice b k.length c], undef, .slice a2 (2 * j) cap2, undef, undef, undef, undef, undef], []⟩ _
            have HB2 := Lib.hid (HB1.out.trans (hb2.mono HB1.out.size))
            have hq2 := (HB2.out.block _ (lt_of_block HQW.out)).trans HQW.out
            clear hb2 x0 x1 x2
            obtain ⟨⟨x0, x1, x2⟩, -⟩ := three_cells hq2
            refine wpAny_ready (rs := [5]) (by kernel_rfl) (by simp) ?_
            refine AllReady.cons rfl (fun K hK => ?_) (AllReady.nil)
            go_simp
            go_at_call 11
            refine (COF2.out _ HB2.out).mono ?_
            rintro e W3 ⟨hb3, v3, rfl, hx3⟩
            rw [ExtAt_eq] at hx3
            obtain ⟨e3, c3, rfl, hl3⟩ := hx3
            refine hK _ _ ?_
            clear hK K
            change wpAny _ _ _ _ _ #[true, true, true, true, true, true, true, false, false, false, false, false, false] ⟨#[.agg #[.string op, .string tag, .slice b k.length c], .slice a j cap, .pointer (some ⟨w.heap.size, 0, none⟩), undef, .bool false, .slice a2 (2 * j) cap2, .int .i64 (-1), .agg #[.string op, .string tag, .slice b k.length c], .int .i64 q, .bool false, .bool false, .slice a j cap, .int .i64 j, .bool false, .bool false, .slice a j cap, .int .i64 j, .int .i64 ((j : Int) - 1), .int .i64 (-1), .bool false, u20, u21, u22, u23, u24, u25, u26, u27, u28, u29, u30, u31, u32, .agg #[.string op, .string tag, .slice b k.length c], .agg #[.string op, .string tag, .slice e1 k.length c1], .slice a j cap, .bool hv, .agg #[.string op, .string tag, .slice b k.length c], .agg #[.string op, .string tag, .slice e3 k.length c3], .slice a2 (2 * j) cap2, undef, undef, undef, undef, undef], []⟩ _
            have HB3 := Lib.hid (HB2.out.trans (hb3.mono HB2.out.size))
            have hq3 := (HB3.out.block _ (lt_of_block HQW.out)).trans HQW.out
            clear hb3 x0 x1 x2
            obtain ⟨⟨x0, x1, x2⟩, -⟩ := three_cells hq3
            have HL3 := Lib.hid hl3
            clear hl3
            refine wpAny_ready (rs := [7]) (by kernel_rfl) (by simp) ?_
            refine AllReady.cons rfl (fun K hK => ?_) (AllReady.nil)
            go_simp
            go_at_call 14
            refine (CH.out _ _ _ _ _ HL3.out (HT2.out _ HB3.out)).mono ?_
            rintro e W4 ⟨rfl, hb4⟩
            refine hK _ _ ?_
            clear hK K
            change wpAny _ _ _ _ _ #[true, true, true, true, true, true, true, true, false, false, false, false, false] ⟨#[.agg #[.string op, .string tag, .slice b k.length c], .slice a j cap, .pointer (some ⟨w.heap.size, 0, none⟩), undef, .bool false, .slice a2 (2 * j) cap2, .int .i64 (-1), .agg #[.string op, .string tag, .slice b k.length c], .int .i64 q, .bool false, .bool false, .slice a j cap, .int .i64 j, .bool false, .bool false, .slice a j cap, .int .i64 j, .int .i64 ((j : Int) - 1), .int .i64 (-1), .bool false, u20, u21, u22, u23, u24, u25, u26, u27, u28, u29, u30, u31, u32, .agg #[.string op, .string tag, .slice b k.length c], .agg #[.string op, .string tag, .slice e1 k.length c1], .slice a j cap, .bool hv, .agg #[.string op, .string tag, .slice b k.length c], .agg #[.string op, .string tag, .slice e3 k.length c3], .slice a2 (2 * j) cap2, .bool hv, undef, undef, undef, undef], []⟩ _
            have HB4 := Lib.hid (HB3.out.trans (hb4.mono HB3.out.size))
            have hq4 := (HB4.out.block _ (lt_of_block HQW.out)).trans HQW.out
            clear hb4 x0 x1 x2
            obtain ⟨⟨x0, x1, x2⟩, -⟩ := three_cells hq4
            refine wpAny_take (i := 8) (v := .bool true) rfl (by kernel_rfl) (by kernel_rfl) (by kernel_rfl) (fun _ _ _ h => h) (Or.inl ⟨by rfl, ?_⟩) ?_
            · intro w
              go_simp
              try with_reducible rfl
            change wpAny _ _ _ _ _ #[true, true, true, true, true, true, true, true, true, false, false, false, false] ⟨#[.agg #[.string op, .string tag, .slice b k.length c], .slice a j cap, .pointer (some ⟨w.heap.size, 0, none⟩), undef, .bool false, .slice a2 (2 * j) cap2, .int .i64 (-1), .agg #[.string op, .string tag, .slice b k.length c], .int .i64 q, .bool false, .bool false, .slice a j cap, .int .i64 j, .bool false, .bool false, .slice a j cap, .int .i64 j, .int .i64 ((j : Int) - 1), .int .i64 (-1), .bool false, u20, u21, u22, u23, u24, u25, u26, u27, u28, u29, u30, u31, u32, .agg #[.string op, .string tag, .slice b k.length c], .agg #[.string op, .string tag, .slice e1 k.length c1], .slice a j cap, .bool hv, .agg #[.string op, .string tag, .slice b k.length c], .agg #[.string op, .string tag, .slice e3 k.length c3], .slice a2 (2 * j) cap2, .bool hv, .bool true, undef, undef, undef], []⟩ _
            refine wpAny_take (i := 9) (v := .bool true) rfl (by kernel_rfl) (by kernel_rfl) (by kernel_rfl) (fun _ _ _ h => h) (Or.inl ⟨by rfl, ?_⟩) ?_
            · intro w
              go_simp
              try with_reducible rfl
            change wpAny _ _ _ _ _ #[true, true, true, true, true, true, true, true, true, true, false, false, false] ⟨#[.agg #[.string op, .string tag, .slice b k.length c], .slice a j cap, .pointer (some ⟨w.heap.size, 0, none⟩), undef, .bool false, .slice a2 (2 * j) cap2, .int .i64 (-1), .agg #[.string op, .string tag, .slice b k.length c], .int .i64 q, .bool false, .bool false, .slice a j cap, .int .i64 j, .bool false, .bool false, .slice a j cap, .int .i64 j, .int .i64 ((j : Int) - 1), .int .i64 (-1), .bool false, u20, u21, u22, u23, u24, u25, u26, u27, u28, u29, u30, u31, u32, .agg #[.string op, .string tag, .slice b k.length c], .agg #[.string op, .string tag, .slice e1 k.length c1], .slice a j cap, .bool hv, .agg #[.string op, .string tag, .slice b k.length c], .agg #[.string op, .string tag, .slice e3 k.length c3], .slice a2 (2 * j) cap2, .bool hv, .bool true, .bool true, undef, undef], []⟩ _
            refine wpAny_ready (rs := [10]) (by kernel_rfl) (by simp) ?_
            refine AllReady.cons rfl (fun K hK => ?_) (AllReady.nil)
            go_simp
            go_at_call 17
            refine (awake_any _).mono ?_
            rintro e W5 ⟨rfl, hb5⟩
            refine hK _ _ ?_
            clear hK K
            change wpAny _ _ _ _ _ #[true, true, true, true, true, true, true, true, true, true, true, false, false] ⟨#[.agg #[.string op, .string tag, .slice b k.length c], .slice a j cap, .pointer (some ⟨w.heap.size, 0, none⟩), undef, .bool false, .slice a2 (2 * j) cap2, .int .i64 (-1), .agg #[.string op, .string tag, .slice b k.length c], .int .i64 q, .bool false, .bool false, .slice a j cap, .int .i64 j, .bool false, .bool false, .slice a j cap, .int .i64 j, .int .i64 ((j : Int) - 1), .int .i64 (-1), .bool false, u20, u21, u22, u23, u24, u25, u26, u27, u28, u29, u30, u31, u32, .agg #[.string op, .string tag, .slice b k.length c], .agg #[.string op, .string tag, .slice e1 k.length c1], .slice a j cap, .bool hv, .agg #[.string op, .string tag, .slice b k.length c], .agg #[.string op, .string tag, .slice e3 k.length c3], .slice a2 (2 * j) cap2, .bool hv, .bool true, .bool true, .bool true, undef], []⟩ _
            have HB5 := Lib.hid (HB4.out.trans (hb5.mono HB4.out.size))
            have hq5 := (HB5.out.block _ (lt_of_block HQW.out)).trans HQW.out
            clear hb5 x0 x1 x2
            obtain ⟨⟨x0, x1, x2⟩, -⟩ := three_cells hq5
            refine wpAny_take (i := 11) (v := .bool true) rfl (by kernel_rfl) (by kernel_rfl) (by kernel_rfl) (fun _ _ _ h => h) (Or.inl ⟨by rfl, ?_⟩) ?_
            · intro w
              go_simp
              try with_reducible rfl
            change wpAny _ _ _ _ _ #[true, true, true, true, true, true, true, true, true, true, true, true, false] ⟨#[.agg #[.string op, .string tag, .slice b k.length c], .slice a j cap, .pointer (some ⟨w.heap.size, 0, none⟩), undef, .bool false, .slice a2 (2 * j) cap2, .int .i64 (-1), .agg #[.string op, .string tag, .slice b k.length c], .int .i64 q, .bool false, .bool false, .slice a j cap, .int .i64 j, .bool false, .bool false, .slice a j cap, .int .i64 j, .int .i64 ((j : Int) - 1), .int .i64 (-1), .bool false, u20, u21, u22, u23, u24, u25, u26, u27, u28, u29, u30, u31, u32, .agg #[.string op, .string tag, .slice b k.length c], .agg #[.string op, .string tag, .slice e1 k.length c1], .slice a j cap, .bool hv, .agg #[.string op, .string tag, .slice b k.length c], .agg #[.string op, .string tag, .slice e3 k.length c3], .slice a2 (2 * j) cap2, .bool hv, .bool true, .bool true, .bool true, .bool true], []⟩ _
            refine wpAny_take (i := 12) (v := .bool true) rfl (by kernel_rfl) (by kernel_rfl) (by kernel_rfl) (fun _ _ _ h => h) (Or.inl ⟨by rfl, ?_⟩) ?_
            · intro w
              go_simp
              try with_reducible rfl
            change wpAny _ _ _ _ _ #[true, true, true, true, true, true, true, true, true, true, true, true, true] ⟨#[.agg #[.string op, .string tag, .slice b k.length c], .slice a j cap, .pointer (some ⟨w.heap.size, 0, none⟩), undef, .bool true, .slice a2 (2 * j) cap2, .int .i64 (-1), .agg #[.string op, .string tag, .slice b k.length c], .int .i64 q, .bool false, .bool false, .slice a j cap, .int .i64 j, .bool false, .bool false, .slice a j cap, .int .i64 j, .int .i64 ((j : Int) - 1), .int .i64 (-1), .bool false, u20, u21, u22, u23, u24, u25, u26, u27, u28, u29, u30, u31, u32, .agg #[.string op, .string tag, .slice b k.length c], .agg #[.string op, .string tag, .slice e1 k.length c1], .slice a j cap, .bool hv, .agg #[.string op, .string tag, .slice b k.length c], .agg #[.string op, .string tag, .slice e3 k.length c3], .slice a2 (2 * j) cap2, .bool hv, .bool true, .bool true, .bool true, .bool true], []⟩ _
            refine wpAny_done (by kernel_rfl) ?_ _
            go_wp2
            go_ret
            exact ⟨rfl, HBW.out.trans (HB5.out.mono HBW.out.size)⟩
        ·
          go_simp
          refine hK _ _ ?_
          clear hK K
          change wpAny _ _ _ _ _ #[true, false, true, false, true, false, true, false, false, false, false, false, false] ⟨#[.agg #[.string op, .string tag, .slice b k.length c], .slice a j cap, .pointer (some ⟨w.heap.size, 0, none⟩), undef, .bool false, .slice a2 (2 * j) cap2, .int .i64 (-1), .agg #[.string op, .string tag, .slice b k.length c], .int .i64 q, .bool false, .bool false, .slice a j cap, .int .i64 j, .bool false, .bool false, .slice a j cap, .int .i64 j, .int .i64 ((j : Int) - 1), .int .i64 (-1), .bool false, u20, u21, u22, u23, u24, u25, u26, u27, u28, u29, u30, u31, u32, .agg #[.string op, .string tag, .slice b k.length c], undef, .slice a j cap, undef, .agg #[.string op, .string tag, .slice b k.length c], undef, .slice a2 (2 * j) cap2, undef, undef, undef, undef, undef], []⟩ _
          refine wpAny_ready (rs := [1]) (by kernel_rfl) (by simp) ?_
          refine AllReady.cons rfl (fun K hK => ?_) (AllReady.nil)
          go_simp
          go_at_call 11
          refine (COF2.out _ HB0.out).mono ?_
          rintro e W1 ⟨hb1, v1, rfl, hx1⟩
          rw [ExtAt_eq] at hx1
          obtain ⟨e1, c1, rfl, hl1⟩ := hx1
          refine hK _ _ ?_
          clear hK K
          change wpAny _ _ _ _ _ #[true, true, true, false, true, false, true, false, false, false, false, false, false] ⟨#[.agg #[.string op, .string tag, .slice b k.length c], .slice a j cap, .pointer (some ⟨w.heap.size, 0, none⟩), undef, .bool false, .slice a2 (2 * j) cap2, .int .i64 (-1), .agg #[.string op, .string tag, .slice b k.length c], .int .i64 q, .bool false, .bool false, .slice a j cap, .int .i64 j, .bool false, .bool false, .slice a j cap, .int .i64 j, .int .i64 ((j : Int) - 1), .int .i64 (-1), .bool false, u20, u21, u22, u23, u24, u25, u26, u27, u28, u29, u30, u31, u32, .agg #[.string op, .string tag, .slice b k.length c], .agg #[.string op, .string tag, .slice e1 k.length c1], .slice a j cap, undef, .agg #[.string op, .string tag, .slice b k.length c], undef, .slice a2 (2 * j) cap2, undef, undef, undef, undef, undef], []⟩ _
          have HB1 := Lib.hid (HB0.out.trans (hb1.mono HB0.out.size))
          have hq1 := (HB1.out.block _ (lt_of_block HQW.out)).trans HQW.out
          clear hb1 x0 x1 x2
          obtain ⟨⟨x0, x1, x2⟩, -⟩ := three_cells hq1
          have HL1 := Lib.hid hl1
          clear hl1
          refine wpAny_ready (rs := [3]) (by kernel_rfl) (by simp) ?_
          refine AllReady.cons rfl (fun K hK => ?_) (AllReady.nil)
          go_simp
          go_at_call 14
          refine (CH.out _ _ _ _ _ HL1.out (HTG2.out _ HB1.out)).mono ?_
          rintro e W2 ⟨rfl, hb2⟩
          refine hK _ _ ?_
          clear hK K
          change wpAny _ _ _ _ _ #[true, true, true, true, true, false, true, false, false, false, false, false, false] ⟨#[.agg #[.string op, .string tag, .slice b k.length c], .slice a j cap, .pointer (some ⟨w.heap.size, 0, none⟩), undef, .bool false, .slice a2 (2 * j) cap2, .int .i64 (-1), .agg #[.string op, .string tag, .slice b k.length c], .int .i64 q, .bool false, .bool false, .slice a j cap, .int .i64 j, .bool false, .bool false, .slice a j cap, .int .i64 j, .int .i64 ((j : Int) - 1), .int .i64 (-1), .bool false, u20, u21, u22, u23, u24, u25, u26, u27, u28, u29, u30, u31, u32, .agg #[.string op, .string tag, .slice b k.length c], .agg #[.string op, .string tag, .slice e1 k.length c1], .slice a j cap, .bool hv, .agg #[.string op, .string tag, .slice b k.length c], undef, .slice a2 (2 * j) cap2, undef, undef, undef, undef, undef], []⟩ _
          have HB2 := Lib.hid (HB1.out.trans (hb2.mono HB1.out.size))
          have hq2 := (HB2.out.block _ (lt_of_block HQW.out)).trans HQW.out
          clear hb2 x0 x1 x2
          obtain ⟨⟨x0, x1, x2⟩, -⟩ := three_cells hq2
          refine wpAny_ready (rs := [5]) (by kernel_rfl) (by simp) ?_
          refine AllReady.cons rfl (fun K hK => ?_) (AllReady.nil)
          go_simp
          go_at_call 11
          refine (COF2.out _ HB2.out).mono ?_
          rintro e W3 ⟨hb3, v3, rfl, hx3⟩
          rw [ExtAt_eq] at hx3
          obtain ⟨e3, c3, rfl, hl3⟩ := hx3
          refine hK _ _ ?_
          clear hK K
          change wpAny _ _ _ _ _ #[true, true, true, true, true, true, true, false, false, false, false, false, false] ⟨#[.agg #[.string op, .string tag, .slice b k.length c], .slice a j cap, .pointer (some ⟨w.heap.size, 0, none⟩), undef, .bool false, .slice a2 (2 * j) cap2, .int .i64 (-1), .agg #[.string op, .string tag, .slice b k.length c], .int .i64 q, .bool false, .bool false, .slice a j cap, .int .i64 j, .bool false, .bool false, .slice a j cap, .int .i64 j, .int .i64 ((j : Int) - 1), .int .i64 (-1), .bool false, u20, u21, u22, u23, u24, u25, u26, u27, u28, u29, u30, u31, u32, .agg #[.string op, .string tag, .slice b k.length c], .agg #[.string op, .string tag, .slice e1 k.length c1], .slice a j cap, .bool hv, .agg #[.string op, .string tag, .slice b k.length c], .agg #[.string op, .string tag, .slice e3 k.length c3], .slice a2 (2 * j) cap2, undef, undef, undef, undef, undef], []⟩ _
          have HB3 := Lib.hid (HB2.out.trans (hb3.mono HB2.out.size))
          have hq3 := (HB3.out.block _ (lt_of_block HQW.out)).trans HQW.out
          clear hb3 x0 x1 x2
          obtain ⟨⟨x0, x1, x2⟩, -⟩ := three_cells hq3
          have HL3 := Lib.hid hl3
          clear hl3
          refine wpAny_ready (rs := [7]) (by kernel_rfl) (by simp) ?_
          refine AllReady.cons rfl (fun K hK => ?_) (AllReady.nil)
          go_simp
          go_at_call 14
          refine (CH.out _ _ _ _ _ HL3.out (HT2.out _ HB3.out)).mono ?_
          rintro e W4 ⟨rfl, hb4⟩
          refine hK _ _ ?_
          clear hK K
          change wpAny _ _ _ _ _ #[true, true, true, true, true, true, true, true, false, false, false, false, false] ⟨#[.agg #[.string op, .string tag, .slice b k.length c], .slice a j cap, .pointer (some ⟨w.heap.size, 0, none⟩), undef, .bool false, .slice a2 (2 * j) cap2, .int .i64 (-1), .agg #[.string op, .string tag, .slice b k.length c], .int .i64 q, .bool false, .bool false, .slice a j cap, .int .i64 j, .bool false, .bool false, .slice a j cap, .int .i64 j, .int .i64 ((j : Int) - 1), .int .i64 (-1), .bool false, u20, u21, u22, u23, u24, u25, u26, u27, u28, u29, u30, u31, u32, .agg #[.string op, .string tag, .slice b k.length c], .agg #[.string op, .string tag, .slice e1 k.length c1], .slice a j cap, .bool hv, .agg #[.string op, .string tag, .slice b k.length c], .agg #[.string op, .string tag, .slice e3 k.length c3], .slice a2 (2 * j) cap2, .bool hv, undef, undef, undef, undef], []⟩ _
          have HB4 := Lib.hid (HB3.out.trans (hb4.mono HB3.out.size))
          have hq4 := (HB4.out.block _ (lt_of_block HQW.out)).trans HQW.out
          clear hb4 x0 x1 x2
          obtain ⟨⟨x0, x1, x2⟩, -⟩ := three_cells hq4
          refine wpAny_take (i := 8) (v := .bool true) rfl (by kernel_rfl) (by kernel_rfl) (by kernel_rfl) (fun _ _ _ h => h) (Or.inl ⟨by rfl, ?_⟩) ?_
          · intro w
            go_simp
            try with_reducible rfl
          change wpAny _ _ _ _ _ #[true, true, true, true, true, true, true, true, true, false, false, false, false] ⟨#[.agg #[.string op, .string tag, .slice b k.length c], .slice a j cap, .pointer (some ⟨w.heap.size, 0, none⟩), undef, .bool false, .slice a2 (2 * j) cap2, .int .i64 (-1), .agg #[.string op, .string tag, .slice b k.length c], .int .i64 q, .bool false, .bool false, .slice a j cap, .int .i64 j, .bool false, .bool false, .slice a j cap, .int .i64 j, .int .i64 ((j : Int) - 1), .int .i64 (-1), .bool false, u20, u21, u22, u23, u24, u25, u26, u27, u28, u29, u30, u31, u32, .agg #[.string op, .string tag, .slice b k.length c], .agg #[.string op, .string tag, .slice e1 k.length c1], .slice a j cap, .bool hv, .agg #[.string op, .string tag, .slice b k.length c], .agg #[.string op, .string tag, .slice e3 k.length c3], .slice a2 (2 * j) cap2, .bool hv, .bool true, undef, undef, undef], []⟩ _
          refine wpAny_take (i := 9) (v := .bool true) rfl (by kernel_rfl) (by kernel_rfl) (by kernel_rfl) (fun _ _ _ h => h) (Or.inl ⟨by rfl, ?_⟩) ?_
          · intro w
            go_simp
            try with_reducible rfl
          change wpAny _ _ _ _ _ #[true, true, true, true, true, true, true, true, true, true, false, false, false] ⟨#[.agg #[.string op, .string tag, .slice b k.length c], .slice a j cap, .pointer (some ⟨w.heap.size, 0, none⟩), undef, .bool false, .slice a2 (2 * j) cap2, .int .i64 (-1), .agg #[.string op, .string tag, .slice b k.length c], .int .i64 q, .bool false, .bool false, .slice a j cap, .int .i64 j, .bool false, .bool false, .slice a j cap, .int .i64 j, .int .i64 ((j : Int) - 1), .int .i64 (-1), .bool false, u20, u21, u22, u23, u24, u25, u26, u27, u28, u29, u30, u31, u32, .agg #[.string op, .string tag, .slice b k.length c], .agg #[.string op, .string tag, .slice e1 k.length c1], .slice a j cap, .bool hv, .agg #[.string op, .string tag, .slice b k.length c], .agg #[.string op, .string tag, .slice e3 k.length c3], .slice a2 (2 * j) cap2, .bool hv, .bool true, .bool true, undef, undef], []⟩ _
          refine wpAny_ready (rs := [10]) (by kernel_rfl) (by simp) ?_
          refine AllReady.cons rfl (fun K hK => ?_) (AllReady.nil)
          go_simp
          go_at_call 17
          refine (awake_any _).mono ?_
          rintro e W5 ⟨rfl, hb5⟩
          refine hK _ _ ?_
          clear hK K
          change wpAny _ _ _ _ _ #[true, true, true, true, true, true, true, true, true, true, true, false, false] ⟨#[.agg #[.string op, .string tag, .slice b k.length c], .slice a j cap, .pointer (some ⟨w.heap.size, 0, none⟩), undef, .bool false, .slice a2 (2 * j) cap2, .int .i64 (-1), .agg #[.string op, .string tag, .slice b k.length c], .int .i64 q, .bool false, .bool false, .slice a j cap, .int .i64 j, .bool false, .bool false, .slice a j cap, .int .i64 j, .int .i64 ((j : Int) - 1), .int .i64 (-1), .bool false, u20, u21, u22, u23, u24, u25, u26, u27, u28, u29, u30, u31, u32, .agg #[.string op, .string tag, .slice b k.length c], .agg #[.string op, .string tag, .slice e1 k.length c1], .slice a j cap, .bool hv, .agg #[.string op, .string tag, .slice b k.length c], .agg #[.string op, .string tag, .slice e3 k.length c3], .slice a2 (2 * j) cap2, .bool hv, .bool true, .bool true, .bool true, undef], []⟩ _
          have HB5 := Lib.hid (HB4.out.trans (hb5.mono HB4.out.size))
          have hq5 := (HB5.out.block _ (lt_of_block HQW.out)).trans HQW.out
          clear hb5 x0 x1 x2
          obtain ⟨⟨x0, x1, x2⟩, -⟩ := three_cells hq5
          refine wpAny_take (i := 11) (v := .bool true) rfl (by kernel_rfl) (by kernel_rfl) (by kernel_rfl) (fun _ _ _ h => h) (Or.inl ⟨by rfl, ?_⟩) ?_
          · intro w
            go_simp
            try with_reducible rfl
          change wpAny _ _ _ _ _ #[true, true, true, true, true, true, true, true, true, true, true, true, false] ⟨#[.agg #[.string op, .string tag, .slice b k.length c], .slice a j cap, .pointer (some ⟨w.heap.size, 0, none⟩), undef, .bool false, .slice a2 (2 * j) cap2, .int .i64 (-1), .agg #[.string op, .string tag, .slice b k.length c], .int .i64 q, .bool false, .bool false, .slice a j cap, .int .i64 j, .bool false, .bool false, .slice a j cap, .int .i64 j, .int .i64 ((j : Int) - 1), .int .i64 (-1), .bool false, u20, u21, u22, u23, u24, u25, u26, u27, u28, u29, u30, u31, u32, .agg #[.string op, .string tag, .slice b k.length c], .agg #[.string op, .string tag, .slice e1 k.length c1], .slice a j cap, .bool hv, .agg #[.string op, .string tag, .slice b k.length c], .agg #[.string op, .string tag, .slice e3 k.length c3], .slice a2 (2 * j) cap2, .bool hv, .bool true, .bool true, .bool true, .bool true], []⟩ _
          refine wpAny_take (i := 12) (v := .bool true) rfl (by kernel_rfl) (by kernel_rfl) (by kernel_rfl) (fun _ _ _ h => h) (Or.inl ⟨by rfl, ?_⟩) ?_
          · intro w
            go_simp
            try with_reducible rfl
          change wpAny _ _ _ _ _ #[true, true, true, true, true, true, true, true, true, true, true, true, true] ⟨#[.agg #[.string op, .string tag, .slice b k.length c], .slice a j cap, .pointer (some ⟨w.heap.size, 0, none⟩), undef, .bool true, .slice a2 (2 * j) cap2, .int .i64 (-1), .agg #[.string op, .string tag, .slice b k.length c], .int .i64 q, .bool false, .bool false, .slice a j cap, .int .i64 j, .bool false, .bool false, .slice a j cap, .int .i64 j, .int .i64 ((j : Int) - 1), .int .i64 (-1), .bool false, u20, u21, u22, u23, u24, u25, u26, u27, u28, u29, u30, u31, u32, .agg #[.string op, .string tag, .slice b k.length c], .agg #[.string op, .string tag, .slice e1 k.length c1], .slice a j cap, .bool hv, .agg #[.string op, .string tag, .slice b k.length c], .agg #[.string op, .string tag, .slice e3 k.length c3], .slice a2 (2 * j) cap2, .bool hv, .bool true, .bool true, .bool true, .bool true], []⟩ _
          refine wpAny_done (by kernel_rfl) ?_ _
          go_wp2
          go_ret
          exact ⟨rfl, HBW.out.trans (HB5.out.mono HBW.out.size)⟩
      ·
        go_simp
        refine hK _ _ ?_
        clear hK K
        change wpAny _ _ _ _ _ #[false, false, true, false, true, false, true, false, false, false, false, false, false] ⟨#[.agg #[.string op, .string tag, .slice b k.length c], .slice a j cap, .pointer (some ⟨w.heap.size, 0, none⟩), undef, .bool false, .slice a2 (2 * j) cap2, .int .i64 (-1), .agg #[.string op, .string tag, .slice b k.length c], .int .i64 q, .bool false, .bool false, .slice a j cap, .int .i64 j, .bool false, .bool false, .slice a j cap, .int .i64 j, .int .i64 ((j : Int) - 1), .int .i64 (-1), .bool false, u20, u21, u22, u23, u24, u25, u26, u27, u28, u29, u30, u31, u32, undef, undef, .slice a j cap, undef, .agg #[.string op, .string tag, .slice b k.length c], undef, .slice a2 (2 * j) cap2, undef, undef, undef, undef, undef], []⟩ _
        refine wpAny_ready (rs := [0]) (by kernel_rfl) (by simp) ?_
        refine AllReady.cons rfl (fun K hK => ?_) (AllReady.nil)
        go_simp
        refine hK _ _ ?_
        clear hK K
        change wpAny _ _ _ _ _ #[true, false, true, false, true, false, true, false, false, false, false, false, false] ⟨#[.agg #[.string op, .string tag, .slice b k.length c], .slice a j cap, .pointer (some ⟨w.heap.size, 0, none⟩), undef, .bool false, .slice a2 (2 * j) cap2, .int .i64 (-1), .agg #[.string op, .string tag, .slice b k.length c], .int .i64 q, .bool false, .bool false, .slice a j cap, .int .i64 j, .bool false, .bool false, .slice a j cap, .int .i64 j, .int .i64 ((j : Int) - 1), .int .i64 (-1), .bool false, u20, u21, u22, u23, u24, u25, u26, u27, u28, u29, u30, u31, u32, .agg #[.string op, .string tag, .slice b k.length c], undef, .slice a j cap, undef, .agg #[.string op, .string tag, .slice b k.length c], undef, .slice a2 (2 * j) cap2, undef, undef, undef, undef, undef], []⟩ _
        refine wpAny_ready (rs := [1]) (by kernel_rfl) (by simp) ?_
        refine AllReady.cons rfl (fun K hK => ?_) (AllReady.nil)
        go_simp
        go_at_call 11
        refine (COF2.out _ HB0.out).mono ?_
        rintro e W1 ⟨hb1, v1, rfl, hx1⟩
        rw [ExtAt_eq] at hx1
        obtain ⟨e1, c1, rfl, hl1⟩ := hx1
        refine hK _ _ ?_
        clear hK K
        change wpAny _ _ _ _ _ #[true, true, true, false, true, false, true, false, false, false, false, false, false] ⟨#[.agg #[.string op, .string tag, .slice b k.length c], .slice a j cap, .pointer (some ⟨w.heap.size, 0, none⟩), undef, .bool false, .slice a2 (2 * j) cap2, .int .i64 (-1), .agg #[.string op, .string tag, .slice b k.length c], .int .i64 q, .bool false, .bool false, .slice a j cap, .int .i64 j, .bool false, .bool false, .slice a j cap, .int .i64 j, .int .i64 ((j : Int) - 1), .int .i64 (-1), .bool false, u20, u21, u22, u23, u24, u25, u26, u27, u28, u29, u30, u31, u32, .agg #[.string op, .string tag, .slice b k.length c], .agg #[.string op, .string tag, .slice e1 k.length c1], .slice a j cap, undef, .agg #[.string op, .string tag, .slice b k.length c], undef, .slice a2 (2 * j) cap2, undef, undef, undef, undef, undef], []⟩ _
        have HB1 := Lib.hid (HB0.out.trans (hb1.mono HB0.out.size))
        have hq1 := (HB1.out.block _ (lt_of_block HQW.out)).trans HQW.out
        clear hb1 x0 x1 x2
        obtain ⟨⟨x0, x1, x2⟩, -⟩ := three_cells hq1
        have HL1 := Lib.hid hl1
        clear hl1
        refine wpAny_ready (rs := [3]) (by kernel_rfl) (by simp) ?_
        refine AllReady.cons rfl (fun K hK => ?_) (AllReady.nil)
        go_simp
        go_at_call 14
        refine (CH.out _ _ _ _ _ HL1.out (HTG2.out _ HB1.out)).mono ?_
        rintro e W2 ⟨rfl, hb2⟩
        refine hK _ _ ?_
        clear hK K
        change wpAny _ _ _ _ _ #[true, true, true, true, true, false, true, false, false, false, false, false, false] ⟨#[.agg #[.string op, .string tag, .slice b k.length c], .slice a j cap, .pointer (some ⟨w.heap.size, 0, none⟩), undef, .bool false, .slice a2 (2 * j) cap2, .int .i64 (-1), .agg #[.string op, .string tag, .slice b k.length c], .int .i64 q, .bool false, .bool false, .slice a j cap, .int .i64 j, .bool false, .bool false, .slice a j cap, .int .i64 j, .int .i64 ((j : Int) - 1), .int .i64 (-1), .bool false, u20, u21, u22, u23, u24, u25, u26, u27, u28, u29, u30, u31, u32, .agg #[.string op, .string tag, .slice b k.length c], .agg #[.string op, .string tag, .slice e1 k.length c1], .slice a j cap, .bool hv, .agg #[.string op, .string tag, .slice b k.length c], undef, .slice a2 (2 * j) cap2, undef, undef, undef, undef, undef], []⟩ _
        have HB2 := Lib.hid (HB1.out.trans (hb2.mono HB1.out.size))
        have hq2 := (HB2.out.block _ (lt_of_block HQW.out)).trans HQW.out
        clear hb2 x0 x1 x2
        obtain ⟨⟨x0, x1, x2⟩, -⟩ := three_cells hq2
        refine wpAny_ready (rs := [5]) (by kernel_rfl) (by simp) ?_
        refine AllReady.cons rfl (fun K hK => ?_) (AllReady.nil)
        go_simp
        go_at_call 11
        refine (COF2.out _ HB2.out).mono ?_
        rintro e W3 ⟨hb3, v3, rfl, hx3⟩
        rw [ExtAt_eq] at hx3
        obtain ⟨e3, c3, rfl, hl3⟩ := hx3
        refine hK _ _ ?_
        clear hK K
        change wpAny _ _ _ _ _ #[true, true, true, true, true, true, true, false, false, false, false, false, false] ⟨#[.agg #[.string op, .string tag, .slice b k.length c], .slice a j cap, .pointer (some ⟨w.heap.size, 0, none⟩), undef, .bool false, .slice a2 (2 * j) cap2, .int .i64 (-1), .agg #[.string op, .string tag, .slice b k.length c], .int .i64 q, .bool false, .bool false, .slice a j cap, .int .i64 j, .bool false, .bool false, .slice a j cap, .int .i64 j, .int .i64 ((j : Int) - 1), .int .i64 (-1), .bool false, u20, u21, u22, u23, u24, u25, u26, u27, u28, u29, u30, u31, u32, .agg #[.string op, .string tag, .slice b k.length c], .agg #[.string op, .string tag, .slice e1 k.length c1], .slice a j cap, .bool hv, .agg #[.string op, .string tag, .slice b k.length c], .agg #[.string op, .string tag, .slice e3 k.length c3], .slice a2 (2 * j) cap2, undef, undef, undef, undef, undef], []⟩ _
        have HB3 := Lib.hid (HB2.out.trans (hb3.mono HB2.out.size))
        have hq3 := (HB3.out.block _ (lt_of_block HQW.out)).trans HQW.out
        clear hb3 x0 x1 x2
        obtain ⟨⟨x0, x1, x2⟩, -⟩ := three_cells hq3
        have HL3 := Lib.hid hl3
        clear hl3
        refine wpAny_ready (rs := [7]) (by kernel_rfl) (by simp) ?_
        refine AllReady.cons rfl (fun K hK => ?_) (AllReady.nil)
        go_simp
        go_at_call 14
        refine (CH.out _ _ _ _ _ HL3.out (HT2.out _ HB3.out)).mono ?_
        rintro e W4 ⟨rfl, hb4⟩
        refine hK _ _ ?_
        clear hK K
        change wpAny _ _ _ _ _ #[true, true, true, true, true, true, true, true, false, false, false, false, false] ⟨#[.agg #[.string op, .string tag, .slice b k.length c], .slice a j cap, .pointer (some ⟨w.heap.size, 0, none⟩), undef, .bool false, .slice a2 (2 * j) cap2, .int .i64 (-1), .agg #[.string op, .string tag, .slice b k.length c], .int .i64 q, .bool false, .bool false, .slice a j cap, .int .i64 j, .bool false, .bool false, .slice a j cap, .int .i64 j, .int .i64 ((j : Int) - 1), .int .i64 (-1), .bool false, u20, u21, u22, u23, u24, u25, u26, u27, u28, u29, u30, u31, u32, .agg #[.string op, .string tag, .slice b k.length c], .agg #[.string op, .string tag, .slice e1 k.length c1], .slice a j cap, .bool hv, .agg #[.string op, .string tag, .slice b k.length c], .agg #[.string op, .string tag, .slice e3 k.length c3], .slice a2 (2 * j) cap2, .bool hv, undef, undef, undef, undef], []⟩ _
        have HB4 := Lib.hid (HB3.out.trans (hb4.mono HB3.out.size))
        have hq4 := (HB4.out.block _ (lt_of_block HQW.out)).trans HQW.out
        clear hb4 x0 x1 x2
        obtain ⟨⟨x0, x1, x2⟩, -⟩ := three_cells hq4
        refine wpAny_take (i := 8) (v := .bool true) rfl (by kernel_rfl) (by kernel_rfl) (by kernel_rfl) (fun _ _ _ h => h) (Or.inl ⟨by rfl, ?_⟩) ?_
        · intro w
          go_simp
          try with_reducible rfl
        change wpAny _ _ _ _ _ #[true, true, true, true, true, true, true, true, true, false, false, false, false] ⟨#[.agg #[.string op, .string tag, .slice b k.length c], .slice a j cap, .pointer (some ⟨w.heap.size, 0, none⟩), undef, .bool false, .slice a2 (2 * j) cap2, .int .i64 (-1), .agg #[.string op, .string tag, .slice b k.length c], .int .i64 q, .bool false, .bool false, .slice a j cap, .int .i64 j, .bool false, .bool false, .slice a j cap, .int .i64 j, .int .i64 ((j : Int) - 1), .int .i64 (-1), .bool false, u20, u21, u22, u23, u24, u25, u26, u27, u28, u29, u30, u31, u32, .agg #[.string op, .string tag, .slice b k.length c], .agg #[.string op, .string tag, .slice e1 k.length c1], .slice a j cap, .bool hv, .agg #[.string op, .string tag, .slice b k.length c], .agg #[.string op, .string tag, .slice e3 k.length c3], .slice a2 (2 * j) cap2, .bool hv, .bool true, undef, undef, undef], []⟩ _
        refine wpAny_take (i := 9) (v := .bool true) rfl (by kernel_rfl) (by kernel_rfl) (by kernel_rfl) (fun _ _ _ h => h) (Or.inl ⟨by rfl, ?_⟩) ?_
        · intro w
          go_simp
          try with_reducible rfl
        change wpAny _ _ _ _ _ #[true, true, true, true, true, true, true, true, true, true, false, false, false] ⟨#[.agg #[.string op, .string tag, .slice b k.length c], .slice a j cap, .pointer (some ⟨w.heap.size, 0, none⟩), undef, .bool false, .slice a2 (2 * j) cap2, .int .i64 (-1), .agg #[.string op, .string tag, .slice b k.length c], .int .i64 q, .bool false, .bool false, .slice a j cap, .int .i64 j, .bool false, .bool false, .slice a j cap, .int .i64 j, .int .i64 ((j : Int) - 1), .int .i64 (-1), .bool false, u20, u21, u22, u23, u24, u25, u26, u27, u28, u29, u30, u31, u32, .agg #[.string op, .string tag, .slice b k.length c], .agg #[.string op, .string tag, .slice e1 k.length c1], .slice a j cap, .bool hv, .agg #[.string op, .string tag, .slice b k.length c], .agg #[.string op, .string tag, .slice e3 k.length c3], .slice a2 (2 * j) cap2, .bool hv, .bool true, .bool true, undef, undef], []⟩ _
        refine wpAny_ready (rs := [10]) (by kernel_rfl) (by simp) ?_
        refine AllReady.cons rfl (fun K hK => ?_) (AllReady.nil)
        go_simp
        go_at_call 17
        refine (awake_any _).mono ?_
        rintro e W5 ⟨rfl, hb5⟩
        refine hK _ _ ?_
        clear hK K
        change wpAny _ _ _ _ _ #[true, true, true, true, true, true, true, true, true, true, true, false, false] ⟨#[.agg #[.string op, .string tag, .slice b k.length c], .slice a j cap, .pointer (some ⟨w.heap.size, 0, none⟩), undef, .bool false, .slice a2 (2 * j) cap2, .int .i64 (-1), .agg #[.string op, .string tag, .slice b k.length c], .int .i64 q, .bool false, .bool false, .slice a j cap, .int .i64 j, .bool false, .bool false, .slice a j cap, .int .i64 j, .int .i64 ((j : Int) - 1), .int .i64 (-1), .bool false, u20, u21, u22, u23, u24, u25, u26, u27, u28, u29, u30, u31, u32, .agg #[.string op, .string tag, .slice b k.length c], .agg #[.string op, .string tag, .slice e1 k.length c1], .slice a j cap, .bool hv, .agg #[.string op, .string tag, .slice b k.length c], .agg #[.string op, .string tag, .slice e3 k.length c3], .slice a2 (2 * j) cap2, .bool hv, .bool true, .bool true, .bool true, undef], []⟩ _
        have HB5 := Lib.hid (HB4.out.trans (hb5.mono HB4.out.size))
        have hq5 := (HB5.out.block _ (lt_of_block HQW.out)).trans HQW.out
        clear hb5 x0 x1 x2
        obtain ⟨⟨x0, x1, x2⟩, -⟩ := three_cells hq5
        refine wpAny_take (i := 11) (v := .bool true) rfl (by kernel_rfl) (by kernel_rfl) (by kernel_rfl) (fun _ _ _ h => h) (Or.inl ⟨by rfl, ?_⟩) ?_
        · intro w
          go_simp
          try with_reducible rfl
        change wpAny _ _ _ _ _ #[true, true, true, true, true, true, true, true, true, true, true, true, false] ⟨#[.agg #[.string op, .string tag, .slice b k.length c], .slice a j cap, .pointer (some ⟨w.heap.size, 0, none⟩), undef, .bool false, .slice a2 (2 * j) cap2, .int .i64 (-1), .agg #[.string op, .string tag, .slice b k.length c], .int .i64 q, .bool false, .bool false, .slice a j cap, .int .i64 j, .bool false, .bool false, .slice a j cap, .int .i64 j, .int .i64 ((j : Int) - 1), .int .i64 (-1), .bool false, u20, u21, u22, u23, u24, u25, u26, u27, u28, u29, u30, u31, u32, .agg #[.string op, .string tag, .slice b k.length c], .agg #[.string op, .string tag, .slice e1 k.length c1], .slice a j cap, .bool hv, .agg #[.string op, .string tag, .slice b k.length c], .agg #[.string op, .string tag, .slice e3 k.length c3], .slice a2 (2 * j) cap2, .bool hv, .bool true, .bool true, .bool true, .bool true], []⟩ _
        refine wpAny_take (i := 12) (v := .bool true) rfl (by kernel_rfl) (by kernel_rfl) (by kernel_rfl) (fun _ _ _ h => h) (Or.inl ⟨by rfl, ?_⟩) ?_
        · intro w
          go_simp
          try with_reducible rfl
        change wpAny _ _ _ _ _ #[true, true, true, true, true, true, true, true, true, true, true, true, true] ⟨#[.agg #[.string op, .string tag, .slice b k.length c], .slice a j cap, .pointer (some ⟨w.heap.size, 0, none⟩), undef, .bool true, .slice a2 (2 * j) cap2, .int .i64 (-1), .agg #[.string op, .string tag, .slice b k.length c], .int .i64 q, .bool false, .bool false, .slice a j cap, .int .i64 j, .bool false, .bool false, .slice a j cap, .int .i64 j, .int .i64 ((j : Int) - 1), .int .i64 (-1), .bool false, u20, u21, u22, u23, u24, u25, u26, u27, u28, u29, u30, u31, u32, .agg #[.string op, .string tag, .slice b k.length c], .agg #[.string op, .string tag, .slice e1 k.length c1], .slice a j cap, .bool hv, .agg #[.string op, .string tag, .slice b k.length c], .agg #[.string op, .string tag, .slice e3 k.length c3], .slice a2 (2 * j) cap2, .bool hv, .bool true, .bool true, .bool true, .bool true], []⟩ _
        refine wpAny_done (by kernel_rfl) ?_ _
        go_wp2
        go_ret
        exact ⟨rfl, HBW.out.trans (HB5.out.mono HBW.out.size)⟩

theorem lists_walk (x : Ex) (v : Value) (w : World) (ok : Nat → Prop) (hb : bulkE x ≤ 1048576) (hx : ExtAt w ok x v) (a : Option Addr) (n cap : Nat) (zs : List ByteArray) (hz : TagRow w a n zs) :
    Calls Tryd.prog 9 #[v, .slice a n cap] w fun e w' => e = .returned (.bool true) ∧ Below w.heap.size w w' := by
  by_cases h1 : 200 < nodesE x
  · exact lists_long x v w ok hb hx a n cap (.inl h1)
  by_cases h2 : 20 < n
  · exact lists_long x v w ok hb hx a n cap (.inr h2)
  exact lists_go x v w ok hb hx a n cap zs hz (by omega) (by omega)
end Go.Proofs.YtojdhlmmnhjolaaDoor
