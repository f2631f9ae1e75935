/- package ver: what a go.mod says. -/
import Derived.Test.YtnghlhkgeahfmaaDoorVer10
import Derived.Maps.OwnIn
namespace Go.Proofs.YtnghlhkgeahfmaaDoor
open Go.RowKit Go.Maps Go.ChangeMaps Go.Shelf
set_option linter.unusedVariables false
attribute [local go_sem] Oper.semAt_some

/-- What Read tells. -/
def modV (p : List UInt8) (m : Nat) : Value := .agg #[.string ⟨p.toArray⟩, .int .i64 (m : Nat)]
def readV (s : ByteArray) : Value :=
  if 65536 < s.size then .tuple #[modV [] 0, .int .i64 12] else match readL (ls s) with
  | some (p, m) => .tuple #[modV p m, .int .i64 0]
  | none => .tuple #[modV [] 0, .int .i64 7]

theorem read_results (tmps : Array Value) (W : World) (b c : Nat) (x y : Value) (e : Int) (h2 : tmps.getD 2 undef = .pointer (some ⟨b, 0, none⟩)) (h3 : tmps.getD 3 undef = .pointer (some ⟨c, 0, none⟩))
    (hb : W.heap[b]? = some (.cells #[x, y] 33 (0, 0))) (hc : W.heap[c]? = some (.cells #[.int .i64 e] 22 (0, 0))) :
    (results Tryd.f17 tmps).run Tryd.prog W = .ok (.tuple #[.agg #[x, y], .int .i64 e]) W := by
  have k2 : tmps[2]?.getD undef = .pointer (some ⟨b, 0, none⟩) := by simpa using h2
  have k3 : tmps[3]?.getD undef = .pointer (some ⟨c, 0, none⟩) := by simpa using h3
  obtain ⟨b0, b1, _, _⟩ := two_cells hb
  have c1 := (one_cell hc).1
  simp [results, Tryd.results17, k2, k3, asAddr, go_sem, b0, b1, c1]

theorem at_new (w : World) (o : Obj) (n : Nat) (h : n = w.heap.size) : (w.alloc o).heap[n]? = some o := by rw [h]; exact heap_alloc_new w o
theorem at_old (w : World) (o p : Obj) (n : Nat) (h : w.heap[n]? = some p) : (w.alloc o).heap[n]? = some p := (Below.heap_alloc _ _ _ (lt_of_block h)).trans h

set_option maxHeartbeats 2000000 in
set_option maxRecDepth 100000 in
theorem read_long (s : ByteArray) (a : Option Addr) (cap : Nat) (w : World) (hs : 65536 < s.size) (hs2 : s.size ≤ 1000000) : Calls Tryd.prog 17 #[.slice a s.size cap] w fun e w' => e = .returned (.tuple #[modV [] 0, .int .i64 12]) ∧ Below w.heap.size w w' := by
  have g1 : decide ((65536 : Int) < (s.size : Int)) = true := by simp; omega
  clear hs
  go_enter Tryd.func17, Tryd.ntmps17
  go_wp2
  refine bodyPost_ret (read_results _ _ w.heap.size (w.heap.size + 1) _ _ _ rfl rfl (at_old _ _ _ _ (at_new _ _ _ rfl)) (at_new _ _ _ (by simp))) rfl ?_
  exact ⟨rfl, ((Below.refl _ w).alloc (Nat.le_refl _) _).alloc (by simp) _⟩

/-- What stands while the lines are read. -/
structure Fix (n r1 mb rb bm bp bv : Nat) (w W : World) : Prop where
  low : Below n w W
  r0 : W.heap[n]? = some (.cells #[.string ⟨#[]⟩, .int .i64 0] 33 (0, 0))
  r1 : W.heap[r1]? = some (.cells #[.int .i64 0] 22 (0, 0))
  map : RulesAt W mb (rulesOf bm bp bv)
  rb : W.heap[rb]? = some (.cells #[.map (some mb)] 53 (0, 0))
  ml : MaxLen W

theorem below_put {B l : Nat} {w W : World} (h : Below B w W) (hl : B ≤ l) (o : Obj) : Below B w (W.putObj l o) :=
  ⟨h.os, h.tape, h.output, by have := h.size; simpa using this, fun k hk => (World.putObj_heap_other (by omega)).trans (h.block k hk)⟩
theorem MaxLen.from {w w' : World} {B : Nat} (h : MaxLen w) (hB : gML < B) (hb : Below B w w') : MaxLen w' := by
  obtain ⟨m, h⟩ := h
  exact ⟨m, (hb.cell (p := ⟨gML, 0, none⟩) hB).trans h⟩
theorem Fix.below {n r1 mb rb bm bp bv : Nat} {w W W' : World} (h : Fix n r1 mb rb bm bp bv w W) {B : Nat} (hb : Below B W W') (h0 : n < B) (h1 : r1 < B) (h2 : mb < B) (h3 : rb < B) (hg : gML < B) : Fix n r1 mb rb bm bp bv w W' :=
  ⟨h.low.trans (hb.mono (by omega)), (hb.block _ h0).trans h.r0, (hb.block _ h1).trans h.r1, (hb.block _ h2).trans h.map, (hb.block _ h3).trans h.rb, h.ml.from hg hb⟩
theorem Fix.three {n r1 mb rb bm bp bv : Nat} {w W W' : World} (h : Fix n r1 mb rb bm bp bv w W) (hb : Three bm bp bv W W') (e1 : r1 = n + 1) (e2 : bm = r1 + 1) (e3 : bp = bm + 1) (e4 : bv = bp + 1) (e5 : mb = bv + 1) (e6 : rb = mb + 1) (hg : gML < n) : Fix n r1 mb rb bm bp bv w W' := by
  have l0 := lt_of_block h.r0
  have l1 := lt_of_block h.r1
  have l2 := lt_of_block h.map
  have l3 := lt_of_block h.rb
  exact ⟨h.low.trans (hb.below (by omega) (by omega) (by omega) (by omega)), (hb.block _ l0 (by omega) (by omega) (by omega)).trans h.r0, (hb.block _ l1 (by omega) (by omega) (by omega)).trans h.r1,
    (hb.block _ l2 (by omega) (by omega) (by omega)).trans h.map, (hb.block _ l3 (by omega) (by omega) (by omega)).trans h.rb, hb.maxLen h.ml (by omega) (by omega) (by omega)⟩
theorem Row.putObj (b : Nat) (x : List ByteArray) (A : World) (k : Nat) (r : Loop) (o : Obj) (h : Row b x A) (hk : A.heap[k]? = some (.loop r)) : Row b x (A.putObj k o) := fun i t ht => by
  have hc := h i t ht
  by_cases e : b = k
  · subst e
    simp [World.cell?, hk] at hc
  · rw [cell_of_heap (World.putObj_heap_other e)]
    exact hc

set_option maxHeartbeats 2000000 in
set_option maxRecDepth 100000 in
theorem read_any (s : ByteArray) (a : Option Addr) (cap : Nat) (w : World) (hT : Text w a s) (hs : s.size ≤ 65536) (hm : MaxLen w) : Calls Tryd.prog 17 #[.slice a s.size cap] w fun e w' => e = .returned (readV s) ∧ Below w.heap.size w w' := by
  have g1 : decide ((65536 : Int) < (s.size : Int)) = false := by simp; omega
  have HS := Lib.hid hs
  clear hs
  have hgl : gML < w.heap.size := by
    obtain ⟨m, hm⟩ := hm
    rcases Nat.lt_or_ge gML w.heap.size with h' | h'
    · exact h'
    · unfold gML at h'; simp [World.cell?, Array.getElem?_eq_none h'] at hm
  have HG := Lib.hid hgl
  have HM := Lib.hid hm
  have HT := Lib.hid hT
  clear hgl hm hT
  have hmm := @run_makeMap Tryd.prog
  refine (callsIn_wide (n := 4)).1 ?_
  refine callsIn_of_wp_marks Tryd.func17 rfl trivial ?_ rfl
  simp only [Tryd.ntmps17, List.size_toArray, List.length_cons, List.length_nil, Nat.reduceAdd, Nat.reduceSub, Array.replicate_succ, Array.replicate_zero, List.push_toArray, List.append_toArray, List.nil_append, List.cons_append]
  gi_wp2
  clear hmm
  obtain ⟨r1, h1⟩ : ∃ r1, r1 = w.heap.size + 1 := ⟨_, rfl⟩
  rw [← h1]
  obtain ⟨bm, h2⟩ : ∃ bm, bm = r1 + 1 := ⟨_, rfl⟩
  rw [← h2]
  obtain ⟨bp, h3⟩ : ∃ bp, bp = bm + 1 := ⟨_, rfl⟩
  rw [← h3]
  obtain ⟨bv, h4⟩ : ∃ bv, bv = bp + 1 := ⟨_, rfl⟩
  rw [← h4]
  obtain ⟨mb, h5⟩ : ∃ mb, mb = bv + 1 := ⟨_, rfl⟩
  rw [← h5]
  obtain ⟨W0, hW0⟩ : ∃ W0, (((((w.alloc (.cells #[.string ⟨#[]⟩, .int .i64 0] 33)).alloc (.cells #[.int .i64 0] 22)).alloc (.cells #[.string ⟨#[]⟩, .int .i64 16] 33)).alloc (.cells #[.int .i64 0] 3)).alloc (.cells #[.int .i64 0] 3)).alloc (.map #[] 0) = W0 := ⟨_, rfl⟩
  have q0 : W0.heap[w.heap.size]? = some (.cells #[.string ⟨#[]⟩, .int .i64 0] 33 (0, 0)) := by rw [← hW0]; exact at_old _ _ _ _ (at_old _ _ _ _ (at_old _ _ _ _ (at_old _ _ _ _ (at_old _ _ _ _ (at_new _ _ _ rfl)))))
  have q1 : W0.heap[r1]? = some (.cells #[.int .i64 0] 22 (0, 0)) := by rw [← hW0]; exact at_old _ _ _ _ (at_old _ _ _ _ (at_old _ _ _ _ (at_old _ _ _ _ (at_new _ _ _ (by simp; omega)))))
  have q2 : W0.heap[bm]? = some (.cells #[.string ⟨#[]⟩, .int .i64 16] 33 (0, 0)) := by rw [← hW0]; exact at_old _ _ _ _ (at_old _ _ _ _ (at_old _ _ _ _ (at_new _ _ _ (by simp; omega))))
  have q3 : W0.heap[bp]? = some (.cells #[.int .i64 0] 3 (0, 0)) := by rw [← hW0]; exact at_old _ _ _ _ (at_old _ _ _ _ (at_new _ _ _ (by simp; omega)))
  have q4 : W0.heap[bv]? = some (.cells #[.int .i64 0] 3 (0, 0)) := by rw [← hW0]; exact at_old _ _ _ _ (at_new _ _ _ (by simp; omega))
  have q5 : RulesAt W0 mb [] := by unfold RulesAt; rw [← hW0]; exact at_new _ _ _ (by simp; omega)
  have q6 : Below w.heap.size w W0 := by rw [← hW0]; exact ((((((Below.refl _ w).alloc (Nat.le_refl _) _).alloc (by simp) _).alloc (by simp; omega) _).alloc (by simp; omega) _).alloc (by simp; omega) _).alloc (by simp; omega) _
  have q7 : W0.heap.size = mb + 1 := by rw [← hW0]; simp; omega
  rw [hW0]
  clear hW0
  have kM : (⟨#[109, 111, 100, 117, 108, 101]⟩ : ByteArray).size ≤ 1000000 := by decide
  have kG : (⟨#[103, 111]⟩ : ByteArray).size ≤ 1000000 := by decide
  have kC : (⟨#[116, 111, 111, 108, 99, 104, 97, 105, 110]⟩ : ByteArray).size ≤ 1000000 := by decide
  have kMG : (⟨#[109, 111, 100, 117, 108, 101]⟩ : ByteArray) ≠ ⟨#[103, 111]⟩ := by decide
  have kMC : (⟨#[109, 111, 100, 117, 108, 101]⟩ : ByteArray) ≠ ⟨#[116, 111, 111, 108, 99, 104, 97, 105, 110]⟩ := by decide
  have kGC : (⟨#[103, 111]⟩ : ByteArray) ≠ ⟨#[116, 111, 111, 108, 99, 104, 97, 105, 110]⟩ := by decide
  have HQ := Lib.hid (And.intro q0 (And.intro q1 (And.intro q2 (And.intro q3 (And.intro q4 (And.intro q6 q7))))))
  have HH := Lib.hid (And.intro h1 (And.intro h2 (And.intro h3 (And.intro h4 h5))))
  clear q0 q1 q2 q3 q4 q6 q7 h1 h2 h3 h4 h5
  obtain ⟨W1, e0, m0, z0, o0, b0⟩ := rules_put q5 ⟨#[109, 111, 100, 117, 108, 101]⟩ (.func (.func 29) #[] #[.pointer (some ⟨bm, 0, none⟩), .pointer (some ⟨bp, 0, none⟩)]) (by intro y hy; cases hy) kM (by intro y hy; cases hy)
  rw [e0]
  clear e0
  simp only [Result.andThen]
  rw [Oper.uponIn_skip]
  have M0 := Lib.hid m0
  clear m0
  gi_wp2
  obtain ⟨W2, e1, m1, z1, o1, b1⟩ := rules_put M0.out ⟨#[103, 111]⟩ (.func (.func 30) #[] #[.pointer (some ⟨bm, 0, none⟩), .pointer (some ⟨bv, 0, none⟩)]) (by intro y hy; simp at hy; subst hy; exact kM) kG (by intro y hy; simp at hy; subst hy; exact kMG)
  rw [e1]
  clear e1
  simp only [Result.andThen]
  rw [Oper.uponIn_skip]
  have M1 := Lib.hid m1
  clear m1
  gi_wp2
  obtain ⟨W3, e2, m2, z2, o2, b2⟩ := rules_put M1.out ⟨#[116, 111, 111, 108, 99, 104, 97, 105, 110]⟩ (.func (.func 31) #[] #[]) (by intro y hy; simp at hy; rcases hy with rfl | rfl; exact kM; exact kG) kC (by intro y hy; simp at hy; rcases hy with rfl | rfl; exact kMC; exact kGC)
  rw [e2]
  clear e2
  simp only [Result.andThen]
  rw [Oper.uponIn_skip]
  have M2 := Lib.hid m2
  clear m2
  gi_wp2
  obtain ⟨rb, hrb⟩ : ∃ rb, rb = W0.heap.size := ⟨_, rfl⟩
  rw [← hrb]
  obtain ⟨W4, hW4⟩ : ∃ W4, W3.alloc (.cells #[.map (some mb)] 53) = W4 := ⟨_, rfl⟩
  have hw3 : Below w.heap.size w W3 := by
    obtain ⟨_, _, _, _, _, q6, _⟩ := HQ.out
    obtain ⟨h1, h2, h3, h4, h5⟩ := HH.out
    have hle : w.heap.size ≤ mb := by omega
    exact ((q6.trans (b0 _ hle)).trans (b1 _ hle)).trans (b2 _ hle)
  have hz3 : W3.heap.size = rb := by rw [z2, z1, z0, hrb]
  have ho3 : ∀ j o, j ≠ mb → W0.heap[j]? = some o → W4.heap[j]? = some o := fun j o hj h => by
    rw [← hW4]
    exact at_old _ _ _ _ ((o2 j hj).trans ((o1 j hj).trans ((o0 j hj).trans h)))
  have hb4 : Below w.heap.size w W4 := by rw [← hW4]; exact hw3.alloc hw3.size _
  have hne : w.heap.size ≠ mb ∧ r1 ≠ mb ∧ bm ≠ mb ∧ bp ≠ mb ∧ bv ≠ mb := by
    obtain ⟨h1, h2, h3, h4, h5⟩ := HH.out
    omega
  have hfix : Fix w.heap.size r1 mb rb bm bp bv w W4 := by
    obtain ⟨q0, q1, _, _, _, _, _⟩ := HQ.out
    refine ⟨hb4, ho3 _ _ hne.1 q0, ho3 _ _ hne.2.1 q1, ?_, ?_, HM.out.below hb4⟩
    · unfold RulesAt; rw [← hW4]; exact at_old _ _ _ _ M2.out
    · rw [← hW4]; exact at_new _ _ _ hz3.symm
  have hst : St bm bp bv startL W4 := by
    obtain ⟨_, _, q2, q3, q4, _, _⟩ := HQ.out
    exact ⟨ho3 _ _ hne.2.2.1 q2, ho3 _ _ hne.2.2.2.1 q3, ho3 _ _ hne.2.2.2.2 q4⟩
  have hz4 : W4.heap.size = rb + 1 := by rw [← hW4, World.size_alloc, hz3]
  rw [hW4]
  have HFIX := Lib.hid hfix
  have HST := Lib.hid hst
  have HZ4 := Lib.hid hz4
  have HRB : Hid (rb = mb + 1) := by obtain ⟨_, _, _, _, _, _, q7⟩ := HQ.out; show _ = _; rw [hrb, q7]
  have hcv := (HT.out.below hb4).conv cap
  clear hW4 hw3 hz3 ho3 hb4 hne hfix hst hz4 hrb z0 z1 z2 o0 o1 o2 b0 b1 b2 M0 M1 M2 HQ kM kG kC kMG kMC kGC q5
  rw [hcv]
  clear hcv
  simp only [Result.andThen]
  rw [Oper.uponIn_value]
  gi_wp2_with (refine ⟨trivial, ?_⟩; gi_at_call 32; refine (callsIn_wide.2 (lines_any s _)).mono ?_; rintro e W5 ⟨rfl, hc5, hb5⟩; have HC5 := Lib.hid hc5; have HB5 := Lib.hid hb5; clear hc5 hb5)
  obtain ⟨h1, h2, h3, h4, h5⟩ := HH.out
  have h6 := HRB.out
  have hz5 : rb + 1 < W5.heap.size := by
    have := HC5.out
    have h4 := HZ4.out
    rcases Nat.lt_or_ge (rb + 1) W5.heap.size with h | h
    · exact h
    · rw [h4] at this; simp [World.cell?, Array.getElem?_eq_none h] at this
  have hg := HG.out
  have HW : Hid (W5.heap.size ≤ W5.heap.size) := Nat.le_refl _
  have HFIX5 : Hid (Fix w.heap.size r1 mb rb bm bp bv w W5) := by
    have := HZ4.out
    exact HFIX.out.below HB5.out (by omega) (by omega) (by omega) (by omega) (by omega)
  have HST5 : Hid (St bm bp bv startL W5) := by
    have := HZ4.out
    exact HST.out.below HB5.out (by omega) (by omega) (by omega)
  obtain ⟨sb, hsb⟩ : ∃ sb, sb = W4.heap.size := ⟨_, rfl⟩
  have hsbl : sb < W5.heap.size := by have := HZ4.out; omega
  have HC : Hid (W5.cell? ⟨sb, 0, none⟩ = some (.string s)) := by rw [hsb]; exact HC5.out
  rw [← hsb]
  clear hsb HFIX HST HZ4 HC5 HB5
  refine range_x (α := List ByteArray) rfl (by omega) (gf := 38) (lb := #[.pointer (some ⟨sb, 0, none⟩)]) rfl trivial (enters_of Tryd.func38 (by kernel_rfl) rfl)
    (wordsOf s) rowV Row MaxLen rfl
    (fun l J Jx W hW hJ hM hY h0 => lines1_in 3 (by omega) l J Jx s (Nat.le_trans HS.out (by decide)) sb W hJ hM hY h0 ((hW.cell (p := ⟨sb, 0, none⟩) hsbl).trans HC.out))
    (fun b x A k r o h hk => Row.putObj b x A k r o h hk)
    (fun k W => ∃ y, St bm bp bv y W ∧ foldL startL ((partsF 10 [] (ls s)).take k) = some y ∧ y.paths ≤ k ∧ y.vers ≤ k ∧ Fix w.heap.size r1 mb rb bm bp bv w W)
    (fun W => Below w.heap.size w W ∧ W.heap[w.heap.size]? = some (.cells #[.string ⟨#[]⟩, .int .i64 0] 33 (0, 0)) ∧ W.heap[r1]? = some (.cells #[.int .i64 7] 22 (0, 0)) ∧ foldL startL (partsF 10 [] (ls s)) = none)
    ?hI ?hIx (fun k A ⟨y, _, _, _, _, h⟩ => h.ml)
    ⟨startL, HST5.out, rfl, Nat.le_refl _, Nat.le_refl _, HFIX5.out⟩
    (fun b x => { tmps := #[.slice a s.size cap, undef, .pointer (some ⟨w.heap.size, 0, none⟩), .pointer (some ⟨r1, 0, none⟩), .pointer (some ⟨bm, 0, none⟩), .pointer (some ⟨bp, 0, none⟩), .pointer (some ⟨bv, 0, none⟩), .pointer (some ⟨rb, 0, none⟩), rowV b x, .slice a s.size cap,
      .int .i64 s.size, .bool false, undef, .agg #[.string ⟨#[]⟩, .int .i64 16], .map (some mb), .func (.func 29) #[] #[.pointer (some ⟨bm, 0, none⟩), .pointer (some ⟨bp, 0, none⟩)], .func (.func 30) #[] #[.pointer (some ⟨bm, 0, none⟩), .pointer (some ⟨bv, 0, none⟩)],
      .map (some mb), .slice a s.size cap, .string s, .func (.func 38) #[] #[.pointer (some ⟨sb, 0, none⟩)], rowV b x, undef, undef, undef, undef, undef, undef, undef, undef, undef, undef, undef, undef, undef], defers := [] }) ?assign ?body ?done ?stop
  case hI =>
    rintro k A B ⟨y, hs', hf, hp, hv, hx⟩ hb
    exact ⟨y, hs'.below hb (by omega) (by omega) (by omega), hf, hp, hv, hx.below hb (by omega) (by omega) (by omega) (by omega) (by omega)⟩
  case hIx =>
    rintro A B ⟨hl, ha, hb', hf⟩ hb
    exact ⟨hl.trans (hb.mono (by omega)), (hb.block _ (by omega)).trans ha, (hb.block _ (by omega)).trans hb', hf⟩
  case assign =>
    intro l b x W K hK
    clear h1 h2 h3 h4 h5 h6 hz5 hg hsbl
    gi_wp2
    exact hK
  case body =>
    rintro l k b x W ⟨y, hst, hf, hp, hv, hx⟩ hxs hrow hle
    obtain ⟨hwl, ln, hln, hls'⟩ := wordsOf_len s k x hxs
    have hk : k ≤ 65536 := by
      have e1 := (List.getElem?_eq_some_iff.1 hln).1
      have e2 := parts_count 10 (ls s) []
      rw [ls_len] at e2
      have := HS.out
      omega
    have hlen : ∀ t ∈ x, t.size ≤ 1000000 := fun t ht => by have := hwl t ht; have := HS.out; omega
    have hnx := foldL_next hln hf
    rw [← hls'] at hnx
    have crb := (one_cell hx.rb).1
    have HX := Lib.hid hx
    have HNX := Lib.hid hnx
    have HP := Lib.hid hp
    have HV := Lib.hid hv
    have HLE := Lib.hid hle
    have HH2 := Lib.hid (And.intro h1 (And.intro h2 (And.intro h3 (And.intro h4 (And.intro h5 (And.intro h6 (And.intro hz5 hg)))))))
    have n1 : bm ≠ bp := by omega
    have n2 : bm ≠ bv := by omega
    have n3 : bp ≠ bv := by omega
    have N1 := Lib.hid n1
    have N2 := Lib.hid n2
    have N3 := Lib.hid n3
    cases hso : stepL y (x.map ls) with
    | some z =>
      have hfo := follows_some bm bp bv mb b y z x W hso hlen hrow hx.map hst hx.ml (by omega) (by omega) (by omega) n1 n2 n3 (by omega) (by omega)
      clear h1 h2 h3 h4 h5 h6 hz5 hg hsbl hle hp hv hx hnx hlen hwl hk hst hf hxs hrow hln hls' n1 n2 n3
      unfold rowV
      gi_wp2_with (refine ⟨trivial, ?_⟩; gi_at_call 33; refine (CallsIn.inRound l (callsIn_wide.2 hfo)).mono ?_; rintro e W2 ⟨rfl, hs2, h32, hp2, hv2⟩; have HS2 := Lib.hid hs2; have H32 := Lib.hid h32; have HP2 := Lib.hid hp2; have HV2 := Lib.hid hv2; clear hs2 h32 hp2 hv2)
      obtain ⟨h1, h2, h3, h4, h5, h6, hz5, hg⟩ := HH2.out
      have := HLE.out
      have := HP.out
      have := HV.out
      have := HP2.out
      have := HV2.out
      exact ⟨⟨H32.out.size, fun j hj hjl => H32.out.block j hjl (by omega) (by omega) (by omega)⟩, z, HS2.out, by rw [HNX.out, hso], by omega, by omega, HX.out.three H32.out h1 h2 h3 h4 h5 h6 hg⟩
    | none =>
      have hfo := follows_no bm bp bv mb b y x W hso hlen hrow hx.map hst hx.ml (by omega) (by omega) (by omega) n1 n2 n3 (by omega) (by omega)
      have n4 : w.heap.size ≠ r1 := by omega
      have N4 := Lib.hid n4
      clear h1 h2 h3 h4 h5 h6 hz5 hg hsbl hle hp hv hx hnx hlen hwl hk hst hf hxs hrow hln hls' n1 n2 n3
      unfold rowV
      gi_wp2_with (refine ⟨trivial, ?_⟩; gi_at_call 33; refine (CallsIn.inRound l (callsIn_wide.2 hfo)).mono ?_; rintro e W2 ⟨rfl, h32⟩; have H32 := Lib.hid h32; have HX2 := (Lib.hid (HX.out.three h32 HH2.out.1 HH2.out.2.1 HH2.out.2.2.1 HH2.out.2.2.2.1 HH2.out.2.2.2.2.1 HH2.out.2.2.2.2.2.1 HH2.out.2.2.2.2.2.2.2)); obtain ⟨c0, c1, y0, y1⟩ := two_cells HX2.out.r0; obtain ⟨d0, z0⟩ := one_cell HX2.out.r1; clear h32)
      obtain ⟨h1, h2, h3, h4, h5, h6, hz5, hg⟩ := HH2.out
      have hle := HLE.out
      have hsz := H32.out.size
      refine ⟨⟨by simpa [World.setCell] using hsz, fun j hj hjl => ?_⟩, ?_, ?_, ?_, foldL_stop (k := k + 1) (by rw [HNX.out, hso])⟩
      · rw [Below.heap_setCell _ _ _ _ (by simp; omega), Below.heap_setCell _ _ _ _ (by simp; omega), Below.heap_setCell _ _ _ _ (by simp; omega)]
        exact H32.out.block j hjl (by omega) (by omega) (by omega)
      · exact ((HX2.out.low.setCell (p := ⟨w.heap.size, 0, none⟩) (Nat.le_refl _) _).setCell (p := ⟨w.heap.size, 1, none⟩) (Nat.le_refl _) _).setCell (p := ⟨r1, 0, none⟩) (by show _ ≤ r1; omega) _
      · exact (Below.heap_setCell _ _ _ _ (by simpa using N4.out)).trans (two_set1 (two_set0 HX2.out.r0))
      · exact one_set ((Below.heap_setCell _ _ _ _ (by simpa using N4.out.symm)).trans ((Below.heap_setCell _ _ _ _ (by simpa using N4.out.symm)).trans HX2.out.r1))
  case done =>
    rintro W ⟨y, hst, hf, hp, hv, hx⟩ hK
    have hf2 : foldL startL (partsF 10 [] (ls s)) = some y := by
      rw [List.take_of_length_le (by unfold wordsOf; simp)] at hf
      exact hf
    obtain ⟨c0, c1, y0, y1⟩ := two_cells hx.r0
    obtain ⟨d0, z0⟩ := one_cell hx.r1
    obtain ⟨m0, m1, _, _⟩ := two_cells hst.1
    have p0 := (one_cell hst.2.1).1
    have v0 := (one_cell hst.2.2).1
    have n4 : w.heap.size ≠ r1 := by omega
    have n5 : w.heap.size ≠ W5.heap.size := by omega
    have n6 : r1 ≠ W5.heap.size := by omega
    have N4 := Lib.hid n4
    have N5 := Lib.hid n5
    have N6 := Lib.hid n6
    have n7 : w.heap.size ≤ r1 ∧ w.heap.size ≤ W5.heap.size := by omega
    have N7 := Lib.hid n7
    have HX := Lib.hid hx
    have HK := Lib.hid hK
    have Hy : Hid (y.paths ≤ 1000000 ∧ y.vers ≤ 1000000) := by
      have e2 := parts_count 10 (ls s) []
      have e3 : (wordsOf s).length = (partsF 10 [] (ls s)).length := by unfold wordsOf; simp
      rw [ls_len] at e2
      have := HS.out
      show _ ∧ _
      omega
    clear h1 h2 h3 h4 h5 h6 hz5 hg hsbl hx hK hp hv hst hf n5 n6 n7
    have H65 : ¬ 65536 < s.size := by have := HS.out; omega
    have HF2 := Lib.hid hf2
    clear hf2
    have hread : Hid (readV s = if y.paths = 1 ∧ y.vers ≤ 1 then .tuple #[modV y.path y.minor, .int .i64 0] else .tuple #[modV [] 0, .int .i64 7]) := by
      show _ = _
      unfold readV readL
      rw [if_neg H65, HF2.out]
      by_cases e : y.paths = 1 ∧ y.vers ≤ 1
      · simp only [if_pos e]
      · simp only [if_neg e]
    clear H65
    by_cases e1 : y.paths = 1
    · by_cases e2 : y.vers ≤ 1
      · have HR : Hid (readV s = .tuple #[modV y.path y.minor, .int .i64 0]) := by show _ = _; rw [hread.out, if_pos ⟨e1, e2⟩]
        have k1 : ((y.paths : Int) == 1) = true := by simp; omega
        have k2 : ((y.paths : Int) != 1) = false := by simp; omega
        have k3 : decide ((1 : Int) < (y.vers : Int)) = false := by simp; omega
        clear hread e1 e2
        gi_wp2
        rw [HR.out]
        refine ⟨by simp, .inl ⟨_, _, rfl, run_takeDeferred ?_, ?_⟩⟩
        · rw [Below.heap_setCell _ _ _ _ (by simpa using N6.out.symm), Below.heap_setCell _ _ _ _ (by simpa using N5.out.symm), Below.heap_setCell _ _ _ _ (by simpa using N5.out.symm)]
          exact HK.out
        · refine ⟨_, read_results _ _ w.heap.size r1 _ _ _ rfl rfl ((World.putObj_heap_other N5.out).trans ((Below.heap_setCell _ _ _ _ (by simpa using N4.out)).trans (two_set1 (two_set0 HX.out.r0)))) ((World.putObj_heap_other N6.out).trans (one_set ((Below.heap_setCell _ _ _ _ (by simpa using N4.out.symm)).trans ((Below.heap_setCell _ _ _ _ (by simpa using N4.out.symm)).trans HX.out.r1)))), rfl, ?_⟩
          exact below_put ((((HX.out.low.setCell (p := ⟨w.heap.size, 0, none⟩) (Nat.le_refl _) _).setCell (p := ⟨w.heap.size, 1, none⟩) (Nat.le_refl _) _)).setCell (p := ⟨r1, 0, none⟩) N7.out.1 _) N7.out.2 _
      · have HR : Hid (readV s = .tuple #[modV [] 0, .int .i64 7]) := by show _ = _; rw [hread.out, if_neg (fun h => e2 h.2)]
        have k1 : ((y.paths : Int) == 1) = true := by simp; omega
        have k2 : ((y.paths : Int) != 1) = false := by simp; omega
        have k3 : decide ((1 : Int) < (y.vers : Int)) = true := by simp; omega
        clear hread e1 e2
        gi_wp2
        rw [HR.out]
        refine ⟨by simp, .inl ⟨_, _, rfl, run_takeDeferred ?_, ?_⟩⟩
        · rw [Below.heap_setCell _ _ _ _ (by simpa using N6.out.symm), Below.heap_setCell _ _ _ _ (by simpa using N5.out.symm), Below.heap_setCell _ _ _ _ (by simpa using N5.out.symm)]
          exact HK.out
        · refine ⟨_, read_results _ _ w.heap.size r1 _ _ _ rfl rfl ((World.putObj_heap_other N5.out).trans ((Below.heap_setCell _ _ _ _ (by simpa using N4.out)).trans (two_set1 (two_set0 HX.out.r0)))) ((World.putObj_heap_other N6.out).trans (one_set ((Below.heap_setCell _ _ _ _ (by simpa using N4.out.symm)).trans ((Below.heap_setCell _ _ _ _ (by simpa using N4.out.symm)).trans HX.out.r1)))), rfl, ?_⟩
          exact below_put ((((HX.out.low.setCell (p := ⟨w.heap.size, 0, none⟩) (Nat.le_refl _) _).setCell (p := ⟨w.heap.size, 1, none⟩) (Nat.le_refl _) _)).setCell (p := ⟨r1, 0, none⟩) N7.out.1 _) N7.out.2 _
    · have HR : Hid (readV s = .tuple #[modV [] 0, .int .i64 7]) := by show _ = _; rw [hread.out, if_neg (fun h => e1 h.1)]
      have k1 : ((y.paths : Int) == 1) = false := by simp; omega
      have k2 : ((y.paths : Int) != 1) = true := by simp; omega
      clear hread e1
      gi_wp2
      rw [HR.out]
      refine ⟨by simp, .inl ⟨_, _, rfl, run_takeDeferred ?_, ?_⟩⟩
      · rw [Below.heap_setCell _ _ _ _ (by simpa using N6.out.symm), Below.heap_setCell _ _ _ _ (by simpa using N5.out.symm), Below.heap_setCell _ _ _ _ (by simpa using N5.out.symm)]
        exact HK.out
      · refine ⟨_, read_results _ _ w.heap.size r1 _ _ _ rfl rfl ((World.putObj_heap_other N5.out).trans ((Below.heap_setCell _ _ _ _ (by simpa using N4.out)).trans (two_set1 (two_set0 HX.out.r0)))) ((World.putObj_heap_other N6.out).trans (one_set ((Below.heap_setCell _ _ _ _ (by simpa using N4.out.symm)).trans ((Below.heap_setCell _ _ _ _ (by simpa using N4.out.symm)).trans HX.out.r1)))), rfl, ?_⟩
        exact below_put ((((HX.out.low.setCell (p := ⟨w.heap.size, 0, none⟩) (Nat.le_refl _) _).setCell (p := ⟨w.heap.size, 1, none⟩) (Nat.le_refl _) _)).setCell (p := ⟨r1, 0, none⟩) N7.out.1 _) N7.out.2 _
  case stop =>
    rintro W ⟨hl, ha, hb', hf⟩ hK
    have n5 : w.heap.size ≠ W5.heap.size := by omega
    have n6 : r1 ≠ W5.heap.size := by omega
    have N5 := Lib.hid n5
    have N6 := Lib.hid n6
    have n7 : w.heap.size ≤ r1 ∧ w.heap.size ≤ W5.heap.size := by omega
    have N7 := Lib.hid n7
    have H65 : ¬ 65536 < s.size := by have := HS.out; omega
    have HR : Hid (readV s = .tuple #[modV [] 0, .int .i64 7]) := by
      show _ = _
      unfold readV readL
      rw [if_neg H65, hf]
    clear h1 h2 h3 h4 h5 h6 hz5 hg hsbl n5 n6 n7 H65 hf
    gi_wp2
    rw [HR.out]
    refine ⟨by simp, .inl ⟨_, _, rfl, run_takeDeferred hK, ?_⟩⟩
    refine ⟨_, read_results _ _ w.heap.size r1 _ _ _ rfl rfl ((World.putObj_heap_other N5.out).trans ha) ((World.putObj_heap_other N6.out).trans hb'), rfl, ?_⟩
    exact below_put hl N7.out.2 _
end Go.Proofs.YtnghlhkgeahfmaaDoor
