/- package big: take, minus. -/
import Derived.Test.YtpdkebljacmgfaaDoorBig3
import Derived.Laws.AppendOwn
namespace Go.Proofs.YtpdkebljacmgfaaDoor
open Go.RowKit
set_option linter.unusedVariables false

/-- What take ends with: the row's digits, in the block as they stand; what lies about them stays. -/
def TakeEnds (b o : Nat) (cur : Array Value) (l : List Nat) (y : Nat) (w : World) (e : Ending) (w' : World) : Prop :=
  e = .returned (.tuple #[]) ∧ ∃ (l' : List Nat) (cur' : Array Value), Held w' b cur' ∧ DigsIn cur' o l' ∧ cur'.size = cur.size ∧ (∀ j, j < o ∨ o + l.length ≤ j → cur'[j]? = cur[j]?) ∧ l'.length = l.length ∧ Dgs l' ∧ val l' + y = val l ∧ But b w w'

structure TakeW (b o y : Nat) (l0 : List Nat) (cur0 : Array Value) (w wr : World) (k c : Nat) (l : List Nat) (cur : Array Value) : Prop where
  inv : TakeAt l0 (dgs y) l k c
  held : Held wr b cur
  digs : DigsIn cur o l
  size : cur.size = cur0.size
  out : ∀ j, j < o ∨ o + l0.length ≤ j → cur[j]? = cur0[j]?
  but : But b w wr
theorem TakeW.step {b o y : Nat} {l0 : List Nat} {cur0 : Array Value} {w wr : World} {k c : Nat} {l : List Nat} {cur : Array Value} (h : TakeW b o y l0 cur0 w wr k c l cur) (hk : k < l.length) (v : Value) (hv : v = .int .u64 ((1000000000 + l.getD k 0 - (dgs y).getD k 0 - c) % 1000000000 : Nat)) :
    TakeW b o y l0 cur0 w (wr.setCell ⟨b, o + k, none⟩ v) (k + 1) (1 - (1000000000 + l.getD k 0 - (dgs y).getD k 0 - c) / 1000000000) (l.set k ((1000000000 + l.getD k 0 - (dgs y).getD k 0 - c) % 1000000000)) (cur.set! (o + k) v) := by
  have hl := h.inv.len
  refine ⟨h.inv.step (dgs_ok y) hk, h.held.set (o + k) v, h.digs.set k _ v hv hk, by simp [h.size], fun j hj => ?_, h.but.trans (But.set b (o + k) v)⟩
  rw [Array.set!_eq_setIfInBounds, Array.getElem?_setIfInBounds_ne (by omega)]
  exact h.out j hj

set_option maxHeartbeats 1000000 in
set_option maxRecDepth 100000 in
theorem take_any (b o y : Nat) (l : List Nat) (cur : Array Value) (a2 : Option Addr) (c1 c2 : Nat) (w : World) (hh : Held w b cur) (hd : DigsIn cur o l) (ho : Dgs l) (h2 : RowAt w a2 (dgs y)) (hoff : Off b a2 (dgs y)) (hle : y ≤ val l) (hx : l.length ≤ 100000) (hy : (dgs y).length ≤ 100000) :
    Calls Tryd.prog 50 #[.slice (some ⟨b, o, none⟩) l.length c1, .slice a2 (dgs y).length c2] w (TakeEnds b o cur l y w) := by
  obtain ⟨n, hn⟩ : ∃ n, n = l.length := ⟨_, rfl⟩
  obtain ⟨m, hm⟩ : ∃ m, m = (dgs y).length := ⟨_, rfl⟩
  have A2 := fun k (W : World) (h : RowAt W a2 (dgs y)) => at_any (dgs y) a2 c2 k W h (by omega)
  rw [← hn] at hx ⊢
  rw [← hm] at A2 hy ⊢
  have HW : Hid (TakeW b o y l cur w w 0 0 l cur) := Lib.hid ⟨TakeAt.start ho _, hh, hd, rfl, fun _ _ => rfl, But.refl b w⟩
  have HA2 := Lib.hid A2
  have HN := Lib.hid hn
  have HM := Lib.hid hm
  have H2 := Lib.hid h2
  have HOff := Lib.hid hoff
  have HO := Lib.hid ho
  have HLE := Lib.hid hle
  clear hn hm h2 A2 hoff hh hd ho hle
  go_enter Tryd.func50, Tryd.ntmps50
  go_wp2_with fail
  go_loopw [4, 5, 6, 9] (fun cv _ _ iv wr => ∃ (k c : Nat) (m : List Nat) (cu : Array Value), cv = .int .u64 c ∧ iv = .int .i64 k ∧ k ≤ n ∧ c ≤ 1 ∧ Hid (TakeW b o y l cur w wr k c m cu)) (fun _ _ _ iv _ => n - (intOf iv).toNat)
  case atStart => exact ⟨0, 0, _, _, rfl, rfl, Nat.zero_le _, by omega, HW⟩
  case round =>
    clear HW
    obtain ⟨k, c, l1, cu, rfl, rfl, hk, hc, HW⟩ := hrel
    by_cases hlt : k < n
    · have hkl : k < l1.length := by rw [HW.out.inv.len, ← HN.out]; exact hlt
      have b1 := HW.out.inv.ok.get k
      have b2 := (dgs_ok y).get k
      have q := fun W (hb : Below wr.heap.size wr W) => TakeW.step (wr := W) ⟨HW.out.inv, HW.out.held.below hb HW.out.held.lt, HW.out.digs, HW.out.size, HW.out.out, HW.out.but.trans (But.of_below hb)⟩ hkl _ rfl
      have C2 : ∀ z : Kept wr, Calls Tryd.prog 69 #[.slice a2 m c2, .int .i64 k] z.W fun e w'' => e = .returned (.int .u64 ((dgs y).getD k 0)) ∧ ∃ u : Kept wr, w'' = u.W := fun z => kept_same (HA2.out k z.W (((H2.out.but HW.out.but HOff.out)).below z.h))
      have hcell : ∀ z : Kept wr, z.W.cell? ⟨b, o + k, none⟩ = some (.int .u64 (l1.getD k 0)) := fun z => z.cell (HW.out.held.cell HW.out.digs k hkl)
      have hfz : ∀ z : Kept wr, z.W.frozen? ⟨b, o + k, none⟩ = false := fun z => (HW.out.held.below z.h HW.out.held.lt).free _
      generalize l1.getD k 0 = d1 at *
      generalize (dgs y).getD k 0 = d2 at *
      have HQ := Lib.hid q
      clear q HW
      go_wp2_with fail
      refine wp_region_kept (by kernel_rfl) (by kernel_rfl) ?_
      repeat (go_big_quiet_step ((first | (go_at_call 69; exact C2 _))))
      refine wpQuiet_nil ?_
      rintro _ ⟨z, rfl⟩
      have hcz := hcell z
      have hfz2 := hfz z
      have HQ2 := Lib.hid (HQ.out z.W z.h)
      clear HQ C2 hcell hfz
      go_wp2
      go_roundw
      case rel => exact ⟨k + 1, 1 - (1000000000 + d1 - d2 - c) / 1000000000, _, _, by go_num, by go_num, by omega, by omega, Lib.hid (by have := HQ2.out; rw [show (Value.int .u64 ((1000000000 + d1 - d2 - c) % 1000000000 : Nat)) = Value.int .u64 ((1000000000 + (d1 : Int) - d2 - c) % 1000000000) by go_num] at this; exact this)⟩
      case measure => simp [intOf]; omega
    · obtain rfl : k = n := by omega
      have hl1 : l1.length = k := by rw [HW.out.inv.len, HN.out]
      have hv := TakeAt.fin (c := c) (by rw [hl1]; exact HW.out.inv) HO.out (by rw [val_dgs]; exact HLE.out)
      rw [val_dgs] at hv
      have HV := Lib.hid hv
      have HL := Lib.hid hl1
      clear hv hl1
      go_wp2
      refine bodyPost_end (results_none rfl _ _ _) rfl ?_
      exact ⟨rfl, l1, cu, HW.out.held, HW.out.digs, HW.out.size, HW.out.out, HW.out.inv.len, HW.out.inv.ok, HV.out, HW.out.but⟩

/-! ### minus -/
def dvals (l : List Nat) : List Value := l.map fun (d : Nat) => Value.int .u64 d
theorem own_row {w : World} {B n : Nat} {v : Value} {l : List Nat} (hn : n = l.length) (h : w.ownsRow B 59 1 v n (dvals l)) (hne : v ≠ .slice none 0 0) : ∃ g cap cur, v = .slice (some ⟨g, 0, none⟩) n cap ∧ B ≤ g ∧ Held w g cur ∧ DigsIn cur 0 l ∧ n ≤ cap ∧ cap ≤ maxLen ∧ cur.size = cap := by
  rcases h.2 with ⟨e, _⟩ | ⟨g, cap, cur, e, hB, hh, hnc, hcm, hs, ht⟩
  · exact absurd e hne
  · refine ⟨g, cap, cur, e, hB, hh, fun i hi => ?_, hnc, hcm, by omega⟩
    have e2 := congrArg (fun l : List Value => l[i]?) ht
    simp only [List.getElem?_take, dvals, List.getElem?_map] at e2
    rw [if_pos (by omega), Array.getElem?_toList] at e2
    rw [Nat.zero_add, e2, List.getD_eq_getElem?_getD, List.getElem?_eq_getElem hi]
    rfl
theorem RowAt.cells {w : World} {b o : Nat} {l : List Nat} (h : RowAt w (some ⟨b, o, none⟩) l) : ∀ j u, (dvals l)[j]? = some u → w.cell? ((⟨b, o, none⟩ : Addr).add j) = some u := by
  intro j u hj
  unfold dvals at hj
  rw [List.getElem?_map] at hj
  rcases h with rfl | ⟨g, o', cur, e, h1, h2⟩
  · simp at hj
  · injection e with e
    injection e with e1 e2
    subst e1 e2
    rcases Nat.lt_or_ge j l.length with hl | hl
    · have c := h1.cell h2 j hl
      rw [List.getElem?_eq_getElem hl] at hj
      rw [List.getD_eq_getElem?_getD, List.getElem?_eq_getElem hl] at c
      have e : (⟨b, o, none⟩ : Addr).add j = ⟨b, o + j, none⟩ := by unfold Addr.add; split <;> simp_all
      rw [e, c]
      exact hj
    · rw [List.getElem?_eq_none hl] at hj; cases hj
theorem one_cells (l : List Nat) : ∀ u ∈ (dvals l), u.oneCell' = true := fun u hu => by
  obtain ⟨d, _, rfl⟩ := List.mem_map.1 hu
  rfl

set_option maxHeartbeats 1000000 in
set_option maxRecDepth 100000 in
theorem clone_any (x b o c1 : Nat) (w : World) (h1 : RowAt w (some ⟨b, o, none⟩) (dgs x)) (hx : (dgs x).length ≤ 100000) :
    Calls Tryd.prog 51 #[.slice (some ⟨b, o, none⟩) (dgs x).length c1] w fun e w' => ∃ g cap cur, e = .returned (.slice (some ⟨g, 0, none⟩) (dgs x).length cap) ∧ (dgs x).length ≤ cap ∧ w.heap.size ≤ g ∧ Held w' g cur ∧ DigsIn cur 0 (dgs x) ∧ Below w.heap.size w w' := by
  obtain ⟨i0, hi, hz0, hz1, hz2⟩ := info_parts u64_info
  obtain ⟨l, hl⟩ : ∃ l, l = dgs x := ⟨_, rfl⟩
  rw [← hl] at h1 hx ⊢
  clear hl
  have hcs := (h1.below ((Below.refl w.heap.size w).alloc (Nat.le_refl _) (.cells #[] 59))).cells
  have hmade := World.ownsRow_made (base := w.heap.size) (e := 59) (size := 1) w #[] 0 (Nat.le_refl _) (Nat.zero_le _) rfl
  obtain ⟨n, hn⟩ : ∃ n, n = l.length := ⟨_, rfl⟩
  rw [← hn] at hx ⊢
  have HN := Lib.hid hn
  have H1 := Lib.hid h1
  have HC := Lib.hid hcs
  have HM := Lib.hid hmade
  have hnil : ∀ W, (binOp BinOp.eql 42 (Value.slice (some ⟨b, o, none⟩) n c1) (Value.slice none 0 0)).run Tryd.prog W = .ok (.bool false) W := fun W => by kernel_rfl
  clear hn h1 hcs hmade
  go_enter Tryd.func51, Tryd.ntmps51
  go_wp2_with (at_builtin; refine wpList_append_own _ rfl (.tmp 5) (.tmp 6) 42 rfl w.heap.size 59 i0 (.int .u64 0) 1 8 Tryd.underlying42 hi hz0 hz1 hz2 rfl (by decide) _ 0 [] rfl HM.out ⟨b, o, none⟩ n c1 (dvals l) rfl (by unfold dvals; rw [List.length_map, HN.out, Nat.mul_one]) HC.out (one_cells l) (by unfold maxLen; omega) (by omega) (by simp) ?_; intro v' w1 hown hgr hne)
  have hv' : v' ≠ .slice none 0 0 := fun e => by
    have := (hne.1 e).1
    cases this
  rw [Nat.zero_add, List.nil_append] at hown
  obtain ⟨g, cap, cur, rfl, hg, hh, hd, hnc, _⟩ := own_row HN.out hown hv'
  have hb : Below w.heap.size w w1 := ((Below.refl w.heap.size w).alloc (Nat.le_refl _) _).grown hgr (by simp) (by intro k hk; have : w.heap.size = k := Option.some.inj hk; omega)
  have HF := Lib.hid (show _ ∧ _ ∧ _ ∧ _ from ⟨hg, hh, hd, hb⟩)
  clear hown hgr hne hv' hg hh hd hb
  go_ret
  exact ⟨g, cap, cur, rfl, hnc, HF.out.1, HF.out.2.1, HF.out.2.2.1, HF.out.2.2.2⟩

set_option maxHeartbeats 1000000 in
set_option maxRecDepth 100000 in
theorem minus_any (x y b o : Nat) (a2 : Option Addr) (c1 c2 : Nat) (w : World) (h1 : RowAt w (some ⟨b, o, none⟩) (dgs x)) (h2 : RowAt w a2 (dgs y)) (hle : y ≤ x) (hx : (dgs x).length ≤ 100000) (hy : (dgs y).length ≤ 100000) :
    Calls Tryd.prog 36 #[.slice (some ⟨b, o, none⟩) (dgs x).length c1, .slice a2 (dgs y).length c2] w (MadeRow w (x - y)) := by
  have C1 := clone_any x b o c1 w h1 hx
  obtain ⟨l, hl⟩ : ∃ l, l = dgs x := ⟨_, rfl⟩
  have hlo : Dgs l := hl ▸ dgs_ok x
  have hlv : val l = x := by rw [hl, val_dgs]
  rw [← hl] at h1 hx C1 ⊢
  clear hl h1
  obtain ⟨n, hn⟩ : ∃ n, n = l.length := ⟨_, rfl⟩
  obtain ⟨m, hm⟩ : ∃ m, m = (dgs y).length := ⟨_, rfl⟩
  have C2 := fun g cap (cur : Array Value) (W : World) (q1 : Held W g cur) (q2 : DigsIn cur 0 l) (q3 : RowAt W a2 (dgs y)) (q4 : Off g a2 (dgs y)) => take_any g 0 y l cur a2 cap c2 W q1 q2 hlo q3 q4 (by rw [hlv]; exact hle) hx hy
  rw [← hn] at C1 C2 hx ⊢
  rw [← hm] at C2 hy ⊢
  have HC1 := Lib.hid C1
  have HC2 := Lib.hid C2
  have HN := Lib.hid hn
  have H2 := Lib.hid h2
  have HV := Lib.hid hlv
  clear C1 C2 hn hm h2 hlv
  go_enter Tryd.func36, Tryd.ntmps36
  go_wp2_with fail
  refine HC1.out.mono ?_
  rintro e w1 ⟨g, cap, cur, rfl, hnc, hg, hh, hd, hb⟩
  have C2 := HC2.out g cap cur w1 hh hd (H2.out.below hb) (H2.out.off hg)
  have HC := Lib.hid C2
  have HG := Lib.hid hg
  have HB := Lib.hid hb
  have hgz := hh.lt
  clear C2 hg hb hh hd
  go_wp2_with fail
  refine HC.out.mono ?_
  rintro e w2 ⟨rfl, l', cur', hh, hd, _, _, hlen, hok, hval, hbut⟩
  have hv : val l' = x - y := by have := HV.out; omega
  have hb2 : Below w.heap.size w w2 := HB.out.trans (hbut.below HG.out HB.out.size)
  have C3 := cut_any l' (some ⟨g, 0, none⟩) cap w2 (.inr ⟨_, _, cur', rfl, hh, hd⟩) hok (by have := HN.out; omega) (by have := HN.out; omega)
  rw [hlen, hv, ← HN.out] at C3
  have HC3 := Lib.hid C3
  have HB2 := Lib.hid hb2
  clear C3 hb2 hh hd hlen hok hval hbut hv HC
  go_wp2_with ((with_reducible refine HC3.out.mono ?_); rintro e w' ⟨rfl, hr, rfl⟩; have HR := Lib.hid hr; clear hr)
  go_ret
  exact ⟨g, rfl, HG.out, HR.out, HB2.out⟩
end Go.Proofs.YtpdkebljacmgfaaDoor
