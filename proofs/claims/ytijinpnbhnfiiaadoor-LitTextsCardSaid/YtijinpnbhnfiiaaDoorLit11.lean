/- package lit: what stands behind a backslash. -/
import Derived.Test.YtijinpnbhnfiiaaDoorLit10
import Derived.StillTailTactics
import Derived.Deep.RegionLaw
import Derived.Laws.Rows
import Derived.Outline
namespace Go.Proofs.YtijinpnbhnfiiaaDoor
open Go.RowKit
set_option linter.unusedVariables false

/-- A byte's number. -/
def b8 (n : Int) : UInt8 := UInt8.ofNat (n % 256).toNat
theorem b8_cell (n : Int) : Value.int .u8 (n % 256) = .int .u8 ((b8 n).toNat : Int) := by
  unfold b8
  congr 1
  simp
  omega

/-- The reader that has told more. -/
theorem Rd.tell {w w' : World} {b : Nat} {mv : Value} {t : ByteArray} {p : Nat} {l m : List UInt8} {tv v' : Value} (h : Rd w b mv t p l tv) (hb : w'.heap[b]? = w.heap[b]?) (hown : w'.ownsRow (b + 1) 5 1 v' (l ++ m).length (Lib.byteCells (l ++ m))) :
    Rd (w'.setCell ⟨b, 2, none⟩ v') b mv t p (l ++ m) v' :=
  ⟨(set3 (hb.trans h.box)).2 _, owns_set hown (Nat.lt_succ_self b) 2 _⟩

theorem Rd.off {w : World} {b : Nat} {mv : Value} {t : ByteArray} {p : Nat} {l : List UInt8} {tv : Value} (h : Rd w b mv t p l tv) : tv.ownBlock ≠ some b := fun e => by have := (h.row.lt b e).1; omega
theorem Rd.told {w w' : World} {b : Nat} {mv : Value} {t : ByteArray} {p : Nat} {l m : List UInt8} {tv v' : Value} (h : Rd w b mv t p l tv) {o : Obj} (hg : (w.alloc o).grownBy w' tv.ownBlock) (hown : w'.ownsRow (b + 1) 5 1 v' (l.length + m.length) (Lib.byteCells l ++ Lib.byteCells m)) :
    w'.heap[b]? = w.heap[b]? ∧ Rd (w'.setCell ⟨b, 2, none⟩ v') b mv t p (l ++ m) v' ∧ Below b w (w'.setCell ⟨b, 2, none⟩ v') := by
  have hlt := h.lt
  have e1 : w'.heap[b]? = w.heap[b]? := by
    rw [hg.block b (by simp; omega) (fun e => h.off e.symm), Below.heap_alloc w o b (by omega)]
  have e2 : Lib.byteCells l ++ Lib.byteCells m = Lib.byteCells (l ++ m) := by unfold Lib.byteCells; rw [List.map_append]
  rw [e2, ← List.length_append] at hown
  refine ⟨e1, h.tell e1 hown, ?_⟩
  exact ((((Below.refl b w).alloc (by omega) o).grown hg (by simp; omega) (fun k hk => Nat.le_trans (Nat.le_succ b) (h.row.lt k hk).1))).setCell (p := ⟨b, 2, none⟩) (Nat.le_refl _) _
theorem Rd.told1 {w w' : World} {b : Nat} {mv : Value} {t : ByteArray} {p : Nat} {l : List UInt8} {tv v' : Value} (h : Rd w b mv t p l tv) {o : Obj} (hg : (w.alloc o).grownBy w' tv.ownBlock) {x : Int} (hx0 : 0 ≤ x) (hx1 : x < 256) (hown : w'.ownsRow (b + 1) 5 1 v' (l.length + 1) (Lib.byteCells l ++ [.int .u8 x])) :
    w'.heap[b]? = w.heap[b]? ∧ Rd (w'.setCell ⟨b, 2, none⟩ v') b mv t p (l ++ [b8 x]) v' ∧ Below b w (w'.setCell ⟨b, 2, none⟩ v') := by
  have e : [Value.int .u8 x] = Lib.byteCells [b8 x] := by
    unfold Lib.byteCells
    rw [List.map_singleton, ← b8_cell, Int.emod_eq_of_lt hx0 hx1]
  rw [e] at hown
  exact h.told hg hown
theorem box_cells {w : World} {b : Nat} {x y z : Value} {ty : TypeId} (h : w.heap[b]? = some (.cells #[x, y, z] ty (0, 0))) : w.cell? ⟨b, 0, none⟩ = some x ∧ w.cell? ⟨b, 1, none⟩ = some y ∧ w.cell? ⟨b, 2, none⟩ = some z ∧ ∀ o, w.frozen? ⟨b, o, none⟩ = false :=
  ⟨by simp [World.cell?, h], by simp [World.cell?, h], by simp [World.cell?, h], fun o => by simp [World.frozen?, h]⟩

/-- append of one byte that lies in a block, inside a region that draws its order. -/
theorem step_byte {ops : Array Oper} {o : Oper} {act : Act} {Q : Exit → Act → World → Prop} {K : Act → World → Prop} {E : Prop} {w : World} (c : Int) (hgd : o.guard = none) (x y : Operand)
    (ho : o.op = .call { callee := .builtin .append, args := #[x, y], argTypes := #[33, 33] }) (base : Nat) (v : Value) (n : Nat) (xs : List Value) (hs : act.eval x = v) (hown : w.ownsRow base 5 1 v n xs)
    (g : Nat) (hy : act.eval y = .slice (some ⟨g, 0, none⟩) 1 1) (hg : w.heap[g]? = some (.cells #[.int .u8 c] 5 (0, 0))) (hn : n ≤ 1000000) (hbase : base ≤ w.heap.size)
    (h : ∀ v' w', w'.ownsRow base 5 1 v' (n + 1) (xs ++ [.int .u8 c]) → w.grownBy w' v.ownBlock → K (act.put o.dst v') w') : if Region.wanted o (yielded ops act.tmps) = true then Oper.wp Tryd.prog o act w K Q else E := by
  have hw : Region.wanted o (yielded ops act.tmps) = true := by simp [Region.wanted, hgd]
  rw [if_pos hw]
  obtain ⟨i0, hi, hz0, hz1, hz2⟩ := info_parts u8_info
  refine wp_append_own w x y 33 ho base 5 i0 _ 1 1 Tryd.underlying33 hi hz0 hz1 hz2 rfl (by decide) v n xs hs hown ⟨g, 0, none⟩ 1 1 [.int .u8 c] hy rfl (fun j u hj => ?_) (fun u hu => ?_) (by unfold maxLen; omega) (by omega) hbase (fun v' w' h1 h2 _ => h v' w' h1 h2)
  · match j, hj with
    | 0, hj => simp at hj; subst hj; simp [Addr.add, World.cell?, hg]
  · simp at hu; subst hu; rfl

def StrokeEnds (b : Nat) (mv : Value) (t : ByteArray) (w : World) (r : Option (Nat × List UInt8)) (e : Ending) (w' : World) : Prop := Below b w w' ∧ match r with
  | some (q, l) => e = .returned (.tuple #[]) ∧ ∃ tv, Rd w' b mv t q l tv
  | none => e = wrongE

/-- What stands behind a backslash, from p on, behind what was told. -/
def byteP (r : Option (Int × Nat)) (l : List UInt8) : Option (Nat × List UInt8) := match r with
  | some (n, q) => some (q, l ++ [b8 n])
  | none => none
def runeP (r : Option (Int × Nat)) (l : List UInt8) : Option (Nat × List UInt8) := match r with
  | some (n, q) => match pointP n with
    | some c => some (q, l ++ Lib.encodeRune c)
    | none => none
  | none => none
def octalP (r : Option (Int × Nat)) (l : List UInt8) : Option (Nat × List UInt8) := match r with
  | some (n, q) => if n ≤ 255 then some (q, l ++ [b8 n]) else none
  | none => none
def strokeB (t : ByteArray) (c : Nat) (p : Nat) (l : List UInt8) : Option (Nat × List UInt8) := match strokeR c with
  | some x => some (p, l ++ [b8 x])
  | none => if c = 120 then byteP (digitsP t p 2 16 0) l else if c = 117 then runeP (digitsP t p 4 16 0) l else if c = 85 then runeP (digitsP t p 8 16 0) l
    else if digW c 8 < 8 then octalP (digitsP t p 2 8 (digW c 8)) l else none
def strokeP (t : ByteArray) (p : Nat) (l : List UInt8) : Option (Nat × List UInt8) := match signP t p with
  | some (c, q) => strokeB t c q l
  | none => none

theorem strokeV_some {r x : Int} (h : strokeR r = some x) : strokeV r = .tuple #[.int .u8 x, .bool true] := by unfold strokeV; rw [h]
theorem strokeV_none {r : Int} (h : strokeR r = none) : strokeV r = .tuple #[.int .u8 0, .bool false] := by unfold strokeV; rw [h]
theorem strokeR_bound {r x : Int} (h : strokeR r = some x) : 0 ≤ x ∧ x < 256 := by
  unfold strokeR at h
  cases e : strokeL.find? (fun y => y.1 == r) with
  | none => rw [e] at h; cases h
  | some y =>
    rw [e] at h
    cases h
    have hm := List.mem_of_find?_eq_some e
    have : ∀ y ∈ strokeL, 0 ≤ y.2 ∧ y.2 < 256 := by decide
    exact this y hm

theorem wrap8 (n : Int) : IntKind.u8.wrap n = n % 256 := by simp [IntKind.wrap, IntKind.signed, IntKind.bits]
theorem wrap8_bounds (n : Int) : 0 ≤ IntKind.u8.wrap n ∧ IntKind.u8.wrap n < 256 := by rw [wrap8]; omega
theorem pointP_bounds {n c : Int} (h0 : 0 ≤ n) (h : pointP n = some c) : 0 ≤ c ∧ c ≤ 1114111 := by
  unfold pointP at h
  split at h
  · rename_i h1
    cases h
    exact ⟨h0, h1.1⟩
  · cases h
theorem b8_mod (n : Int) : b8 (n % 256) = b8 n := by unfold b8; rw [Int.emod_emod_of_dvd _ (Int.dvd_refl 256)]
theorem row_form {w : World} {B : Nat} {e : TypeId} {v : Value} {n : Nat} {xs : List Value} (h : w.ownsRow B e 1 v n xs) : ∃ a m cap, v = .slice a m cap := by
  rcases h.2 with ⟨hv, _⟩ | ⟨g, cap, cur, hv, _⟩
  · exact ⟨_, _, _, hv⟩
  · exact ⟨_, _, _, hv⟩
theorem digF_bounds (u : ByteArray) (base : Nat) (hb : base ≤ 16) : ∀ k q (n : Int) (X : Nat), 0 ≤ n → n < X → ∀ m, digF u base k q n = some m → 0 ≤ m ∧ m < ((X * 16 ^ k : Nat) : Int)
  | 0, q, n, X, h0, h1, m, h => by
    rw [digF] at h
    cases h
    rw [Nat.pow_zero, Nat.mul_one]
    exact ⟨h0, h1⟩
  | k + 1, q, n, X, h0, h1, m, h => by
    rw [digF] at h
    have hX : (X : Int) ≤ ((X * 16 ^ (k + 1) : Nat) : Int) := by
      have : X * 1 ≤ X * 16 ^ (k + 1) := Nat.mul_le_mul_left X (Nat.pow_pos (by decide))
      omega
    split at h
    · split at h
      · rename_i hd
        have hdb := digW_bounds (sig u q) base (by omega) (by omega)
        have hnb : 0 ≤ n * (base : Int) := Int.mul_nonneg h0 (by omega)
        have hnb2 : n * (base : Int) ≤ ((X : Int) - 1) * 16 := Int.mul_le_mul (by omega) (by omega) (by omega) (by omega)
        have := digF_bounds u base hb k _ (n * base + digW (sig u q) base) (X * 16) (by omega) (by push_cast; omega) m h
        rw [Nat.mul_assoc, ← Nat.pow_succ'] at this
        exact this
      · cases h
    · cases h
      exact ⟨h0, by omega⟩
theorem digitsP_bounds {t : ByteArray} {p count base : Nat} {ahead n : Int} {r : Nat} (hc : count ≤ 8) (hb : base ≤ 16) (ha0 : 0 ≤ ahead) (ha : ahead ≤ 16) (h : digitsP t p count base ahead = some (n, r)) : r ≤ t.size ∧ 0 ≤ n ∧ n < 1099511627776 := by
  unfold digitsP at h
  split at h
  · rename_i hl
    cases e : digF (t.extract p (p + count)) base count 0 ahead with
    | none => rw [e] at h; cases h
    | some m =>
      rw [e] at h
      cases h
      obtain ⟨h1, h2⟩ := digF_bounds _ base hb count 0 ahead 17 ha0 (by omega) n e
      have : (16 : Nat) ^ count ≤ 16 ^ 8 := Nat.pow_le_pow_right (by decide) hc
      have h8 : (16 : Nat) ^ 8 = 4294967296 := by decide
      refine ⟨hl, h1, ?_⟩
      have : 17 * 16 ^ count ≤ 17 * 4294967296 := Nat.mul_le_mul_left 17 (by omega)
      omega
  · cases h

set_option maxHeartbeats 4000000 in
set_option maxRecDepth 100000 in
theorem stroke_any (w : World) (b mb : Nat) (t : ByteArray) (p : Nat) (l : List UInt8) (tv : Value) (h : Rd w b (.map (some mb)) t p l tv) (hm : mb < b) (hmap : MapAt w mb strokeL) (hT : Tabs w) (hp : p ≤ t.size) (ht : t.size ≤ 100000) (hl : l.length ≤ 400000) :
    Calls Tryd.prog 49 #[.pointer (some ⟨b, 0, none⟩)] w fun e w' => StrokeEnds b (.map (some mb)) t w (strokeP t p l) e w' := by
  have HS := Lib.hid (sign_any w b _ t p l tv h hT hp ht)
  have HP : Hid (strokeP t p l = match signP t p with | some (c, q) => strokeB t c q l | none => none) := rfl
  have hsp : Hid (∀ c q, signP t p = some (c, q) → q ≤ t.size ∧ c ≤ 2147483647) := fun c q he => by
    unfold signP at he
    split at he
    · rename_i hlt
      cases he
      exact ⟨wid_le t p hlt, sig_le t p⟩
    · cases he
  have hlt := h.lt
  clear h
  generalize signP t p = sg at *
  go_enter Tryd.func49, Tryd.ntmps49
  go_wp2_with fail
  refine HS.out.mono ?_
  rintro e w1 ⟨hb1, hE⟩
  cases sg with
  | none =>
    have he : e = .panicked [{ v := .iface 59 (.agg #[]), recovered := false }] := hE
    subst he
    refine ⟨rfl, hb1, ?_⟩
    rw [HP.out]
    rfl
  | some cq =>
    obtain ⟨c, q⟩ := cq
    obtain ⟨rfl, hR⟩ := hE
    obtain ⟨hq, hc⟩ := hsp.out c q rfl
    have HP2 : Hid (strokeP t p l = strokeB t c q l) := HP.out
    have hmap1 : MapAt w1 mb strokeL := (hb1.block mb hm).trans hmap
    have hlook := map_look hmap1 (c : Int) ⟨by omega, by omega⟩
    have HB1 := Lib.hid hb1
    have HR1 := Lib.hid hR
    obtain ⟨c0, c1, c2, kb⟩ := hR.cells
    have hbw := hR.lt
    clear HS HP hsp hmap hmap1 hb1 hR
    cases hs : strokeR c with
    | some x =>
      rw [strokeV_some hs] at hlook
      obtain ⟨hx0, hx1⟩ := strokeR_bound hs
      have HP3 : Hid (strokeP t p l = some (q, l ++ [b8 x])) := by
        show _ = _
        rw [HP2.out]
        unfold strokeB
        rw [hs]
      have HSS := Lib.hid hs
      clear hs HP2
      obtain ⟨i0, hi0, hz0, hz1, hz2⟩ := info_parts u8_info
      have hrow := HR1.out.row
      go_wp2_with (at_builtin; refine wpList_append_own _ rfl _ _ 33 rfl (b + 1) 5 i0 (.int .u8 0) 1 1 Tryd.underlying33 hi0 hz0 hz1 hz2 rfl (by decide) _ _ _ rfl (hrow.alloc _) ⟨w1.heap.size, 0, none⟩ 1 1 [.int .u8 x] rfl rfl ?c1 ?c2 ?c3 ?c4 ?c5 ?_)
      case c1 =>
        intro j u hj
        match j, hj with
        | 0, hj => simp at hj; subst hj; simp [Addr.add]
      case c2 => intro u hu; simp at hu; subst hu; rfl
      case c3 => unfold maxLen; omega
      case c4 => omega
      case c5 => simp; omega
      intro v' w2 hown' hgrow _
      obtain ⟨e1, hR2, hB2⟩ := HR1.out.told1 hgrow hx0 hx1 hown'
      obtain ⟨d0, d1, d2, kd⟩ := box_cells (e1.trans HR1.out.box)
      have HR2 := Lib.hid hR2
      have HB2 := Lib.hid hB2
      obtain ⟨ao, n', cap, rfl⟩ : ∃ ao n' cap, v' = .slice ao n' cap := by
        rcases hown'.2 with ⟨hv, _⟩ | ⟨g, cap, cur, hv, _⟩
        · exact ⟨_, _, _, hv⟩
        · exact ⟨_, _, _, hv⟩
      clear hR2 hB2 hown' hgrow hrow c0 c1 c2 kb e1
      go_wp2
      refine bodyPost_end (results_none rfl _ _ _) rfl ?_
      refine ⟨HB1.out.trans HB2.out, ?_⟩
      rw [HP3.out]
      exact ⟨rfl, _, HR2.out⟩
    | none =>
      rw [strokeV_none hs] at hlook
      have HP3 : Hid (strokeP t p l = if c = 120 then byteP (digitsP t q 2 16 0) l else if c = 117 then runeP (digitsP t q 4 16 0) l else if c = 85 then runeP (digitsP t q 8 16 0) l
          else if digW c 8 < 8 then octalP (digitsP t q 2 8 (digW c 8)) l else none) := by
        show _ = _
        rw [HP2.out]
        unfold strokeB
        rw [hs]
      clear hs HP2
      by_cases h120 : c = 120
      · have g120 : (((c : Nat) : Int) == 120) = true := beq_iff_eq.2 (by omega)
        have HD := Lib.hid (digits_any w1.drew b _ t q l tv (HR1.out.below ((Below.refl _ _).drew)) hq ht 2 16 0 (by omega) (by omega) (by omega) (by omega) (by omega))
        have HP4 : Hid (strokeP t p l = byteP (digitsP t q 2 16 0) l) := by show _ = _; rw [HP3.out, if_pos h120]
        have hdb : Hid (∀ n r, digitsP t q 2 16 0 = some (n, r) → r ≤ t.size ∧ 0 ≤ n ∧ n < 1099511627776) := fun n r he => digitsP_bounds (by omega) (by omega) (by omega) (by omega) he
        clear HP3 h120
        generalize digitsP t q 2 16 0 = dg at *
        go_wp2_with fail
        cases dg with
        | none =>
          refine wp_region_any (by kernel_rfl) ?_
          change wpAny _ _ _ _ _ _ _ (World.drew _)
          refine wpAny_take (i := 0) (v := ?_) rfl (by kernel_rfl) (by kernel_rfl) (by kernel_rfl) (fun _ _ _ h => h) (Or.inl ⟨by rfl, ?_⟩) ?_
          rotate_left
          · intro w
            go_simp
            with_reducible rfl
          refine wpAny_take (i := 1) (v := ?_) rfl (by kernel_rfl) (by kernel_rfl) (by kernel_rfl) (fun _ _ _ h => h) (Or.inl ⟨by rfl, ?_⟩) ?_
          rotate_left
          · intro w
            go_simp
            with_reducible rfl
          refine wpAny_take (i := 2) (v := ?_) rfl (by kernel_rfl) (by kernel_rfl) (by kernel_rfl) (fun _ _ _ h => h) (Or.inl ⟨by rfl, ?_⟩) ?_
          rotate_left
          · intro w
            go_simp
            with_reducible rfl
          refine wpAny_take (i := 3) (v := ?_) rfl (by kernel_rfl) (by kernel_rfl) (by kernel_rfl) (fun _ _ _ h => h) (Or.inl ⟨by rfl, ?_⟩) ?_
          rotate_left
          · intro w
            go_simp
            with_reducible rfl
          refine wpAny_take (i := 5) (v := ?_) rfl (by kernel_rfl) (by kernel_rfl) (by kernel_rfl) (fun _ _ _ h => h) (Or.inl ⟨by rfl, ?_⟩) ?_
          rotate_left
          · intro w
            go_simp
            with_reducible rfl
          refine wpAny_ready (rs := [4, 6]) (by kernel_rfl) (by simp) ?_
          refine AllReady.cons rfl (fun K hK => ?_) (AllReady.cons rfl (fun K hK => ?_) AllReady.nil)
          · go_simp
            refine hK _ _ ?_
            clear hK K
            refine wpAny_ready (rs := [6]) (by kernel_rfl) (by simp) ?_
            refine AllReady.cons rfl (fun K hK => ?_) AllReady.nil
            go_simp
            go_at_call 57
            refine HD.out.mono ?_
            rintro e w5 ⟨hb5, he⟩
            obtain rfl : e = .panicked [{ v := .iface 59 (.agg #[]), recovered := false }] := he
            refine ⟨rfl, (HB1.out.drew).trans hb5, ?_⟩
            rw [HP4.out]
            rfl
          · go_simp
            go_at_call 57
            refine HD.out.mono ?_
            rintro e w5 ⟨hb5, he⟩
            obtain rfl : e = .panicked [{ v := .iface 59 (.agg #[]), recovered := false }] := he
            refine ⟨rfl, (HB1.out.drew).trans hb5, ?_⟩
            rw [HP4.out]
            rfl
        | some nq =>
          obtain ⟨n, r⟩ := nq
          obtain ⟨hr, hn0, hn1⟩ := hdb.out n r rfl
          go_region_law (first | (refine step_byte (IntKind.u8.wrap n) rfl (.tmp 54) (.tmp 58) rfl (b + 1) _ l.length (Lib.byteCells l) rfl hrow.out w5.heap.size rfl hnew4 (by omega) hsz ?_; intro v1 w3 hown1 hgr1; obtain ⟨e1, hR2, hB2⟩ := HR5.out.told1 hgr1 (wrap8_bounds n).1 (wrap8_bounds n).2 hown1; obtain ⟨d0, d1, d2, kd⟩ := box_cells (e1.trans HR5.out.box); have HR2 := Lib.hid hR2; have HB2 := Lib.hid hB2; obtain ⟨ao, n', cap, rfl⟩ := row_form hown1; clear hR2 hB2 hown1 hgr1 e1) | (go_simp; go_at_call 57; refine HD.out.mono ?_; rintro e w5 ⟨hb5, rfl, hR5⟩; have HB5 := Lib.hid hb5; have HR5 := Lib.hid hR5; have c2' : w5.cell? ⟨b, 2, none⟩ = some tv := hR5.cells.2.2.1; have HRa := Lib.hid (hR5.below ((Below.refl _ w5).alloc (Nat.le_refl _) (.cells #[.int .u8 (IntKind.u8.wrap n)] 5))); have c2'' : (w5.alloc (.cells #[.int .u8 (IntKind.u8.wrap n)] 5)).cell? ⟨b, 2, none⟩ = some tv := HRa.out.cells.2.2.1; have hrow := Lib.hid HRa.out.row; have hsz : b + 1 ≤ (w5.alloc (.cells #[.int .u8 (IntKind.u8.wrap n)] 5)).heap.size := (by have := hR5.lt; simp; omega); have hnew4 := heap_alloc_new w5 (.cells #[.int .u8 (IntKind.u8.wrap n)] 5); clear hb5 hR5))
          all_goals
            go_wp2
            refine bodyPost_end (results_none rfl _ _ _) rfl ?_
            refine ⟨(HB1.out.drew).trans (HB5.out.trans HB2.out), ?_⟩
            rw [HP4.out]
            have hR3 := HR2.out
            rw [wrap8, b8_mod] at hR3
            exact ⟨rfl, _, hR3⟩
      by_cases h117 : c = 117
      · have g117 : (((c : Nat) : Int) == 117) = true := beq_iff_eq.2 (by omega)
        have HD := Lib.hid (digits_any w1.drew b _ t q l tv (HR1.out.below ((Below.refl _ _).drew)) hq ht 4 16 0 (by omega) (by omega) (by omega) (by omega) (by omega))
        have HP4 : Hid (strokeP t p l = runeP (digitsP t q 4 16 0) l) := by show _ = _; rw [HP3.out, if_neg h120, if_pos h117]
        have hdb : Hid (∀ n r, digitsP t q 4 16 0 = some (n, r) → r ≤ t.size ∧ 0 ≤ n ∧ n < 1099511627776) := fun n r he => digitsP_bounds (by omega) (by omega) (by omega) (by omega) he
        clear HP3 h117
        generalize digitsP t q 4 16 0 = dg at *
        go_wp2_with fail
        cases dg with
        | none =>
          refine wp_region_any (by kernel_rfl) ?_
          change wpAny _ _ _ _ _ _ _ (World.drew _)
          refine wpAny_take (i := 0) (v := ?_) rfl (by kernel_rfl) (by kernel_rfl) (by kernel_rfl) (fun _ _ _ h => h) (Or.inl ⟨by rfl, ?_⟩) ?_
          rotate_left
          · intro w
            go_simp
            with_reducible rfl
          refine wpAny_take (i := 1) (v := ?_) rfl (by kernel_rfl) (by kernel_rfl) (by kernel_rfl) (fun _ _ _ h => h) (Or.inl ⟨by rfl, ?_⟩) ?_
          rotate_left
          · intro w
            go_simp
            with_reducible rfl
          refine wpAny_take (i := 2) (v := ?_) rfl (by kernel_rfl) (by kernel_rfl) (by kernel_rfl) (fun _ _ _ h => h) (Or.inl ⟨by rfl, ?_⟩) ?_
          rotate_left
          · intro w
            go_simp
            with_reducible rfl
          refine wpAny_take (i := 3) (v := ?_) rfl (by kernel_rfl) (by kernel_rfl) (by kernel_rfl) (fun _ _ _ h => h) (Or.inl ⟨by rfl, ?_⟩) ?_
          rotate_left
          · intro w
            go_simp
            with_reducible rfl
          refine wpAny_take (i := 5) (v := ?_) rfl (by kernel_rfl) (by kernel_rfl) (by kernel_rfl) (fun _ _ _ h => h) (Or.inl ⟨by rfl, ?_⟩) ?_
          rotate_left
          · intro w
            go_simp
            with_reducible rfl
          refine wpAny_ready (rs := [4, 6]) (by kernel_rfl) (by simp) ?_
          refine AllReady.cons rfl (fun K hK => ?_) (AllReady.cons rfl (fun K hK => ?_) AllReady.nil)
          · go_simp
            refine hK _ _ ?_
            clear hK K
            refine wpAny_ready (rs := [6]) (by kernel_rfl) (by simp) ?_
            refine AllReady.cons rfl (fun K hK => ?_) AllReady.nil
            go_simp
            go_at_call 57
            refine HD.out.mono ?_
            rintro e w5 ⟨hb5, he⟩
            obtain rfl : e = .panicked [{ v := .iface 59 (.agg #[]), recovered := false }] := he
            refine ⟨rfl, (HB1.out.drew).trans hb5, ?_⟩
            rw [HP4.out]
            rfl
          · go_simp
            go_at_call 57
            refine HD.out.mono ?_
            rintro e w5 ⟨hb5, he⟩
            obtain rfl : e = .panicked [{ v := .iface 59 (.agg #[]), recovered := false }] := he
            refine ⟨rfl, (HB1.out.drew).trans hb5, ?_⟩
            rw [HP4.out]
            rfl
        | some nq =>
          obtain ⟨n, r⟩ := nq
          obtain ⟨hr, hn0, hn1⟩ := hdb.out n r rfl
          have hpt := fun w => point_any n w hn0 hn1
          have hpr : Hid (∀ c, pointP n = some c → 0 ≤ c ∧ c ≤ 1114111) := fun c he => pointP_bounds hn0 he
          cases hpp : pointP n with
          | none =>
            rw [hpp] at hpt
            have HPT : Hid (∀ w, Calls Tryd.prog 58 #[.int .i64 n] w fun e w' => w = w' ∧ e = wrongE) := hpt
            have HP5 : Hid (strokeP t p l = none) := by show _ = _; rw [HP4.out]; show (match pointP n with | some c => some (r, l ++ Lib.encodeRune c) | none => none) = none; rw [hpp]
            clear hpt hpp HP4
            refine wp_region_any (by kernel_rfl) ?_
            change wpAny _ _ _ _ _ _ _ (World.drew _)
            refine wpAny_take (i := 0) (v := ?_) rfl (by kernel_rfl) (by kernel_rfl) (by kernel_rfl) (fun _ _ _ h => h) (Or.inl ⟨by rfl, ?_⟩) ?_
            rotate_left
            · intro w
              go_simp
              with_reducible rfl
            refine wpAny_take (i := 1) (v := ?_) rfl (by kernel_rfl) (by kernel_rfl) (by kernel_rfl) (fun _ _ _ h => h) (Or.inl ⟨by rfl, ?_⟩) ?_
            rotate_left
            · intro w
              go_simp
              with_reducible rfl
            refine wpAny_take (i := 2) (v := ?_) rfl (by kernel_rfl) (by kernel_rfl) (by kernel_rfl) (fun _ _ _ h => h) (Or.inl ⟨by rfl, ?_⟩) ?_
            rotate_left
            · intro w
              go_simp
              with_reducible rfl
            refine wpAny_take (i := 3) (v := ?_) rfl (by kernel_rfl) (by kernel_rfl) (by kernel_rfl) (fun _ _ _ h => h) (Or.inl ⟨by rfl, ?_⟩) ?_
            rotate_left
            · intro w
              go_simp
              with_reducible rfl
            refine wpAny_take (i := 5) (v := ?_) rfl (by kernel_rfl) (by kernel_rfl) (by kernel_rfl) (fun _ _ _ h => h) (Or.inl ⟨by rfl, ?_⟩) ?_
            rotate_left
            · intro w
              go_simp
              with_reducible rfl
            refine wpAny_ready (rs := [4, 6]) (by kernel_rfl) (by simp) ?_
            refine AllReady.cons rfl (fun K hK => ?_) (AllReady.cons rfl (fun K hK => ?_) AllReady.nil)
            · go_simp
              refine hK _ _ ?_
              clear hK K
              refine wpAny_ready (rs := [6]) (by kernel_rfl) (by simp) ?_
              refine AllReady.cons rfl (fun K hK => ?_) AllReady.nil
              go_simp
              go_at_call 57
              refine HD.out.mono ?_
              rintro e w5 ⟨hb5, rfl, hR5⟩
              have HB5 := Lib.hid hb5
              have c2' : w5.cell? ⟨b, 2, none⟩ = some tv := hR5.cells.2.2.1
              clear hb5
              refine hK _ _ ?_
              clear hK K
              refine wpAny_ready (rs := [7]) (by kernel_rfl) (by simp) ?_
              refine AllReady.cons rfl (fun K hK => ?_) AllReady.nil
              go_simp
              go_at_call 58
              refine (HPT.out _).mono ?_
              rintro e w6 ⟨rfl, rfl⟩
              refine ⟨rfl, (HB1.out.drew).trans HB5.out, ?_⟩
              rw [HP5.out]
              rfl
            · go_simp
              go_at_call 57
              refine HD.out.mono ?_
              rintro e w5 ⟨hb5, rfl, hR5⟩
              have HB5 := Lib.hid hb5
              have c2' : w5.cell? ⟨b, 2, none⟩ = some tv := hR5.cells.2.2.1
              clear hb5
              refine hK _ _ ?_
              clear hK K
              refine wpAny_ready (rs := [4, 7]) (by kernel_rfl) (by simp) ?_
              refine AllReady.cons rfl (fun K hK => ?_) (AllReady.cons rfl (fun K hK => ?_) AllReady.nil)
              · go_simp
                refine hK _ _ ?_
                clear hK K
                refine wpAny_ready (rs := [7]) (by kernel_rfl) (by simp) ?_
                refine AllReady.cons rfl (fun K hK => ?_) AllReady.nil
                go_simp
                go_at_call 58
                refine (HPT.out _).mono ?_
                rintro e w6 ⟨rfl, rfl⟩
                refine ⟨rfl, (HB1.out.drew).trans HB5.out, ?_⟩
                rw [HP5.out]
                rfl
              · go_simp
                go_at_call 58
                refine (HPT.out _).mono ?_
                rintro e w6 ⟨rfl, rfl⟩
                refine ⟨rfl, (HB1.out.drew).trans HB5.out, ?_⟩
                rw [HP5.out]
                rfl
          | some rn =>
            rw [hpp] at hpt
            obtain ⟨hrn0, hrn1⟩ := hpr.out rn hpp
            have HPT : Hid (∀ w, Calls Tryd.prog 58 #[.int .i64 n] w fun e w' => w = w' ∧ e = .returned (.int .i32 rn)) := hpt
            have HP5 : Hid (strokeP t p l = some (r, l ++ Lib.encodeRune rn)) := by show _ = _; rw [HP4.out]; show (match pointP n with | some c => some (r, l ++ Lib.encodeRune c) | none => none) = _; rw [hpp]
            clear hpt hpp HP4
            go_region_law (first | (go_simp; go_at_call 57; refine HD.out.mono ?_; rintro e w5 ⟨hb5, rfl, hR5⟩; have HB5 := Lib.hid hb5; have HR5 := Lib.hid hR5; have c2' : w5.cell? ⟨b, 2, none⟩ = some tv := hR5.cells.2.2.1; have hsz : b + 1 ≤ w5.heap.size := hR5.lt; clear hb5 hR5) | (go_simp; go_at_call 58; refine (HPT.out _).mono ?_; rintro e w6 ⟨rfl, rfl⟩) | (go_simp; go_at_call 50; refine (Tryd.utf8_AppendRune_plain (b + 1) tv l.length (Lib.byteCells l) rn (by omega) (by omega) _ HR5.out.row (by omega) hsz).mono ?_; rintro e w7 ⟨v1, rfl, hown1, o1, hgr1⟩; rw [← Lib.byteCells_encodeRune, Lib.byteCells_length] at hown1; obtain ⟨e1, hR2, hB2⟩ := HR5.out.told hgr1 hown1; obtain ⟨d0, d1, d2, kd⟩ := box_cells (e1.trans HR5.out.box); have HR2 := Lib.hid hR2; have HB2 := Lib.hid hB2; obtain ⟨ao, n', cap, rfl⟩ := row_form hown1; clear hR2 hB2 hown1 hgr1 e1))
            all_goals
              go_wp2
              refine bodyPost_end (results_none rfl _ _ _) rfl ?_
              refine ⟨(HB1.out.drew).trans (HB5.out.trans HB2.out), ?_⟩
              rw [HP5.out]
              exact ⟨rfl, _, HR2.out⟩
      by_cases h85 : c = 85
      · have g85 : (((c : Nat) : Int) == 85) = true := beq_iff_eq.2 (by omega)
        have HD := Lib.hid (digits_any w1.drew b _ t q l tv (HR1.out.below ((Below.refl _ _).drew)) hq ht 8 16 0 (by omega) (by omega) (by omega) (by omega) (by omega))
        have HP4 : Hid (strokeP t p l = runeP (digitsP t q 8 16 0) l) := by show _ = _; rw [HP3.out, if_neg h120, if_neg h117, if_pos h85]
        have hdb : Hid (∀ n r, digitsP t q 8 16 0 = some (n, r) → r ≤ t.size ∧ 0 ≤ n ∧ n < 1099511627776) := fun n r he => digitsP_bounds (by omega) (by omega) (by omega) (by omega) he
        clear HP3 h85
        generalize digitsP t q 8 16 0 = dg at *
        go_wp2_with fail
        cases dg with
        | none =>
          refine wp_region_any (by kernel_rfl) ?_
          change wpAny _ _ _ _ _ _ _ (World.drew _)
          refine wpAny_take (i := 0) (v := ?_) rfl (by kernel_rfl) (by kernel_rfl) (by kernel_rfl) (fun _ _ _ h => h) (Or.inl ⟨by rfl, ?_⟩) ?_
          rotate_left
          · intro w
            go_simp
            with_reducible rfl
          refine wpAny_take (i := 1) (v := ?_) rfl (by kernel_rfl) (by kernel_rfl) (by kernel_rfl) (fun _ _ _ h => h) (Or.inl ⟨by rfl, ?_⟩) ?_
          rotate_left
          · intro w
            go_simp
            with_reducible rfl
          refine wpAny_take (i := 2) (v := ?_) rfl (by kernel_rfl) (by kernel_rfl) (by kernel_rfl) (fun _ _ _ h => h) (Or.inl ⟨by rfl, ?_⟩) ?_
          rotate_left
          · intro w
            go_simp
            with_reducible rfl
          refine wpAny_take (i := 3) (v := ?_) rfl (by kernel_rfl) (by kernel_rfl) (by kernel_rfl) (fun _ _ _ h => h) (Or.inl ⟨by rfl, ?_⟩) ?_
          rotate_left
          · intro w
            go_simp
            with_reducible rfl
          refine wpAny_take (i := 5) (v := ?_) rfl (by kernel_rfl) (by kernel_rfl) (by kernel_rfl) (fun _ _ _ h => h) (Or.inl ⟨by rfl, ?_⟩) ?_
          rotate_left
          · intro w
            go_simp
            with_reducible rfl
          refine wpAny_ready (rs := [4, 6]) (by kernel_rfl) (by simp) ?_
          refine AllReady.cons rfl (fun K hK => ?_) (AllReady.cons rfl (fun K hK => ?_) AllReady.nil)
          · go_simp
            refine hK _ _ ?_
            clear hK K
            refine wpAny_ready (rs := [6]) (by kernel_rfl) (by simp) ?_
            refine AllReady.cons rfl (fun K hK => ?_) AllReady.nil
            go_simp
            go_at_call 57
            refine HD.out.mono ?_
            rintro e w5 ⟨hb5, he⟩
            obtain rfl : e = .panicked [{ v := .iface 59 (.agg #[]), recovered := false }] := he
            refine ⟨rfl, (HB1.out.drew).trans hb5, ?_⟩
            rw [HP4.out]
            rfl
          · go_simp
            go_at_call 57
            refine HD.out.mono ?_
            rintro e w5 ⟨hb5, he⟩
            obtain rfl : e = .panicked [{ v := .iface 59 (.agg #[]), recovered := false }] := he
            refine ⟨rfl, (HB1.out.drew).trans hb5, ?_⟩
            rw [HP4.out]
            rfl
        | some nq =>
          obtain ⟨n, r⟩ := nq
          obtain ⟨hr, hn0, hn1⟩ := hdb.out n r rfl
          have hpt := fun w => point_any n w hn0 hn1
          have hpr : Hid (∀ c, pointP n = some c → 0 ≤ c ∧ c ≤ 1114111) := fun c he => pointP_bounds hn0 he
          cases hpp : pointP n with
          | none =>
            rw [hpp] at hpt
            have HPT : Hid (∀ w, Calls Tryd.prog 58 #[.int .i64 n] w fun e w' => w = w' ∧ e = wrongE) := hpt
            have HP5 : Hid (strokeP t p l = none) := by show _ = _; rw [HP4.out]; show (match pointP n with | some c => some (r, l ++ Lib.encodeRune c) | none => none) = none; rw [hpp]
            clear hpt hpp HP4
            refine wp_region_any (by kernel_rfl) ?_
            change wpAny _ _ _ _ _ _ _ (World.drew _)
            refine wpAny_take (i := 0) (v := ?_) rfl (by kernel_rfl) (by kernel_rfl) (by kernel_rfl) (fun _ _ _ h => h) (Or.inl ⟨by rfl, ?_⟩) ?_
            rotate_left
            · intro w
              go_simp
              with_reducible rfl
            refine wpAny_take (i := 1) (v := ?_) rfl (by kernel_rfl) (by kernel_rfl) (by kernel_rfl) (fun _ _ _ h => h) (Or.inl ⟨by rfl, ?_⟩) ?_
            rotate_left
            · intro w
              go_simp
              with_reducible rfl
            refine wpAny_take (i := 2) (v := ?_) rfl (by kernel_rfl) (by kernel_rfl) (by kernel_rfl) (fun _ _ _ h => h) (Or.inl ⟨by rfl, ?_⟩) ?_
            rotate_left
            · intro w
              go_simp
              with_reducible rfl
            refine wpAny_take (i := 3) (v := ?_) rfl (by kernel_rfl) (by kernel_rfl) (by kernel_rfl) (fun _ _ _ h => h) (Or.inl ⟨by rfl, ?_⟩) ?_
            rotate_left
            · intro w
              go_simp
              with_reducible rfl
            refine wpAny_take (i := 5) (v := ?_) rfl (by kernel_rfl) (by kernel_rfl) (by kernel_rfl) (fun _ _ _ h => h) (Or.inl ⟨by rfl, ?_⟩) ?_
            rotate_left
            · intro w
              go_simp
              with_reducible rfl
            refine wpAny_ready (rs := [4, 6]) (by kernel_rfl) (by simp) ?_
            refine AllReady.cons rfl (fun K hK => ?_) (AllReady.cons rfl (fun K hK => ?_) AllReady.nil)
            · go_simp
              refine hK _ _ ?_
              clear hK K
              refine wpAny_ready (rs := [6]) (by kernel_rfl) (by simp) ?_
              refine AllReady.cons rfl (fun K hK => ?_) AllReady.nil
              go_simp
              go_at_call 57
              refine HD.out.mono ?_
              rintro e w5 ⟨hb5, rfl, hR5⟩
              have HB5 := Lib.hid hb5
              have c2' : w5.cell? ⟨b, 2, none⟩ = some tv := hR5.cells.2.2.1
              clear hb5
              refine hK _ _ ?_
              clear hK K
              refine wpAny_ready (rs := [7]) (by kernel_rfl) (by simp) ?_
              refine AllReady.cons rfl (fun K hK => ?_) AllReady.nil
              go_simp
              go_at_call 58
              refine (HPT.out _).mono ?_
              rintro e w6 ⟨rfl, rfl⟩
              refine ⟨rfl, (HB1.out.drew).trans HB5.out, ?_⟩
              rw [HP5.out]
              rfl
            · go_simp
              go_at_call 57
              refine HD.out.mono ?_
              rintro e w5 ⟨hb5, rfl, hR5⟩
              have HB5 := Lib.hid hb5
              have c2' : w5.cell? ⟨b, 2, none⟩ = some tv := hR5.cells.2.2.1
              clear hb5
              refine hK _ _ ?_
              clear hK K
              refine wpAny_ready (rs := [4, 7]) (by kernel_rfl) (by simp) ?_
              refine AllReady.cons rfl (fun K hK => ?_) (AllReady.cons rfl (fun K hK => ?_) AllReady.nil)
              · go_simp
                refine hK _ _ ?_
                clear hK K
                refine wpAny_ready (rs := [7]) (by kernel_rfl) (by simp) ?_
                refine AllReady.cons rfl (fun K hK => ?_) AllReady.nil
                go_simp
                go_at_call 58
                refine (HPT.out _).mono ?_
                rintro e w6 ⟨rfl, rfl⟩
                refine ⟨rfl, (HB1.out.drew).trans HB5.out, ?_⟩
                rw [HP5.out]
                rfl
              · go_simp
                go_at_call 58
                refine (HPT.out _).mono ?_
                rintro e w6 ⟨rfl, rfl⟩
                refine ⟨rfl, (HB1.out.drew).trans HB5.out, ?_⟩
                rw [HP5.out]
                rfl
          | some rn =>
            rw [hpp] at hpt
            obtain ⟨hrn0, hrn1⟩ := hpr.out rn hpp
            have HPT : Hid (∀ w, Calls Tryd.prog 58 #[.int .i64 n] w fun e w' => w = w' ∧ e = .returned (.int .i32 rn)) := hpt
            have HP5 : Hid (strokeP t p l = some (r, l ++ Lib.encodeRune rn)) := by show _ = _; rw [HP4.out]; show (match pointP n with | some c => some (r, l ++ Lib.encodeRune c) | none => none) = _; rw [hpp]
            clear hpt hpp HP4
            go_region_law (first | (go_simp; go_at_call 57; refine HD.out.mono ?_; rintro e w5 ⟨hb5, rfl, hR5⟩; have HB5 := Lib.hid hb5; have HR5 := Lib.hid hR5; have c2' : w5.cell? ⟨b, 2, none⟩ = some tv := hR5.cells.2.2.1; have hsz : b + 1 ≤ w5.heap.size := hR5.lt; clear hb5 hR5) | (go_simp; go_at_call 58; refine (HPT.out _).mono ?_; rintro e w6 ⟨rfl, rfl⟩) | (go_simp; go_at_call 50; refine (Tryd.utf8_AppendRune_plain (b + 1) tv l.length (Lib.byteCells l) rn (by omega) (by omega) _ HR5.out.row (by omega) hsz).mono ?_; rintro e w7 ⟨v1, rfl, hown1, o1, hgr1⟩; rw [← Lib.byteCells_encodeRune, Lib.byteCells_length] at hown1; obtain ⟨e1, hR2, hB2⟩ := HR5.out.told hgr1 hown1; obtain ⟨d0, d1, d2, kd⟩ := box_cells (e1.trans HR5.out.box); have HR2 := Lib.hid hR2; have HB2 := Lib.hid hB2; obtain ⟨ao, n', cap, rfl⟩ := row_form hown1; clear hR2 hB2 hown1 hgr1 e1))
            all_goals
              go_wp2
              refine bodyPost_end (results_none rfl _ _ _) rfl ?_
              refine ⟨(HB1.out.drew).trans (HB5.out.trans HB2.out), ?_⟩
              rw [HP5.out]
              exact ⟨rfl, _, HR2.out⟩
      have f120 : (((c : Nat) : Int) == 120) = false := beq_eq_false_iff_ne.2 (by omega)
      have f117 : (((c : Nat) : Int) == 117) = false := beq_eq_false_iff_ne.2 (by omega)
      have f85 : (((c : Nat) : Int) == 85) = false := beq_eq_false_iff_ne.2 (by omega)
      have HP4 : Hid (strokeP t p l = if digW c 8 < 8 then octalP (digitsP t q 2 8 (digW c 8)) l else none) := by show _ = _; rw [HP3.out, if_neg h120, if_neg h117, if_neg h85]
      clear HP3 h120 h117 h85
      have hdb8 := digW_bounds c 8 (by omega) (by omega)
      go_wp2_with fail
      refine (digit_any c 8 w1 (by omega) (by omega) (by omega) (by omega)).mono ?_
      rintro e w5 ⟨rfl, rfl⟩
      by_cases hd : digW c 8 < 8
      case neg =>
        rw [decide_eq_false hd, orWrong_f]
        refine ⟨rfl, HB1.out, ?_⟩
        rw [HP4.out, if_neg hd]
        rfl
      rw [decide_eq_true hd, orWrong_t]
      have HP5 : Hid (strokeP t p l = octalP (digitsP t q 2 8 (digW c 8)) l) := by show _ = _; rw [HP4.out, if_pos hd]
      clear HP4
      have HD := Lib.hid (digits_any w1 b _ t q l tv HR1.out hq ht 2 8 (digW c 8) (by omega) (by omega) (by omega) (by omega) (by omega))
      have hdb : Hid (∀ n r, digitsP t q 2 8 (digW c 8) = some (n, r) → r ≤ t.size ∧ 0 ≤ n ∧ n < 1099511627776) := fun n r he => digitsP_bounds (by omega) (by omega) (by omega) (by omega) he
      generalize digW c 8 = dv at *
      generalize digitsP t q 2 8 dv = dg at *
      go_wp2_with fail
      refine HD.out.mono ?_
      rintro e w5 ⟨hb5, hE⟩
      cases dg with
      | none =>
        obtain rfl : e = .panicked [{ v := .iface 59 (.agg #[]), recovered := false }] := hE
        refine ⟨rfl, HB1.out.trans hb5, ?_⟩
        rw [HP5.out]
        rfl
      | some nq =>
        obtain ⟨n, r⟩ := nq
        obtain ⟨rfl, hR5⟩ := hE
        obtain ⟨hr, hn0, hn1⟩ := hdb.out n r rfl
        have HB5 := Lib.hid hb5
        have HR5 := Lib.hid hR5
        have hrow := hR5.row
        obtain ⟨e0, e1, e2, ke⟩ := hR5.cells
        have hbw5 := hR5.lt
        clear hb5 hR5 c0 c1 c2 kb HD hdb
        by_cases h255 : n ≤ 255
        case neg =>
          have HP6 : Hid (strokeP t p l = none) := by show _ = _; rw [HP5.out]; show (if n ≤ 255 then _ else none) = none; rw [if_neg h255]
          have g255 : decide (n ≤ 255) = false := decide_eq_false h255
          go_wp2_with fail
          refine (must_f w5).mono ?_
          rintro e w6 ⟨rfl, rfl⟩
          refine ⟨rfl, HB1.out.trans HB5.out, ?_⟩
          rw [HP6.out]
          rfl
        have HP6 : Hid (strokeP t p l = some (r, l ++ [b8 n])) := by show _ = _; rw [HP5.out]; show (if n ≤ 255 then _ else none) = _; rw [if_pos h255]
        have g255 : decide (n ≤ 255) = true := decide_eq_true h255
        obtain ⟨i0, hi0, hz0, hz1, hz2⟩ := info_parts u8_info
        go_wp2_with fail
        refine (must_t w5).mono ?_
        rintro e w6 ⟨rfl, rfl⟩
        have hwn : n < 256 := by omega
        go_wp2_with (at_builtin; refine wpList_append_own _ rfl _ _ 33 rfl (b + 1) 5 i0 (.int .u8 0) 1 1 Tryd.underlying33 hi0 hz0 hz1 hz2 rfl (by decide) _ _ _ rfl (hrow.alloc _) ⟨w5.heap.size, 0, none⟩ 1 1 [.int .u8 n] rfl rfl ?c1 ?c2 ?c3 ?c4 ?c5 ?_)
        case c1 =>
          intro j u hj
          match j, hj with
          | 0, hj => simp at hj; subst hj; simp [Addr.add]
        case c2 => intro u hu; simp at hu; subst hu; rfl
        case c3 => unfold maxLen; omega
        case c4 => omega
        case c5 => simp; omega
        intro v' w2 hown' hgrow _
        obtain ⟨e1', hR2, hB2⟩ := HR5.out.told1 hgrow hn0 hwn hown'
        obtain ⟨d0, d1, d2, kd⟩ := box_cells (e1'.trans HR5.out.box)
        have HR2 := Lib.hid hR2
        have HB2 := Lib.hid hB2
        obtain ⟨ao, n', cap, rfl⟩ := row_form hown'
        clear hR2 hB2 hown' hgrow hrow e0 e1 e2 ke e1'
        go_wp2
        refine bodyPost_end (results_none rfl _ _ _) rfl ?_
        refine ⟨HB1.out.trans (HB5.out.trans HB2.out), ?_⟩
        rw [HP6.out]
        exact ⟨rfl, _, HR2.out⟩
end Go.Proofs.YtijinpnbhnfiiaaDoor
