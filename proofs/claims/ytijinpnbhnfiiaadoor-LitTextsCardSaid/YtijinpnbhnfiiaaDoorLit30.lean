/- The document's decimal. -/
import Derived.Test.YtijinpnbhnfiiaaDoorLit20
import Derived.Test.YtijinpnbhnfiiaaDoorApp
namespace Go.Proofs.YtijinpnbhnfiiaaDoor
open Go.RowKit
set_option linter.unusedVariables false

/-! ### Rows of whole numbers -/
def ints (l : List Nat) : List Value := l.map fun n : Nat => Value.int .i64 (n : Int)
def Digs (w : World) (B : Nat) (v : Value) (l : List Nat) : Prop := w.ownsRow B 3 1 v l.length (ints l)
theorem Digs.form {w : World} {B : Nat} {v : Value} {l : List Nat} (h : Digs w B v l) : ∃ a cap, v = .slice a l.length cap := by
  rcases h.2 with ⟨h1, h2⟩ | ⟨g, cap, cur, hv, _⟩
  · exact ⟨none, 0, by rw [h1, h2]⟩
  · exact ⟨_, _, hv⟩
theorem Digs.at {w : World} {B : Nat} {v : Value} {l : List Nat} (h : Digs w B v l) (i : Nat) (f : Nat) (hi : l[i]? = some f) : ∃ g cap, v = .slice (some ⟨g, 0, none⟩) l.length cap ∧ B ≤ g ∧ g < w.heap.size ∧ w.cell? ⟨g, i, none⟩ = some (.int .i64 f) ∧ w.frozen? ⟨g, i, none⟩ = false ∧
    ∀ d : Nat, Digs (w.setCell ⟨g, i, none⟩ (.int .i64 d)) B v (l.set i d) := by
  have hlt := (List.getElem?_eq_some_iff.1 hi).1
  obtain ⟨g, cap, rfl, hB, hg⟩ : ∃ g cap, v = .slice (some ⟨g, 0, none⟩) l.length cap ∧ B ≤ g ∧ g < w.heap.size := by
    rcases h.2 with ⟨_, h0⟩ | ⟨g, cap, cur, hv, hB, hg, _⟩
    · omega
    · exact ⟨g, cap, hv, hB, lt_of_block hg⟩
  refine ⟨g, cap, rfl, hB, hg, ?_, h.frozenAt i, fun d => ?_⟩
  · rw [h.cellAt i (by omega)]
    unfold ints
    rw [List.getElem?_map, hi]
    rfl
  · have := (h.stored i (.int .i64 d)).1
    unfold Digs ints
    rw [List.length_set, List.map_set]
    exact this
theorem Digs.below {w W : World} {B : Nat} {v : Value} {l : List Nat} (h : Digs w B v l) (hb : Below w.heap.size w W) : Digs W B v l := owns_below h hb

theorem int_info : (Tryd.prog.info? 3).map (fun i => (i.zero, i.size, i.bytes)) = some (some (.int .i64 0), 1, 8) := by kernel_rfl

/-- The digits that came in. -/
def IntsAt (w : World) (a : Option Addr) (l : List Nat) : Prop := l.length = 0 ∨ ∃ g, a = some ⟨g, 0, none⟩ ∧ g < w.heap.size ∧ ∀ (i d : Nat), l[i]? = some d → w.cell? ⟨g, i, none⟩ = some (.int .i64 (d : Int))
theorem IntsAt.below {w W : World} {a : Option Addr} {l : List Nat} (h : IntsAt w a l) (hb : Below w.heap.size w W) : IntsAt W a l := by
  rcases h with h | ⟨g, rfl, hlt, h⟩
  · exact .inl h
  · exact .inr ⟨g, rfl, Nat.lt_of_lt_of_le hlt hb.size, fun i d hi => (hb.cell (p := ⟨g, i, none⟩) hlt).trans (h i d hi)⟩

/-! ### The number -/
def foldD (base : Nat) (ds : List Nat) : List Nat := ds.foldl (growN base) []
/-- As the document's row has it: a nought for nothing. -/
def rowR (l : List Nat) : List Nat := if l = [] then [0] else l
theorem rowR_pos (l : List Nat) : 0 < (rowR l).length := by
  unfold rowR
  split
  · decide
  · exact List.length_pos_iff.2 (by assumption)
theorem grow_row (base : Nat) (l : List Nat) (m : Nat) : growN base (rowR l) m = rowR (growN base l m) := by
  unfold rowR
  by_cases h : l = []
  · subst h
    rw [if_pos rfl]
    show (m + 0 * base) % 10 :: tailN ((m + 0 * base) / 10) ((m + 0 * base) / 10) = if tailN m m = [] then [0] else tailN m m
    rw [Nat.zero_mul, Nat.add_zero]
    by_cases h0 : m = 0
    · subst h0; rfl
    · obtain ⟨k, rfl⟩ : ∃ k, m = k + 1 := ⟨m - 1, by omega⟩
      rw [show tailN (k + 1) (k + 1) = (k + 1) % 10 :: tailN k ((k + 1) / 10) by rw [tailN, if_neg h0], if_neg (by simp), tailN_fuel k ((k + 1) / 10) _ (by omega) (Nat.le_refl _)]
  · rw [if_neg h]
    cases l with
    | nil => exact absurd rfl h
    | cons f l => rw [growN, if_neg (by simp)]
theorem fold_snoc (base : Nat) (ds : List Nat) (i d : Nat) (h : ds[i]? = some d) : foldD base (ds.take (i + 1)) = growN base (foldD base (ds.take i)) d := by
  obtain ⟨hlt, he⟩ := List.getElem?_eq_some_iff.1 h
  unfold foldD
  rw [List.take_succ_eq_append_getElem hlt, List.foldl_append, he]
  rfl
theorem growN_len2 (base : Nat) (hb : base ≤ 16) : ∀ l m, (∀ x ∈ l, x < 10) → m < 16 → (growN base l m).length ≤ l.length + 2
  | [], m, h, hm => tailN_len m m (by omega)
  | f :: l, m, h, hm => by
    rw [growN, List.length_cons, List.length_cons]
    have hf := h f (List.mem_cons_self ..)
    have hmul : f * base ≤ 9 * 16 := Nat.mul_le_mul (by omega) hb
    have := growN_len2 base hb l ((m + f * base) / 10) (fun x hx => h x (List.mem_cons_of_mem _ hx)) (by omega)
    omega
theorem fold_facts (base : Nat) (hb : 2 ≤ base ∧ base ≤ 16) (ds : List Nat) (hd : ∀ d ∈ ds, d < 16) : ∀ i, i ≤ ds.length → NZ (foldD base (ds.take i)) ∧ (∀ x ∈ foldD base (ds.take i), x < 10) ∧ (foldD base (ds.take i)).length ≤ 2 * i
  | 0, h => ⟨NZ.nil, (fun _ h => by cases h), Nat.le_refl _⟩
  | i + 1, h => by
    obtain ⟨h1, h2, h3⟩ := fold_facts base hb ds hd i (by omega)
    have hi : ds[i]? = some (ds[i]'(by omega)) := List.getElem?_eq_getElem _
    rw [fold_snoc base ds i _ hi]
    have hd16 := hd _ (List.getElem_mem (show i < ds.length by omega))
    refine ⟨growN_nz base hb.1 _ _ h1, growN_lt base _ _, ?_⟩
    have := growN_len2 base hb.2 _ _ h2 hd16
    omega

theorem writtenB_row (l : List Nat) : writtenB l = ⟨(writtenL (rowR l)).toArray⟩ := by
  unfold writtenB rowR
  cases l with
  | nil => rfl
  | cons f l => rw [if_neg (by simp), if_neg (by simp)]

theorem rowB_text {w : World} {B : Nat} {v : Value} {l : List UInt8} (h : w.ownsRow B 5 1 v l.length (l.map fun b => Value.int .u8 b.toNat)) : ∃ a cap, v = .slice a (⟨l.toArray⟩ : ByteArray).size cap ∧ Text w a ⟨l.toArray⟩ ∧ (⟨l.toArray⟩ : ByteArray).size ≤ cap :=
  copied (s := ⟨l.toArray⟩) h

/-- Bytes in a row of the call's own. -/
def BytL (w : World) (B : Nat) (v : Value) (l : List UInt8) : Prop := w.ownsRow B 5 1 v l.length (l.map fun b => Value.int .u8 b.toNat)

set_option maxHeartbeats 4000000 in
set_option maxRecDepth 100000 in
theorem decimal_any (ds : List Nat) (a : Option Addr) (cap base : Nat) (w : World) (hd : ∀ d ∈ ds, d < 16) (hb : 2 ≤ base ∧ base ≤ 16) (hn : ds.length ≤ 200) (ht : IntsAt w a ds) :
    Calls Tryd.prog 20 #[.slice a ds.length cap, .int .i64 base] w fun e w' => e = .returned (.string (writtenB (foldD base ds))) ∧ Below w.heap.size w w' := by
  have HA := Lib.hid ht
  have HD := Lib.hid hd
  have HB := Lib.hid hb
  have HW := Lib.hid (writtenB_row (foldD base ds))
  have HFA := Lib.hid (fold_facts base hb ds hd)
  obtain ⟨i0, hi0, hz0, hz1, hz2⟩ := info_parts int_info
  obtain ⟨j0, hj0, hy0, hy1, hy2⟩ := info_parts u8_info
  have hi0' := Lib.hid hi0
  have hz0' := Lib.hid hz0
  have hz1' := Lib.hid hz1
  have hz2' := Lib.hid hz2
  have hj0' := Lib.hid hj0
  have hy0' := Lib.hid hy0
  have hy1' := Lib.hid hy1
  have hy2' := Lib.hid hy2
  clear hi0 hz0 hz1 hz2 hj0 hy0 hy1 hy2 ht hd
  obtain ⟨hb1, hb2⟩ := hb
  have HB0 := Lib.hid ((Below.refl w.heap.size w).alloc (Nat.le_refl _) (.cells #[.int .i64 0] 3))
  have HR0 : Hid (Digs (w.alloc (.cells #[.int .i64 0] 3)) w.heap.size (.slice (some ⟨w.heap.size, 0, none⟩) 1 1) [0]) := ⟨rfl, .inr ⟨w.heap.size, 1, #[.int .i64 0], rfl, Nat.le_refl _, heap_alloc_new _ _, Nat.le_refl _, by unfold maxLen; omega, rfl, rfl⟩⟩
  generalize hnn : ds.length = n at *
  have HN := Lib.hid hnn
  clear hnn
  go_enter Tryd.func20, Tryd.ntmps20
  go_wp2
  go_loopw [5, 6] (fun v iv wr => ∃ i : Nat, iv = .int .i64 i ∧ i ≤ n ∧ Hid (Digs wr w.heap.size v (rowR (foldD base (ds.take i)))) ∧ Hid (Below w.heap.size w wr)) (fun _ iv _ => n - (intOf iv).toNat)
  case atStart => exact ⟨0, rfl, Nat.zero_le _, HR0, HB0⟩
  case round =>
    clear HR0 HB0
    obtain ⟨i, rfl, hi, HRr, HBr⟩ := hrel
    obtain ⟨a1, c1, rfl⟩ := HRr.out.form
    have hsz := HBr.out.size
    by_cases hlt : i < n
    · have gi : decide (i < n) = true := decide_eq_true hlt
      have hmem : ds[i]? = some (ds[i]'(by have := HN.out; omega)) := List.getElem?_eq_getElem _
      have hd16 := HD.out _ (List.getElem_mem (show i < ds.length by have := HN.out; omega))
      generalize ds[i]'(by have := HN.out; omega) = d at *
      obtain ⟨g, rfl, hg, hcell⟩ : ∃ g, a = some ⟨g, 0, none⟩ ∧ g < wr.heap.size ∧ wr.cell? ⟨g, i, none⟩ = some (.int .i64 (d : Int)) := by
        rcases HA.out.below HBr.out with h | ⟨g, rfl, hg, h⟩
        · have := HN.out; omega
        · exact ⟨g, rfl, hg, h i d hmem⟩
      obtain ⟨hz, hlt10, hlen⟩ := HFA.out i (by have := HN.out; omega)
      have HS := Lib.hid (fold_snoc base ds i d hmem)
      generalize foldD base (ds.take i) = fd at *
      have HGR : Hid (growN base (rowR fd) d = rowR (foldD base (ds.take (i + 1)))) := by show _ = _; rw [grow_row, HS.out]
      have hrl : (rowR fd).length ≤ 2 * i + 1 := by
        unfold rowR
        split
        · show 1 ≤ 2 * i + 1; omega
        · omega
      have hr10 : ∀ x ∈ rowR fd, x < 10 := by
        unfold rowR
        split
        · intro x hx; rw [List.mem_singleton.1 hx]; decide
        · exact hlt10
      have HR10 := Lib.hid hr10
      clear hmem hz hlt10 hlen HS hr10
      generalize rowR fd = row at *
      generalize hres : rowR (foldD base (ds.take (i + 1))) = res at *
      have HRES := Lib.hid hres
      clear hres
      go_wp2
      generalize hWS : wr.heap.size = ws at *
      have HWS := Lib.hid hWS
      clear hWS
      go_loopw [7, 8] (fun mv kv wq => ∃ (m k : Nat) (out : List Nat), mv = .int .i64 m ∧ kv = .int .i64 k ∧ m < 16 ∧ k ≤ row.length ∧ out.length = k ∧ Hid (Digs wq w.heap.size (.slice a1 row.length c1) (out ++ row.drop k)) ∧ Hid (Below w.heap.size w wq) ∧ Hid (out ++ growN base (row.drop k) m = res)) (fun _ kv _ => row.length - (intOf kv).toNat)
      case atStart => exact ⟨d, 0, [], rfl, rfl, hd16, Nat.zero_le _, rfl, HRr, HBr, HGR⟩
      case round =>
        obtain ⟨m, k, out, rfl, rfl, hm16, hk, ho, HFq, HBq, HE⟩ := hrel
        by_cases hkl : k < row.length
        · have gk : decide (k < row.length) = true := decide_eq_true hkl
          have hdr : row.drop k = row[k] :: row.drop (k + 1) := List.drop_eq_getElem_cons hkl
          have hf := HR10.out row[k] (List.getElem_mem _)
          generalize row[k] = f at *
          have hlen : (out ++ row.drop k).length = row.length := by rw [List.length_append, List.length_drop]; omega
          have hat : (out ++ row.drop k)[k]? = some f := by rw [List.getElem?_append_right (by omega), ho, Nat.sub_self, hdr]; rfl
          obtain ⟨g2, cap', hv, hBg, hg2, c0, f0, hset⟩ := HFq.out.at k f hat
          rw [hlen] at hv
          obtain ⟨rfl, rfl⟩ : a1 = some ⟨g2, 0, none⟩ ∧ c1 = cap' := by injection hv with e1 _ e2; exact ⟨e1, e2⟩
          have hmul : f * base ≤ 9 * 16 := Nat.mul_le_mul (by omega) hb2
          obtain ⟨q, hq⟩ : ∃ q : Nat, q = m + f * base := ⟨_, rfl⟩
          have hqI : (f : Int) * (base : Int) + (m : Int) = (q : Int) := by rw [hq]; push_cast; omega
          have hfb0 : (0 : Int) ≤ (f : Int) * (base : Int) ∧ (f : Int) * (base : Int) ≤ 144 := by
            have : ((f * base : Nat) : Int) = (f : Int) * (base : Int) := by push_cast; rfl
            omega
          have hq2 : q < 160 := by omega
          have HS : Hid (Digs (wr.setCell ⟨g2, k, none⟩ (.int .i64 ((q % 10 : Nat) : Int))) w.heap.size (.slice (some ⟨g2, 0, none⟩) row.length c1) ((out ++ [q % 10]) ++ row.drop (k + 1))) := by
            have := hset (q % 10)
            rw [hdr, ← ho, set_mid, ho] at this
            exact this
          have e10 : ((q % 10 : Nat) : Int) = (q : Int) % 10 := by omega
          rw [e10] at HS
          have HB2 := Lib.hid (HBq.out.setCell (p := ⟨g2, k, none⟩) hBg (.int .i64 ((q : Int) % 10)))
          have HE2 : Hid ((out ++ [q % 10]) ++ growN base (row.drop (k + 1)) (q / 10) = res) := by
            show _ = _
            rw [← HE.out, hdr, growN, hq, List.append_assoc]
            rfl
          have HQ := Lib.hid hq
          clear hat hset hdr hv HE hq e10 HRr HBr HGR
          go_wp2
          exact ⟨⟨q / 10, k + 1, out ++ [q % 10], by rw [Int.natCast_ediv]; rfl, by go_num, by omega, hkl, by simp [ho], HS.out, HB2.out, HE2.out⟩, by simp [intOf]; omega⟩
        · have gk : decide (k < row.length) = false := decide_eq_false hkl
          have hdr : row.drop k = [] := List.drop_eq_nil_of_le (by omega)
          have HF2 : Hid (Digs wr w.heap.size (.slice a1 row.length c1) out) := by
            have := HFq.out
            rw [hdr, List.append_nil] at this
            exact this
          have HE2 : Hid (out ++ tailN m m = res) := by
            show _ = _
            rw [← HE.out, hdr, growN]
          have hol : out.length = row.length := by omega
          clear HFq HE hdr HRr HBr HGR
          go_wp2
          generalize hvv : Value.slice a1 row.length c1 = vv at *
          clear hvv
          go_loopw [5, 7] (fun v mv wq => ∃ (k m : Nat) (out : List Nat), mv = .int .i64 m ∧ m ≤ k ∧ out.length + m ≤ row.length + 16 ∧ Hid (Digs wq w.heap.size v out) ∧ Hid (Below w.heap.size w wq) ∧ Hid (out ++ tailN k m = res)) (fun _ mv _ => (intOf mv).toNat)
          case atStart => exact ⟨m, m, out, rfl, Nat.le_refl _, by omega, HF2, HBq, HE2⟩
          case round =>
            clear HF2 HE2 HBq hm16 hol ho hk hkl gk
            obtain ⟨k, m, out, rfl, hmk, hlm, HFr, HBr, HE⟩ := hrel
            by_cases h0 : m = 0
            · subst h0
              have HE2 : Hid (out = res) := by
                show _ = _
                rw [← HE.out, tailN_fuel k 0 0 hmk (Nat.le_refl _), tailN, List.append_nil]
              have hf3 := HFr.out
              rw [HE2.out, ← HRES.out] at hf3
              have HF3 := Lib.hid hf3
              clear HE HFr hf3
              go_wp2
              go_roundw
              case rel => exact ⟨i + 1, by go_num, hlt, HF3.out, HBr.out⟩
              case measure => simp [intOf]; omega
            · have gm : decide ((0 : Int) < m) = true := decide_eq_true (by omega)
              obtain ⟨k, rfl⟩ : ∃ k', k = k' + 1 := ⟨k - 1, by omega⟩
              have HE2 : Hid ((out ++ [m % 10]) ++ tailN k (m / 10) = res) := by
                show _ = _
                rw [← HE.out, tailN, if_neg h0, List.append_assoc]
                rfl
              clear HE
              have hu0 := HFr.out
              have hsz' := HBr.out.size
              go_wp2_with (at_builtin; refine wpList_append_own _ rfl _ _ 38 rfl w.heap.size 3 i0 (.int .i64 0) 1 8 Tryd.underlying38 hi0'.out hz0'.out hz1'.out hz2'.out rfl (by decide) _ _ _ rfl (hu0.alloc _) ⟨wr.heap.size, 0, none⟩ 1 1 [.int .i64 ((m : Int) % 10)] rfl rfl ?c1 ?c2 ?c3 ?c4 ?c5 ?_)
              case c1 =>
                intro j u hj
                match j, hj with
                | 0, hj => simp at hj; subst hj; simp [Addr.add]
              case c2 => intro u hu; simp at hu; subst hu; rfl
              case c3 => unfold maxLen; omega
              case c4 => omega
              case c5 => simp; omega
              intro v' w2 hown' hgrow _
              have HF3 : Hid (Digs w2 w.heap.size v' (out ++ [m % 10])) := by
                have e : ints out ++ [Value.int .i64 ((m : Int) % 10)] = ints (out ++ [m % 10]) := by
                  unfold ints
                  rw [List.map_append, List.map_singleton, Int.natCast_emod]
                  rfl
                show w2.ownsRow w.heap.size 3 1 v' (out ++ [m % 10]).length (ints (out ++ [m % 10]))
                rw [← e, List.length_append]
                exact hown'
              have HB3 := Lib.hid ((HBr.out.alloc hsz' _).grown hgrow (by simp; omega) (fun k hk => (hu0.lt k hk).1))
              clear hown' hgrow hu0
              go_wp2
              exact ⟨⟨k, m / 10, out ++ [m % 10], by rw [Int.natCast_ediv]; rfl, by omega, by rw [List.length_append, List.length_singleton]; omega, HF3.out, HB3.out, HE2.out⟩, by simp [intOf]; omega⟩
    · have gi : decide (i < n) = false := decide_eq_false hlt
      obtain rfl : i = n := by omega
      obtain ⟨hz, hlt10, hlen⟩ := HFA.out i (by have := HN.out; omega)
      have htk : ds.take i = ds := List.take_of_length_le (by have := HN.out; omega)
      rw [htk] at HRr hz hlt10 hlen ⊢
      clear htk
      have hrz : ∀ (j f : Nat), (rowR (foldD base ds)).length = j + 1 → 1 ≤ j → (rowR (foldD base ds))[j]? = some f → f ≠ 0 := by
        intro j f h1 h2 h3 h4
        unfold rowR at h1 h3
        split at h1
        · simp at h1; omega
        · rename_i hne
          rw [if_neg hne] at h3
          have := hz hne
          rw [List.getLast_eq_getElem] at this
          rw [List.getElem?_eq_getElem (by omega)] at h3
          have h5 := Option.some.inj h3
          have h6 : (foldD base ds).length - 1 = j := by omega
          simp only [h6] at this
          omega
      have hr10 : ∀ x ∈ rowR (foldD base ds), x < 10 := by
        unfold rowR
        split
        · intro x hx; rw [List.mem_singleton.1 hx]; decide
        · exact hlt10
      have hpos := rowR_pos (foldD base ds)
      have hrl : (rowR (foldD base ds)).length ≤ 2 * i + 1 := by
        unfold rowR
        split
        · show 1 ≤ 2 * i + 1; omega
        · omega
      have HRZ := Lib.hid hrz
      have HR10 := Lib.hid hr10
      clear hz hlt10 hlen hrz hr10 HFA
      generalize rowR (foldD base ds) = row at *
      go_wp2
      go_loop [5] (fun v => v = .slice a1 row.length c1) (fun _ => 0)
      case atStart => rfl
      case round =>
        subst hrel
        obtain ⟨j, hj⟩ : ∃ j, row.length = j + 1 := ⟨row.length - 1, by omega⟩
        by_cases h1 : row.length = 1
        · have gl : decide ((1 : Int) < (row.length : Int)) = false := decide_eq_false (by omega)
          clear h1 hj
          go_wp2
          generalize wr = wx at *
          go_loopw [10, 11] (fun v jv wq => ∃ j : Nat, jv = .int .i64 ((j : Int) - 1) ∧ j ≤ row.length ∧ Hid (BytL wq wx.heap.size v ((writtenL row).take (row.length - j))) ∧ Hid (Below wx.heap.size wx wq)) (fun _ jv _ => (intOf jv + 1).toNat)
          case atStart => exact ⟨row.length, by go_num, Nat.le_refl _, by rw [Nat.sub_self, List.take_zero]; exact ⟨rfl, .inl ⟨rfl, rfl⟩⟩, Below.refl _ _⟩
          case round =>
            obtain ⟨j, rfl, hj, HO, HBq⟩ := hrel
            cases j with
            | zero =>
              have ho := HO.out
              rw [Nat.sub_zero, List.take_of_length_le (by unfold writtenL; rw [List.length_map, List.length_reverse]; omega)] at ho
              obtain ⟨a3, c3, hv3, ht3, hc3⟩ := rowB_text ho
              subst hv3
              have hcv := fun W (hB : Below wr.heap.size wr W) => (ht3.below hB).conv c3
              have hcv := hcv wr (Below.refl _ _)
              have HBE := Lib.hid (HBr.out.trans (HBq.out.mono HBr.out.size))
              clear ho ht3 HO
              generalize (⟨(writtenL row).toArray⟩ : ByteArray) = S at *
              go_wp2
              go_ret
              rw [HW.out]
              exact ⟨rfl, HBE.out⟩
            | succ j =>
              have hjl : j < row.length := by omega
              have hf : row[j]? = some (row[j]'hjl) := List.getElem?_eq_getElem _
              have hf10 := HR10.out _ (List.getElem_mem hjl)
              generalize row[j]'hjl = f at *
              obtain ⟨g3, cap3, hv3, hBg3, hg3, d0, -, -⟩ := (HRr.out.below HBq.out).at j f hf
              injection hv3 with hv3 _ hv4
              have hwi : (writtenL row)[row.length - (j + 1)]? = some (UInt8.ofNat (48 + f)) := by
                unfold writtenL
                rw [List.getElem?_map, List.getElem?_reverse (by omega), show row.length - 1 - (row.length - (j + 1)) = j by omega, hf]
                rfl
              have htk : (writtenL row).take (row.length - j) = (writtenL row).take (row.length - (j + 1)) ++ [UInt8.ofNat (48 + f)] := by
                obtain ⟨hlt2, he⟩ := List.getElem?_eq_some_iff.1 hwi
                rw [show row.length - j = row.length - (j + 1) + 1 by omega, List.take_succ_eq_append_getElem hlt2, he]
              have HTK := Lib.hid htk
              have hol : ((writtenL row).take (row.length - (j + 1))).length ≤ 1000 := by rw [List.length_take]; omega
              have hsq := HBq.out.size
              have ho := HO.out
              have gj : decide (j < row.length) = true := decide_eq_true hjl
              cases hv3
              clear hf hwi htk HO hv4
              rw [show (((j + 1 : Nat)) : Int) - 1 = (j : Int) by omega]
              go_wp2_with (at_builtin; refine wpList_append_own _ rfl _ _ 33 rfl wx.heap.size 5 j0 (.int .u8 0) 1 1 Tryd.underlying33 hj0'.out hy0'.out hy1'.out hy2'.out rfl (by decide) _ _ _ rfl (ho.alloc _) ⟨wr.heap.size, 0, none⟩ 1 1 [.int .u8 (48 + (f : Int))] rfl rfl (cell_one_new _ _ _) (fun u hu => by simp at hu; subst hu; rfl) (by unfold maxLen; omega) (by omega) (by simp; omega) ?_)
              intro v' w2 hown' hgrow _
              have HO3 : Hid (BytL w2 wx.heap.size v' ((writtenL row).take (row.length - j))) := by
                show w2.ownsRow _ _ _ _ _ _
                rw [HTK.out, List.length_append, List.map_append, List.map_singleton, show ((UInt8.ofNat (48 + f)).toNat : Int) = 48 + (f : Int) by simp; omega, List.length_take, List.map_take]
                exact hown'
              have HB3 := Lib.hid ((HBq.out.alloc hsq _).grown hgrow (by simp; omega) (fun k hk => (ho.lt k hk).1))
              clear hown' hgrow ho
              go_wp2
              go_roundw
              case rel => exact ⟨j, by go_num, by omega, HO3.out, HB3.out⟩
              case measure => simp [intOf]
        · have gl : decide ((1 : Int) < (row.length : Int)) = true := decide_eq_true (by omega)
          have hf : row[j]? = some (row[j]'(by omega)) := List.getElem?_eq_getElem _
          have hnz := HRZ.out j _ hj (by omega) hf
          generalize row[j]'(by omega) = f at *
          obtain ⟨g2, cap', hv, hBg, hg2, c0, f0, hset⟩ := HRr.out.at j f hf
          obtain ⟨rfl, rfl⟩ : a1 = some ⟨g2, 0, none⟩ ∧ c1 = cap' := by injection hv with e1 _ e2; exact ⟨e1, e2⟩
          have gnz : ((f : Int) == 0) = false := beq_eq_false_iff_ne.2 (by omega)
          have ej : (row.length : Int) - 1 = (j : Int) := by omega
          have gjl : decide (j < row.length) = true := decide_eq_true (by omega)
          clear h1 hset hv hf hj
          go_wp2
          generalize wr = wx at *
          go_loopw [10, 11] (fun v jv wq => ∃ j : Nat, jv = .int .i64 ((j : Int) - 1) ∧ j ≤ row.length ∧ Hid (BytL wq wx.heap.size v ((writtenL row).take (row.length - j))) ∧ Hid (Below wx.heap.size wx wq)) (fun _ jv _ => (intOf jv + 1).toNat)
          case atStart => exact ⟨row.length, by go_num, Nat.le_refl _, by rw [Nat.sub_self, List.take_zero]; exact ⟨rfl, .inl ⟨rfl, rfl⟩⟩, Below.refl _ _⟩
          case round =>
            obtain ⟨j, rfl, hj, HO, HBq⟩ := hrel
            cases j with
            | zero =>
              have ho := HO.out
              rw [Nat.sub_zero, List.take_of_length_le (by unfold writtenL; rw [List.length_map, List.length_reverse]; omega)] at ho
              obtain ⟨a3, c3, hv3, ht3, hc3⟩ := rowB_text ho
              subst hv3
              have hcv := fun W (hB : Below wr.heap.size wr W) => (ht3.below hB).conv c3
              have hcv := hcv wr (Below.refl _ _)
              have HBE := Lib.hid (HBr.out.trans (HBq.out.mono HBr.out.size))
              clear ho ht3 HO
              generalize (⟨(writtenL row).toArray⟩ : ByteArray) = S at *
              go_wp2
              go_ret
              rw [HW.out]
              exact ⟨rfl, HBE.out⟩
            | succ j =>
              have hjl : j < row.length := by omega
              have hf : row[j]? = some (row[j]'hjl) := List.getElem?_eq_getElem _
              have hf10 := HR10.out _ (List.getElem_mem hjl)
              generalize row[j]'hjl = f at *
              obtain ⟨g3, cap3, hv3, hBg3, hg3, d0, -, -⟩ := (HRr.out.below HBq.out).at j f hf
              injection hv3 with hv3 _ hv4
              have hwi : (writtenL row)[row.length - (j + 1)]? = some (UInt8.ofNat (48 + f)) := by
                unfold writtenL
                rw [List.getElem?_map, List.getElem?_reverse (by omega), show row.length - 1 - (row.length - (j + 1)) = j by omega, hf]
                rfl
              have htk : (writtenL row).take (row.length - j) = (writtenL row).take (row.length - (j + 1)) ++ [UInt8.ofNat (48 + f)] := by
                obtain ⟨hlt2, he⟩ := List.getElem?_eq_some_iff.1 hwi
                rw [show row.length - j = row.length - (j + 1) + 1 by omega, List.take_succ_eq_append_getElem hlt2, he]
              have HTK := Lib.hid htk
              have hol : ((writtenL row).take (row.length - (j + 1))).length ≤ 1000 := by rw [List.length_take]; omega
              have hsq := HBq.out.size
              have ho := HO.out
              have gj : decide (j < row.length) = true := decide_eq_true hjl
              cases hv3
              clear hf hwi htk HO hv4
              rw [show (((j + 1 : Nat)) : Int) - 1 = (j : Int) by omega]
              go_wp2_with (at_builtin; refine wpList_append_own _ rfl _ _ 33 rfl wx.heap.size 5 j0 (.int .u8 0) 1 1 Tryd.underlying33 hj0'.out hy0'.out hy1'.out hy2'.out rfl (by decide) _ _ _ rfl (ho.alloc _) ⟨wr.heap.size, 0, none⟩ 1 1 [.int .u8 (48 + (f : Int))] rfl rfl (cell_one_new _ _ _) (fun u hu => by simp at hu; subst hu; rfl) (by unfold maxLen; omega) (by omega) (by simp; omega) ?_)
              intro v' w2 hown' hgrow _
              have HO3 : Hid (BytL w2 wx.heap.size v' ((writtenL row).take (row.length - j))) := by
                show w2.ownsRow _ _ _ _ _ _
                rw [HTK.out, List.length_append, List.map_append, List.map_singleton, show ((UInt8.ofNat (48 + f)).toNat : Int) = 48 + (f : Int) by simp; omega, List.length_take, List.map_take]
                exact hown'
              have HB3 := Lib.hid ((HBq.out.alloc hsq _).grown hgrow (by simp; omega) (fun k hk => (ho.lt k hk).1))
              clear hown' hgrow ho
              go_wp2
              go_roundw
              case rel => exact ⟨j, by go_num, by omega, HO3.out, HB3.out⟩
              case measure => simp [intOf]
end Go.Proofs.YtijinpnbhnfiiaaDoor
