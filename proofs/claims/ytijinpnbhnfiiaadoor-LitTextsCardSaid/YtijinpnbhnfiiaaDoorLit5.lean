/- package lit: grown, written. -/
import Derived.Test.YtijinpnbhnfiiaaDoorLit4
namespace Go.Proofs.YtijinpnbhnfiiaaDoor
open Go.RowKit
set_option linter.unusedVariables false

/-- Figures in a row of the call's own. -/
def Figs (w : World) (B : Nat) (v : Value) (l : List Nat) : Prop := w.ownsRow B 5 1 v l.length (nums l)

theorem Figs.form {w : World} {B : Nat} {v : Value} {l : List Nat} (h : Figs w B v l) : ∃ a cap, v = .slice a l.length cap := by
  rcases h.2 with ⟨h1, h2⟩ | ⟨g, cap, cur, hv, _⟩
  · exact ⟨none, 0, by rw [h1, h2]⟩
  · exact ⟨_, _, hv⟩
theorem Figs.at {w : World} {B : Nat} {v : Value} {l : List Nat} (h : Figs w B v l) (i : Nat) (f : Nat) (hi : l[i]? = some f) : ∃ g cap, v = .slice (some ⟨g, 0, none⟩) l.length cap ∧ B ≤ g ∧ g < w.heap.size ∧ w.cell? ⟨g, i, none⟩ = some (.int .u8 f) ∧ w.frozen? ⟨g, i, none⟩ = false ∧
    ∀ d : Nat, Figs (w.setCell ⟨g, i, none⟩ (.int .u8 d)) B v (l.set i d) := by
  have hlt := (List.getElem?_eq_some_iff.1 hi).1
  obtain ⟨g, cap, rfl, hB, hg⟩ : ∃ g cap, v = .slice (some ⟨g, 0, none⟩) l.length cap ∧ B ≤ g ∧ g < w.heap.size := by
    rcases h.2 with ⟨_, h0⟩ | ⟨g, cap, cur, hv, hB, hg, _⟩
    · omega
    · exact ⟨g, cap, hv, hB, lt_of_block hg⟩
  refine ⟨g, cap, rfl, hB, hg, ?_, h.frozenAt i, fun d => ?_⟩
  · rw [h.cellAt i (by omega)]
    unfold nums
    rw [List.getElem?_map, hi]
    rfl
  · have := (h.stored i (.int .u8 d)).1
    unfold Figs nums
    rw [List.length_set, List.map_set]
    exact this
theorem Figs.below {w W : World} {B : Nat} {v : Value} {l : List Nat} (h : Figs w B v l) (hb : Below w.heap.size w W) : Figs W B v l := owns_below h hb

theorem set_mid (out rest : List Nat) (f d : Nat) : (out ++ f :: rest).set out.length d = (out ++ [d]) ++ rest := by
  rw [List.set_append_right _ _ (Nat.le_refl _), Nat.sub_self]
  simp

set_option maxHeartbeats 2000000 in
set_option maxRecDepth 100000 in
theorem grown_any (B : Nat) (v : Value) (l : List Nat) (base more : Nat) (w : World) (h : Figs w B v l) (hB : B ≤ w.heap.size) (hb : base ≤ 16) (hm : more < 16) (hl : ∀ d ∈ l, d < 10) (hn : l.length ≤ 10000) :
    Calls Tryd.prog 32 #[v, .int .i64 base, .int .i64 more] w fun e w' => ∃ v', e = .returned v' ∧ Figs w' B v' (growN base l more) ∧ Below B w w' := by
  have HG : Hid (growN base l more = growN base l more) := rfl
  generalize hr : growN base l more = res at HG ⊢
  have HR := Lib.hid hr
  clear hr HG
  obtain ⟨i0, hi0, hz0, hz1, hz2⟩ := info_parts u8_info
  have HF := Lib.hid h
  have HL := Lib.hid hl
  obtain ⟨a, cap, rfl⟩ := h.form
  clear h hl
  go_enter Tryd.func32, Tryd.ntmps32
  go_wp2
  go_loopw [2, 11] (fun mv iv wr => ∃ (m i : Nat) (out : List Nat), mv = .int .i64 m ∧ iv = .int .i64 i ∧ m < 16 ∧ i ≤ l.length ∧ out.length = i ∧ Hid (Figs wr B (.slice a l.length cap) (out ++ l.drop i)) ∧ Hid (Below B w wr) ∧ Hid (out ++ growN base (l.drop i) m = res)) (fun _ iv _ => l.length - (intOf iv).toNat)
  case atStart => exact ⟨more, 0, [], rfl, rfl, hm, Nat.zero_le _, rfl, HF, Below.refl B w, HR⟩
  case round =>
    obtain ⟨m, i, out, rfl, rfl, hm16, hi, ho, HFr, HBr, HE⟩ := hrel
    by_cases hlt : i < l.length
    · have gi : decide (i < l.length) = true := decide_eq_true hlt
      have hd : l.drop i = l[i] :: l.drop (i + 1) := List.drop_eq_getElem_cons hlt
      have hf := HL.out l[i] (List.getElem_mem _)
      generalize l[i] = f at *
      have hlen : (out ++ l.drop i).length = l.length := by rw [List.length_append, List.length_drop]; omega
      have hat : (out ++ l.drop i)[i]? = some f := by rw [List.getElem?_append_right (by omega), ho, Nat.sub_self, hd]; rfl
      obtain ⟨g, cap', hv, hBg, hg, c0, f0, hset⟩ := HFr.out.at i f hat
      rw [hlen] at hv
      obtain ⟨rfl, rfl⟩ : a = some ⟨g, 0, none⟩ ∧ cap = cap' := by injection hv with e1 _ e2; exact ⟨e1, e2⟩
      have hmul : f * base ≤ 9 * 16 := Nat.mul_le_mul (by omega) hb
      obtain ⟨q, hq⟩ : ∃ q : Nat, q = m + f * base := ⟨_, rfl⟩
      have hqI : (m : Int) + (f : Int) * (base : Int) = (q : Int) := by rw [hq]; push_cast; rfl
      have hq2 : q < 160 := by omega
      have HS : Hid (Figs (wr.setCell ⟨g, i, none⟩ (.int .u8 ((q % 10 : Nat) : Int))) B (.slice (some ⟨g, 0, none⟩) l.length cap) ((out ++ [q % 10]) ++ l.drop (i + 1))) := by
        have := hset (q % 10)
        rw [hd, ← ho, set_mid, ho] at this
        exact this
      have e10 : ((q % 10 : Nat) : Int) = (q : Int) % 10 := by omega
      rw [e10] at HS
      have HB2 := Lib.hid (HBr.out.setCell (p := ⟨g, i, none⟩) hBg (.int .u8 ((q : Int) % 10)))
      have HE2 : Hid ((out ++ [q % 10]) ++ growN base (l.drop (i + 1)) (q / 10) = res) := by
        show _ = _
        rw [← HE.out, hd, growN, hq, List.append_assoc]
        rfl
      have HQ := Lib.hid hq
      clear hat hset hd hv HE hq
      clear e10
      go_wp2
      exact ⟨⟨q / 10, i + 1, out ++ [q % 10], by rw [Int.natCast_ediv]; rfl, by go_num, by omega, hlt, by simp [ho], HS.out, HB2.out, HE2.out⟩, by simp [intOf]; omega⟩
    · have gi : decide (i < l.length) = false := decide_eq_false hlt
      have hdr : l.drop i = [] := List.drop_eq_nil_of_le (by omega)
      have HF2 : Hid (Figs wr B (.slice a l.length cap) out) := by
        have := HFr.out
        rw [hdr, List.append_nil] at this
        exact this
      have HE2 : Hid (out ++ tailN m m = res) := by
        show _ = _
        rw [← HE.out, hdr, growN]
      clear HFr HE hdr
      generalize hvv : Value.slice a l.length cap = vv at *
      clear hvv HF
      go_wp2
      go_loopw [0, 2] (fun v mv wr => ∃ (k m : Nat) (out : List Nat), mv = .int .i64 m ∧ m ≤ k ∧ out.length + m ≤ l.length + 16 ∧ Hid (Figs wr B v out) ∧ Hid (Below B w wr) ∧ Hid (out ++ tailN k m = res)) (fun _ mv _ => (intOf mv).toNat)
      case atStart => exact ⟨m, m, out, rfl, Nat.le_refl _, by omega, HF2, HBr, HE2⟩
      case round =>
        clear HF2 HE2 HBr hm16
        obtain ⟨k, m, out, rfl, hmk, hlm, HFr, HBr, HE⟩ := hrel
        by_cases h0 : m = 0
        · subst h0
          have HE2 : Hid (out = res) := by
            show _ = _
            rw [← HE.out, tailN_fuel k 0 0 hmk (Nat.le_refl _), tailN, List.append_nil]
          clear HE
          go_wp2
          go_ret
          refine ⟨_, rfl, ?_, HBr.out⟩
          rw [← HE2.out]
          exact HFr.out
        · have gm : decide ((0 : Int) < m) = true := decide_eq_true (by omega)
          obtain ⟨k, rfl⟩ : ∃ k', k = k' + 1 := ⟨k - 1, by omega⟩
          have HE2 : Hid ((out ++ [m % 10]) ++ tailN k (m / 10) = res) := by
            show _ = _
            rw [← HE.out, tailN, if_neg h0, List.append_assoc]
            rfl
          clear HE
          have hu0 := HFr.out
          have hsz := HBr.out.size
          have hsz' : B ≤ wr.heap.size := Nat.le_trans hB hsz
          go_wp2_with (at_builtin; refine wpList_append_own _ rfl _ _ 33 rfl B 5 i0 (.int .u8 0) 1 1 Tryd.underlying33 hi0 hz0 hz1 hz2 rfl (by decide) _ _ _ rfl (hu0.alloc _) ⟨wr.heap.size, 0, none⟩ 1 1 [.int .u8 ((m : Int) % 10)] rfl rfl ?c1 ?c2 ?c3 ?c4 ?c5 ?_)
          case c1 =>
            intro j u hj
            match j, hj with
            | 0, hj => simp at hj; subst hj; simp [Addr.add]
          case c2 => intro u hu; simp at hu; subst hu; rfl
          case c3 => unfold maxLen; omega
          case c4 => omega
          case c5 => simp; omega
          intro v' w2 hown' hgrow _
          have HF3 : Hid (Figs w2 B v' (out ++ [m % 10])) := by
            have e : nums out ++ [Value.int .u8 ((m : Int) % 10)] = nums (out ++ [m % 10]) := by
              rw [nums_append]
              unfold nums
              rw [List.map_singleton, Int.natCast_emod]
              rfl
            show w2.ownsRow B 5 1 v' (out ++ [m % 10]).length (nums (out ++ [m % 10]))
            rw [← e, List.length_append]
            exact hown'
          have HB3 := Lib.hid ((HBr.out.alloc hsz' _).grown hgrow (by simp; omega) (fun k hk => (hu0.lt k hk).1))
          clear hown' hgrow hu0
          go_wp2
          exact ⟨⟨k, m / 10, out ++ [m % 10], by rw [Int.natCast_ediv]; rfl, by omega, by rw [List.length_append, List.length_singleton]; omega, HF3.out, HB3.out, HE2.out⟩, by simp [intOf]; omega⟩

/-- A number as it is written, of its figures, the last one first. -/
def writtenL (l : List Nat) : List UInt8 := l.reverse.map fun d => UInt8.ofNat (48 + d)
def writtenB (l : List Nat) : ByteArray := if l.length = 0 then ⟨#[48]⟩ else ⟨(writtenL l).toArray⟩

set_option maxHeartbeats 2000000 in
set_option maxRecDepth 100000 in
theorem written_any (B : Nat) (v : Value) (l : List Nat) (w : World) (h : Figs w B v l) (hl : ∀ d ∈ l, d < 10) (hn : l.length ≤ 10000) :
    Calls Tryd.prog 34 #[v] w fun e w' => e = .returned (.string (writtenB l)) ∧ Below w.heap.size w w' := by
  by_cases h0 : l.length = 0
  · have hw : writtenB l = ⟨#[48]⟩ := by unfold writtenB; rw [if_pos h0]
    rw [hw]
    obtain ⟨a, cap, rfl⟩ := h.form
    rw [h0]
    go_enter Tryd.func34, Tryd.ntmps34
    go_wp2
    go_ret
    exact ⟨rfl, Below.refl _ w⟩
  · have hw : writtenB l = ⟨(writtenL l).toArray⟩ := by unfold writtenB; rw [if_neg h0]
    rw [hw]
    have HF := Lib.hid h
    have HL := Lib.hid hl
    obtain ⟨a, cap, rfl⟩ := h.form
    clear h hl hw
    have g0 : ((l.length : Int) == 0) = false := beq_eq_false_iff_ne.2 (by omega)
    go_enter Tryd.func34, Tryd.ntmps34
    go_wp2
    have HL0 : Hid (Bld w.heap.size w.heap.size (Lib.byteCells []) (w.alloc (.cells #[.pointer none, .slice none 0 0] 46))) := Lib.fresh_isBuilder 46 5 w
    have HB0 := Lib.hid ((Below.refl w.heap.size w).alloc (Nat.le_refl _) (.cells #[.pointer none, .slice none 0 0] 46))
    go_loopw [10] (fun iv wr => ∃ (i : Nat), iv = .int .i64 i ∧ i ≤ l.length ∧ Hid (Bld w.heap.size w.heap.size (Lib.byteCells ((writtenL l).take i)) wr) ∧ Hid (Below w.heap.size w wr)) (fun iv _ => l.length - (intOf iv).toNat)
    case atStart => exact ⟨0, rfl, Nat.zero_le _, HL0, HB0⟩
    case round =>
      clear HL0 HB0
      obtain ⟨i, rfl, hi, HLr, HBr⟩ := hrel
      by_cases hlt : i < l.length
      · have gi : decide (i < l.length) = true := decide_eq_true hlt
        obtain ⟨j, hj⟩ : ∃ j, l.length = j + i + 1 := ⟨l.length - 1 - i, by omega⟩
        have hjl : j < l.length := by omega
        obtain ⟨f, hf⟩ : ∃ f, l[j]? = some f := ⟨l[j], List.getElem?_eq_getElem hjl⟩
        have hf10 := HL.out f (List.mem_of_getElem? hf)
        obtain ⟨g, cap', hv, hBg, hg, c0, -, -⟩ := (HF.out.below HBr.out).at j f hf
        obtain ⟨rfl, rfl⟩ : a = some ⟨g, 0, none⟩ ∧ cap = cap' := by injection hv with e1 _ e2; exact ⟨e1, e2⟩
        have hwi : (writtenL l)[i]? = some (UInt8.ofNat (48 + f)) := by
          unfold writtenL
          rw [List.getElem?_map, List.getElem?_reverse hlt, show l.length - 1 - i = j by omega, hf]
          rfl
        have htk : (writtenL l).take (i + 1) = (writtenL l).take i ++ [UInt8.ofNat (48 + f)] := by
          obtain ⟨hlt2, he⟩ := List.getElem?_eq_some_iff.1 hwi
          rw [List.take_succ_eq_append_getElem hlt2, he]
        have hln : (Lib.byteCells ((writtenL l).take i)).length ≤ 10000 := by
          rw [Lib.byteCells_length, List.length_take]
          omega
        have ejI : ((l.length : Int) - 1 - i) = (j : Int) := by omega
        have HTK := Lib.hid htk
        have HLn := Lib.hid hln
        have hj2 : (j : Int) < l.length := by omega
        clear hf hv hwi htk hln hj
        go_wp2_with fail
        refine (wbyte_any w.heap.size w.heap.size (Lib.byteCells ((writtenL l).take i)) (48 + (f : Int)) wr HLr.out (by have := HLn.out; omega) HBr.out.size).mono ?_
        rintro e w3 ⟨rfl, hbl3, hb3⟩
        have HL3 : Hid (Bld w.heap.size w.heap.size (Lib.byteCells ((writtenL l).take (i + 1))) w3) := by
          have e : Lib.byteCells ((writtenL l).take i) ++ [Value.int .u8 (48 + (f : Int))] = Lib.byteCells ((writtenL l).take (i + 1)) := by
            rw [HTK.out]
            unfold Lib.byteCells
            rw [List.map_append, List.map_singleton]
            congr 3
            simp
            omega
          rw [← e]
          exact hbl3
        have HB3 := Lib.hid (HBr.out.trans hb3)
        clear hbl3 hb3 ejI
        go_wp2
        go_roundw
        case rel => exact ⟨i + 1, by go_num, hlt, HL3.out, HB3.out⟩
        case measure => simp [intOf]; omega
      · have gi : decide (i < l.length) = false := decide_eq_false hlt
        have e : (writtenL l).take i = writtenL l := List.take_of_length_le (by unfold writtenL; rw [List.length_map, List.length_reverse]; omega)
        have HL2 : Hid (Bld w.heap.size w.heap.size (Lib.byteCells (writtenL l)) wr) := by
          have := HLr.out
          rw [e] at this
          exact this
        clear HLr e
        go_wp2_with fail
        refine (Tryd.Builder_String_any w.heap.size w.heap.size (writtenL l) wr HL2.out HBr.out.size).mono ?_
        rintro e w4 ⟨rfl, hb4⟩
        have HB4 := Lib.hid (HBr.out.trans hb4)
        clear hb4
        go_wp2
        go_ret
        exact ⟨rfl, HB4.out⟩
end Go.Proofs.YtijinpnbhnfiiaaDoor
