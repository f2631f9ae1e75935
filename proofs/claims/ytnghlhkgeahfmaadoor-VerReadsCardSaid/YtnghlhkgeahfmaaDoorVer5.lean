/- package ver: whether a text is a path. -/
import Derived.Test.YtnghlhkgeahfmaaDoorVer4
namespace Go.Proofs.YtnghlhkgeahfmaaDoor
open Go.RowKit
set_option linter.unusedVariables false

/-- The library's number is there. -/
def MaxLen (w : World) : Prop := ∃ m, w.cell? ⟨0, 0, none⟩ = some (.int .i64 m)
theorem MaxLen.below {w w' : World} (h : MaxLen w) (hb : Below w.heap.size w w') : MaxLen w' := by
  obtain ⟨m, h⟩ := h
  have hlt : 0 < w.heap.size := by
    rcases Nat.lt_or_ge 0 w.heap.size with h' | h'
    · exact h'
    · simp [World.cell?, Array.getElem?_eq_none h'] at h
  exact ⟨m, (hb.cell (p := ⟨0, 0, none⟩) hlt).trans h⟩

theorem parts_len (x : UInt8) : ∀ (l cur : List UInt8), ∀ p ∈ partsF x cur l, p.length ≤ cur.length + l.length
  | [], cur, p, hp => by simp [partsF] at hp; subst hp; simp
  | c :: t, cur, p, hp => by
    rw [partsF] at hp
    split at hp
    · rcases List.mem_cons.1 hp with rfl | hp
      · omega
      · have := parts_len x t [] p hp
        simp at this ⊢; omega
    · have := parts_len x t _ p hp
      simp at this ⊢; omega

theorem nameL_row (s : ByteArray) : nameL (ls s) = (!s.toList.isEmpty && !decide (rowN pathN s < s.size)) := by
  unfold nameL
  rw [empty_ls]
  congr 1
  have h1 := rowN_le pathN s
  have h2 := rowN_all pathN s
  rw [Bool.eq_iff_iff, ← h2, Bool.not_eq_true', decide_eq_false_iff_not]
  omega

theorem inPath_enters : ∀ args W, (callFunc 27 args).run Tryd.prog W = .ok (.enter 27 args) W := fun args W => by kernel_rfl
theorem row_path (s : ByteArray) (w : World) (hs : s.size ≤ 4294967296) : Calls Tryd.prog 21 #[.string s, .func (.func 27) #[] #[]] w fun e w' => e = .returned (.int .i64 (rowN pathN s)) ∧ Below w.heap.size w w' :=
  row_any _ pathN pathN_big inPath_enters s w hs (inPath_pred w)

theorem getD_int (i : Nat) (l : List ByteArray) (v : ByteArray) (h : l[i]? = some v) (w : World) (t : TypeId) : (w.alloc (.cells (l.map Value.string).toArray t)).cell? ⟨w.heap.size, i, none⟩ = some (.string v) := by
  rw [World.cell?_alloc_new]
  simp [h]

set_option maxRecDepth 100000 in
theorem path_any (s : ByteArray) (hs : s.size ≤ 1000000) (w : World) (hm : MaxLen w) : Calls Tryd.prog 12 #[.string s] w fun e w' => e = .returned (.bool (pathL (ls s))) ∧ Below w.heap.size w w' := by
  by_cases h2 : 200 < s.size
  · have HE : Hid (pathL (ls s) = false) := by show _ = _; unfold pathL; rw [ls_len, decide_eq_false (by omega)]; rfl
    have g1 : decide ((200 : Int) < (s.size : Int)) = true := by simp; omega
    clear h2 hs hm
    go_enter Tryd.func12, Tryd.ntmps12
    go_wp2
    go_ret
    rw [HE.out]
    exact ⟨rfl, Below.refl _ _⟩
  · obtain ⟨m, hm⟩ := hm
    have hsp := Go.Proofs.Tryd.strings_Split s ⟨#[47]⟩ m w (by omega) hm (by decide)
    obtain ⟨L, hL⟩ : ∃ L, Lib.splitB ⟨#[47]⟩ 0 (Lib.countB s ⟨#[47]⟩) s = L := ⟨_, rfl⟩
    have hLl : L.length = Lib.countB s ⟨#[47]⟩ + 1 := by rw [← hL]; exact Lib.splitB_all _ (by decide) 0 _ s rfl
    have hLp : L.map ls = partsF 47 [] (ls s) := by rw [← hL]; exact split_parts 47 _ s rfl
    have hLs : ∀ t ∈ L, t.size ≤ 1000000 := fun t ht => by
      have := parts_len 47 (ls s) [] (ls t) (by rw [← hLp]; exact List.mem_map_of_mem ht)
      rw [ls_len, ls_len] at this
      simp at this
      omega
    have HE : Hid (pathL (ls s) = L.all (fun t => nameL (ls t))) := by
      show _ = _
      unfold pathL
      rw [ls_len, decide_eq_true (by omega), ← hLp, List.all_map]
      rfl
    rw [hL, ← hLl] at hsp
    have HLS := Lib.hid hLs
    have HLL : Hid (L.length ≤ 1000001) := by
      have := Lib.countB_le ⟨#[47]⟩ (by decide) s.size s (Nat.le_refl _)
      show _ ≤ _
      omega
    have g1 : decide ((200 : Int) < (s.size : Int)) = false := by simp; omega
    have hcell := fun i v (h : L[i]? = some v) => getD_int i L v h w 9
    have HB0 := Lib.hid ((Below.refl w.heap.size w).alloc (Nat.le_refl _) (.cells (L.map Value.string).toArray 9))
    have hsz : (w.alloc (.cells (L.map Value.string).toArray 9)).heap.size = w.heap.size + 1 := by simp
    generalize w.alloc (.cells (L.map Value.string).toArray 9) = W0 at *
    clear hLs h2 hs hm hL hLp hLl
    have h63 : (L.length : Int) ≤ 1000001 := by have := HLL.out; omega
    go_enter Tryd.func12, Tryd.ntmps12
    go_wp2_with ((with_reducible refine hsp.mono ?_); rintro e w' ⟨rfl, hw⟩; rw [hw]; clear hw)
    go_loopw [4, 11] (fun _ v11 wr => ∃ i : Nat, v11 = .int .i64 i ∧ i ≤ L.length ∧ Below W0.heap.size W0 wr ∧ Hid (∀ j t, j < i → L[j]? = some t → nameL (ls t) = true)) (fun _ v11 _ => L.length - (match v11 with | .int _ i => i.toNat | _ => 0))
    case atStart => exact ⟨0, rfl, Nat.zero_le _, Below.refl _ _, fun j t h => by omega⟩
    case round =>
      obtain ⟨i, rfl, hi, hb, HJ⟩ := hrel
      have hle : Below w.heap.size w wr := HB0.out.trans (hb.mono HB0.out.size)
      by_cases hlt : i < L.length
      · obtain ⟨t, ht⟩ : ∃ t, L[i]? = some t := ⟨L[i], List.getElem?_eq_getElem hlt⟩
        have hc : wr.cell? ⟨w.heap.size, i, none⟩ = some (.string t) := (hb.cell (p := ⟨w.heap.size, i, none⟩) (by show w.heap.size < _; omega)).trans (hcell i t ht)
        have hrow := row_path t wr (by have := HLS.out t (List.mem_of_getElem? ht); omega)
        have HN := Lib.hid (nameL_row t)
        have HHL := Lib.hid hle
        have HHB := Lib.hid hb
        have HW0 := Lib.hid hsz
        have HT := Lib.hid ht
        have f1 : (i : Int) < (L.length : Int) := by omega
        have f0 : (0 : Int) ≤ (i : Int) := by omega
        have f2 : (i : Int) ≤ 1000000 := by omega
        have HI := Lib.hid hi
        clear hle hb hcell hsz hi ht
        have hno : nameL (ls t) = false → pathL (ls s) = false := fun h => by
          rw [HE.out, List.all_eq_false]
          exact ⟨t, List.mem_of_getElem? HT.out, by rw [h]; simp⟩
        have HNO := Lib.hid hno
        clear hno
        cases h0 : t.toList.isEmpty
        · cases h1 : decide (rowN pathN t < t.size)
          · go_wp2_with ((with_reducible refine hrow.mono ?_); rintro e w2 ⟨rfl, hb⟩; have HB2 := Lib.hid hb)
            go_roundw
            case rel =>
              refine ⟨i + 1, rfl, by omega, HHB.out.trans (HB2.out.mono HHB.out.size), ?_⟩
              intro j u hj hu
              rcases Nat.lt_or_ge j i with h | h
              · exact HJ.out j u h hu
              · obtain rfl : j = i := by omega
                rw [HT.out] at hu
                injection hu with hu
                subst hu
                rw [HN.out, h0, h1]; rfl
            case measure => simp; omega
          · go_wp2_with ((with_reducible refine hrow.mono ?_); rintro e w2 ⟨rfl, hb⟩; have HB2 := Lib.hid hb)
            refine bodyPost_ret (results_tmp rfl _ _ _) rfl ?_
            rw [HNO.out (by rw [HN.out, h0, h1]; rfl)]
            exact ⟨rfl, HHL.out.trans (HB2.out.mono HHL.out.size)⟩
        · go_wp2_with fail
          refine bodyPost_ret (results_tmp rfl _ _ _) rfl ?_
          rw [HNO.out (by rw [HN.out, h0]; rfl)]
          exact ⟨rfl, HHL.out⟩
      · have f1 : ¬ ((i : Int) < (L.length : Int)) := by omega
        have HI := Lib.hid hi
        have HHL := Lib.hid hle
        have HNL := Lib.hid hlt
        clear hi hle hb hlt hcell
        go_wp2_with fail
        go_ret
        rw [HE.out, List.all_eq_true.2]
        · exact ⟨rfl, HHL.out⟩
        · intro t ht
          obtain ⟨j, hj⟩ := List.mem_iff_getElem?.1 ht
          exact HJ.out j t (by have := (List.getElem?_eq_some_iff.1 hj).1; have := HNL.out; omega) hj
end Go.Proofs.YtnghlhkgeahfmaaDoor
