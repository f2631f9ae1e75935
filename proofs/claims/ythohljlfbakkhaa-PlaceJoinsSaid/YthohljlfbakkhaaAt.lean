/- place.At tells the first byte at which the plain walk stands at a place; place.Lines how many bytes 10 there are, and 1. -/
import Derived.Test.YthohljlfbakkhaaOf
import Derived.Shelf.Bytes.SlCountOne
namespace Go.Proofs.Ythohljlfbakkhaa
open Go.RowKit

def atClo (pl pc : Int) : Clo Int where
  go x p _ l c := decide ((if (l : Int) = pl ∧ (c : Int) = pc then (p : Int) else x) < 0)
  next x p _ l c := if (l : Int) = pl ∧ (c : Int) = pc then (p : Int) else x

theorem atClo_run (s : ByteArray) (pl pc : Int) : ∀ f p l c, s.size ≤ p + f → p ≤ s.size → (atClo pl pc).run s f (-1) p l c = meet s pl pc f p l c
  | 0, p, l, c, hf, hp => by
    rw [Clo.run, meet]
    simp only [atClo]
  | f + 1, p, l, c, hf, hp => by
    rw [Clo.run, meet]
    by_cases h : (l : Int) = pl ∧ (c : Int) = pc
    · by_cases hs : p < s.size
      · rw [if_pos hs, if_neg (by simp only [atClo, if_pos h]; simp), if_pos h]
        simp only [atClo, if_pos h]
      · rw [if_neg hs, if_pos h]
        have : p = s.size := by omega
        subst this
        simp only [atClo, if_pos h]
    · by_cases hs : p < s.size
      · have hw := wid_pos s p
        rw [if_pos hs, if_pos (by simp only [atClo, if_neg h]; simp), if_neg h, if_pos hs]
        have e : (atClo pl pc).next (-1) p (sig s p) l c = -1 := by simp only [atClo, if_neg h]
        rw [e]
        exact atClo_run s pl pc f _ _ _ (by omega) (wid_le s p hs)
      · rw [if_neg hs, if_neg h, if_neg hs]
        simp only [atClo, if_neg h]

def AtGood (ba bf : Nat) (pl pc : Int) (x : Int) (w : World) : Prop :=
  w.heap[ba]? = some (.cells #[.int .i64 pl, .int .i64 pc] 26 (0, 0)) ∧ w.heap[bf]? = some (.cells #[.int .i64 x] 3 (0, 0))

theorem But.one {b : Nat} {u w : World} (h : But b u w) (v : Value) : But b u (w.setCell ⟨b, 0, none⟩ v) := h.setCell (.inr rfl) v

theorem atClo_any (ba bf : Nat) (pl pc : Int) (hne : ba ≠ bf) (x : Int) (p : Nat) (r : Int) (l c : Nat) (w : World) (hG : AtGood ba bf pl pc x w) :
    Calls Try.prog 16 #[.int .i64 p, .int .i32 r, .agg #[.int .i64 l, .int .i64 c], .pointer (some ⟨ba, 0, none⟩), .pointer (some ⟨bf, 0, none⟩)] w
      fun e w' => e = .returned (.bool ((atClo pl pc).go x p r l c)) ∧ AtGood ba bf pl pc ((atClo pl pc).next x p r l c) w' ∧ But bf w w' := by
  obtain ⟨ha, hf⟩ := hG
  have cf := cell_of_one hf
  have zf := free_of_one hf
  have hla := lt_of_block ha
  have hlf := lt_of_block hf
  obtain ⟨c0, c1, _, _⟩ := two_cells ha
  by_cases hm : (l : Int) = pl ∧ (c : Int) = pc
  · obtain ⟨rfl, rfl⟩ := hm
    go_enter Try.func16, Try.ntmps16
    go_wp2
    go_ret
    refine ⟨by simp [atClo], ⟨?_, ?_⟩, ((But.refl bf w).one _).alloc _⟩
    · rw [Below.heap_alloc _ _ _ (by simpa [World.setCell] using hla), Below.heap_setCell _ _ _ _ (by exact hne)]; exact ha
    · rw [Below.heap_alloc _ _ _ (by simpa [World.setCell] using hlf), one_setCell hf]; simp [atClo]
  · go_enter Try.func16, Try.ntmps16
    go_wp2
    all_goals
      go_ret
      have e0 : (atClo pl pc).next x p r l c = x := by unfold atClo; exact if_neg hm
      have e1 : (atClo pl pc).go x p r l c = decide (x < 0) := by unfold atClo; simp only [if_neg hm]
      refine ⟨by rw [e1]; rfl, ⟨?_, ?_⟩, (But.refl bf w).alloc _⟩
      · rw [Below.heap_alloc _ _ _ hla]; exact ha
      · rw [Below.heap_alloc _ _ _ hlf, e0]; exact hf

theorem signs_at (s : ByteArray) (a : Option Addr) (cap : Nat) (pl pc : Int) (ba bf : Nat) (w : World) (hs : s.size ≤ 1000000) (ht : Text w a s) (hne : ba ≠ bf) (hG : AtGood ba bf pl pc (-1) w) :
    Calls Try.prog 14 #[.slice a s.size cap, .func (.func 16) #[] #[.pointer (some ⟨ba, 0, none⟩), .pointer (some ⟨bf, 0, none⟩)]] w
      fun e w' => e = .returned (.tuple #[]) ∧ AtGood ba bf pl pc (atR s pl pc) w' ∧ But bf w w' := by
  have hba := lt_of_block hG.1
  have hbf := lt_of_block hG.2
  refine (signs_any (atClo pl pc) (-1) 16 _ _ bf (AtGood ba bf pl pc) s a cap w hs hbf (fun W hW => (ht.below hW).conv cap) (fun x W W' hx _ hk => ⟨(hk _ hba).trans hx.1, (hk _ hbf).trans hx.2⟩) hG fits16
    (fun x p r l c W hx _ _ => atClo_any ba bf pl pc hne x p r l c W hx)).mono ?_
  rintro e w' ⟨rfl, h, hb⟩
  refine ⟨rfl, ?_, hb⟩
  rw [atClo_run s pl pc s.size 0 1 1 (by omega) (Nat.zero_le _)] at h
  exact h

theorem at_any (s : ByteArray) (a : Option Addr) (cap : Nat) (pl pc : Int) (w : World) (hs : s.size ≤ 1000000) (ht : Text w a s) :
    Calls Try.prog 11 #[.slice a s.size cap, .agg #[.int .i64 pl, .int .i64 pc]] w
      fun e w' => e = .returned (.int .i64 (atR s pl pc)) ∧ Below w.heap.size w w' := by
  have hW : Below w.heap.size w ((w.alloc (.cells #[.int .i64 pl, .int .i64 pc] 26)).alloc (.cells #[.int .i64 (-1)] 3)) := ((Below.refl _ w).alloc (Nat.le_refl _) _).alloc (by simp) _
  have q1 : ((w.alloc (.cells #[.int .i64 pl, .int .i64 pc] 26)).alloc (.cells #[.int .i64 (-1)] 3)).heap[w.heap.size]? = some (.cells #[.int .i64 pl, .int .i64 pc] 26 (0, 0)) := by
    rw [Below.heap_alloc _ _ _ (by simp)]; exact heap_alloc_new _ _
  have q2 : ((w.alloc (.cells #[.int .i64 pl, .int .i64 pc] 26)).alloc (.cells #[.int .i64 (-1)] 3)).heap[w.heap.size + 1]? = some (.cells #[.int .i64 (-1)] 3 (0, 0)) := by
    have h := heap_alloc_new (w.alloc (.cells #[.int .i64 pl, .int .i64 pc] 26)) (.cells #[.int .i64 (-1)] 3)
    rw [World.size_alloc] at h; exact h
  have K := signs_at s a cap pl pc w.heap.size (w.heap.size + 1) _ hs (ht.below hW) (by omega) ⟨q1, q2⟩
  have HK := Lib.hid K
  have HW := Lib.hid hW
  clear K ht hW q1 q2
  go_enter Try.func11, Try.ntmps11
  go_wp2_with ((with_reducible refine HK.out.mono ?_); rintro e w' ⟨rfl, hG, hb⟩; have c0 := cell_of_one hG.2)
  go_ret
  exact ⟨rfl, HW.out.trans (hb.below (by omega) (by simp; omega))⟩

/-! ### Lines -/

theorem bytesOf_back (l : List UInt8) : Lib.bytesOf (l.map fun x => (x.toNat : Int)) = l := by
  unfold Lib.bytesOf
  rw [List.map_map]
  conv => rhs; rw [← List.map_id l]
  apply List.map_congr_left
  intro x _
  simp

theorem Text.count {w : World} {a : Option Addr} {s : ByteArray} (h : Text w a s) (cap : Nat) : (Extern.BytealgCount.count #[.slice a s.size cap, .int .u8 10]).run Try.prog w = .ok (.int .i64 (nl s)) w := by
  rcases h with h | ⟨b, o, rfl, hlt, h⟩
  · have he : s = ByteArray.empty := by apply ByteArray.ext; apply Array.eq_empty_of_size_eq_zero; exact h
    subst he
    cases a with
    | none => exact Lib.run_countNil w _ _ 10
    | some x => exact Lib.run_countAt w x _ _ [] rfl (fun i hi => absurd hi (Nat.not_lt_zero _)) 10
  · have e := Lib.run_countSlice (P := Try.prog) w b o s.size cap (s.data.toList.map fun x => (x.toNat : Int)) (by simp) (fun i hi => by
      rw [h i hi]
      simp [List.getD, hi]
      rfl) 10
    rw [bytesOf_back] at e
    exact e

theorem lines_any (s : ByteArray) (a : Option Addr) (cap : Nat) (w : World) (hs : s.size ≤ 1000000) (ht : Text w a s) :
    Calls Try.prog 13 #[.slice a s.size cap] w
      fun e w' => e = .returned (.int .i64 (nl s + 1 : Nat)) ∧ Below w.heap.size w w' := by
  have hn : nl s ≤ 1000000 := Nat.le_trans (List.count_le_length) (by simpa using hs)
  have hc := (ht.below ((Below.refl _ w).alloc (Nat.le_refl _) (.cells #[.int .u8 10] 5))).count cap
  have hx : (callFunc 19 #[.slice a s.size cap, .int .u8 10]).run Try.prog (w.alloc (.cells #[.int .u8 10] 5)) = .ok (.value (.int .i64 (nl s))) (w.alloc (.cells #[.int .u8 10] 5)) := by
    rw [run_callFunc_extern Try.func19 (by kernel_rfl) (by kernel_rfl) (by kernel_rfl) (e := Extern.BytealgCount.count) (by kernel_rfl), hc]
    rfl
  clear hc ht
  go_enter Try.func13, Try.ntmps13
  go_wp2
  go_ret
  exact ⟨by simp, (Below.refl _ w).alloc (Nat.le_refl _) _⟩
end Go.Proofs.Ythohljlfbakkhaa
