/- place.Of tells the line and the column at which the plain walk over the signs stands; zeros, if there is no such byte. -/
import Derived.Test.YthohljlfbakkhaaDoorSigns
import Derived.Test.YthohljlfbakkhaaDoorMore
import Derived.Lib.SlBytesRow
namespace Go.Proofs.YthohljlfbakkhaaDoor
open Go.RowKit

/-- The bytes s stand at a in w. -/
def Text (w : World) (a : Option Addr) (s : ByteArray) : Prop := s.size = 0 ∨ ∃ b o, a = some ⟨b, o, none⟩ ∧ b < w.heap.size ∧ Lib.Bytes w b o s

theorem Text.below {w W : World} {a : Option Addr} {s : ByteArray} (h : Text w a s) (hb : Below w.heap.size w W) : Text W a s := by
  rcases h with h | ⟨b, o, rfl, hlt, h⟩
  · exact .inl h
  · exact .inr ⟨b, o, rfl, Nat.lt_of_lt_of_le hlt hb.size, fun i hi => (hb.cell (p := ⟨b, o + i, none⟩) hlt).trans (h i hi)⟩

theorem Text.conv {w : World} {a : Option Addr} {s : ByteArray} (h : Text w a s) (cap : Nat) : (convert 22 9 (.slice a s.size cap)).run Tryd.prog w = .ok (.string s) w := by
  rcases h with h | ⟨b, o, rfl, hlt, h⟩
  · have he : s = ByteArray.empty := by apply ByteArray.ext; apply Array.eq_empty_of_size_eq_zero; exact h
    subst he
    cases a with
    | none => exact run_convert_bytes_nil w 22 5 Tryd.underlying22 Tryd.underlying5 _ _ 9 Tryd.underlying9
    | some x =>
      have hl : (loadCells x 0).run Tryd.prog w = .ok (([] : List Int).map (Value.int .u8)).toArray w := run_loadCells_list (P := Tryd.prog) w x [] (fun j v hj => by simp at hj)
      rw [run_convert_bytes_string w 22 9 5 _ _ cap Tryd.underlying22 Tryd.underlying5 Tryd.underlying9]
      exact run_bytesToString w x 0 cap [] hl
  · exact Lib.run_convert_whole w 22 5 9 Tryd.underlying22 Tryd.underlying5 Tryd.underlying9 b o s h cap

/-- Of's closure: at stands in block ba, found in bf. -/
def ofClo (at' : Int) : Clo (Nat × Nat) where
  go _ p _ _ _ := decide ((p : Int) < at')
  next x p _ l c := if at' ≤ (p : Int) then (l, c) else x

theorem ofClo_run (s : ByteArray) (at' : Int) (h0 : 0 ≤ at') : ∀ f x p l c, s.size ≤ p + f → p ≤ s.size → (ofClo at').run s f x p l c = if at' ≤ (s.size : Int) then (seek s at'.toNat f p l c).2 else x
  | 0, x, p, l, c, hf, hp => by
    have : p = s.size := by omega
    subst this
    rfl
  | f + 1, x, p, l, c, hf, hp => by
    rw [Clo.run]
    by_cases h : p < s.size
    · rw [if_pos h]
      have hw := wid_pos s p
      have hl := wid_le s p h
      by_cases hlt : (p : Int) < at'
      · rw [if_pos (show (ofClo at').go x p (sig s p) l c = true by simpa [ofClo] using hlt), ofClo_run s at' h0 f _ _ _ _ (by omega) hl, seek, if_pos (show p < s.size ∧ p < at'.toNat from ⟨h, by omega⟩)]
        have hn : ¬ at' ≤ (p : Int) := by omega
        simp [ofClo, hn]
      · have hn : at' ≤ (p : Int) := by omega
        rw [if_neg (show ¬ (ofClo at').go x p (sig s p) l c = true by simpa [ofClo] using hn), seek, if_neg (show ¬ (p < s.size ∧ p < at'.toNat) by omega), if_pos (show at' ≤ (s.size : Int) by omega)]
        simp [ofClo, hn]
    · rw [if_neg h, seek, if_neg (show ¬ (p < s.size ∧ p < at'.toNat) by omega)]
      have : p = s.size := by omega
      subst this
      rfl

def OfGood (ba bf : Nat) (at' : Int) (x : Nat × Nat) (w : World) : Prop :=
  w.heap[ba]? = some (.cells #[.int .i64 at'] 3 (0, 0)) ∧ w.heap[bf]? = some (.cells #[.int .i64 (x.1 : Int), .int .i64 (x.2 : Int)] 28 (0, 0))

theorem ofClo_any (ba bf : Nat) (at' : Int) (hne : ba ≠ bf) (x : Nat × Nat) (p : Nat) (r : Int) (l c : Nat) (w : World) (hG : OfGood ba bf at' x w) :
    Calls Tryd.prog 19 #[.int .i64 p, .int .i32 r, .agg #[.int .i64 l, .int .i64 c], .pointer (some ⟨ba, 0, none⟩), .pointer (some ⟨bf, 0, none⟩)] w
      fun e w' => e = .returned (.bool ((ofClo at').go x p r l c)) ∧ OfGood ba bf at' ((ofClo at').next x p r l c) w' ∧ But bf w w' := by
  obtain ⟨ha, hf⟩ := hG
  have ca := cell_of_one ha
  have hla := lt_of_block ha
  have hlf := lt_of_block hf
  obtain ⟨c0, c1, z0, z1⟩ := two_cells hf
  by_cases hle : at' ≤ (p : Int)
  · have hd : decide ((p : Int) < at') = false := by simp; omega
    have hne' : bf ≠ ba := fun h => hne h.symm
    have ha2 : (w.setCell ⟨bf, 0, none⟩ (.int .i64 l)).cell? ⟨ba, 0, none⟩ = some (.int .i64 at') := by rw [World.cell?_setCell_other _ _ _ _ (by intro h; exact hne' (congrArg Addr.block h))]; exact ca
    go_enter Tryd.func19, Tryd.ntmps19
    go_wp2
    go_ret
    refine ⟨by simp [ofClo, hd], ⟨?_, ?_⟩, (((But.refl bf w).setCell (.inr rfl) _).setCell (.inr rfl) _).alloc _⟩
    · rw [Below.heap_alloc _ _ _ (by simpa [World.setCell] using hla), Below.heap_setCell _ _ _ _ (by exact hne), Below.heap_setCell _ _ _ _ (by exact hne)]; exact ha
    · rw [Below.heap_alloc _ _ _ (by simpa [World.setCell] using hlf), two_set1 (two_set0 hf)]; simp [ofClo, hle]
  · have hd : decide ((p : Int) < at') = true := by simp; omega
    go_enter Tryd.func19, Tryd.ntmps19
    go_wp2
    go_ret
    refine ⟨by simp [ofClo, hd], ⟨?_, ?_⟩, (But.refl bf w).alloc _⟩
    · rw [Below.heap_alloc _ _ _ hla]; exact ha
    · rw [Below.heap_alloc _ _ _ hlf, hf]; simp [ofClo, show ¬ at' ≤ (p : Int) by omega]

theorem fits19 : ∀ args W, (callFunc 19 args).run Tryd.prog W = .ok (.enter 19 args) W := fun _ _ => by kernel_rfl

theorem signs_of (s : ByteArray) (a : Option Addr) (cap : Nat) (at' : Int) (ba bf : Nat) (w : World) (hs : s.size ≤ 1000000) (ht : Text w a s) (h0 : 0 ≤ at') (hne : ba ≠ bf) (hG : OfGood ba bf at' (0, 0) w) :
    Calls Tryd.prog 9 #[.slice a s.size cap, .func (.func 19) #[] #[.pointer (some ⟨ba, 0, none⟩), .pointer (some ⟨bf, 0, none⟩)]] w
      fun e w' => e = .returned (.tuple #[]) ∧ OfGood ba bf at' (ofL s at', ofC s at') w' ∧ But bf w w' := by
  have hba := lt_of_block hG.1
  have hbf := lt_of_block hG.2
  refine (signs_any (ofClo at') (0, 0) 19 _ _ bf (OfGood ba bf at') s a cap w hs hbf (fun W hW => (ht.below hW).conv cap) (fun x W W' hx _ hk => ⟨(hk _ hba).trans hx.1, (hk _ hbf).trans hx.2⟩) hG fits19
    (fun x p r l c W hx _ _ _ => ofClo_any ba bf at' hne x p r l c W hx)).mono ?_
  rintro e w' ⟨rfl, h, hb⟩
  refine ⟨rfl, ?_, hb⟩
  rw [ofClo_run s at' h0 s.size (0, 0) 0 1 1 (by omega) (Nat.zero_le _)] at h
  unfold ofL ofC
  by_cases hle : at' ≤ (s.size : Int)
  · rw [if_pos hle] at h
    rw [if_neg (by omega), if_neg (by omega)]
    exact h
  · rw [if_neg hle] at h
    rw [if_pos (by omega), if_pos (by omega)]
    exact h

theorem of_any (s : ByteArray) (a : Option Addr) (cap : Nat) (at' : Int) (w : World) (hs : s.size ≤ 1000000) (ht : Text w a s) :
    Calls Tryd.prog 14 #[.slice a s.size cap, .int .i64 at'] w
      fun e w' => e = .returned (.agg #[.int .i64 (ofL s at'), .int .i64 (ofC s at')]) ∧ Below w.heap.size w w' := by
  by_cases h0 : at' < 0
  · have e1 : ofL s at' = 0 := by unfold ofL; rw [if_pos (.inl h0)]
    have e2 : ofC s at' = 0 := by unfold ofC; rw [if_pos (.inl h0)]
    rw [e1, e2]
    clear ht e1 e2
    go_enter Tryd.func14, Tryd.ntmps14
    go_wp2
    refine bodyPost_ret (v := .agg #[.int .i64 0, .int .i64 0]) (by simp [results, Tryd.results14, go_sem]) rfl ⟨rfl, ?_⟩
    exact (((Below.refl _ w).alloc (Nat.le_refl _) _).alloc (by simp) _).alloc (by simp; omega) _
  · have hW : Below w.heap.size w (((w.alloc (.cells #[.int .i64 at'] 3)).alloc (.cells #[.int .i64 0, .int .i64 0] 28)).alloc (.cells #[.int .i64 0, .int .i64 0] 28)) := (((Below.refl _ w).alloc (Nat.le_refl _) _).alloc (by simp) _).alloc (by simp; omega) _
    have q1 : (((w.alloc (.cells #[.int .i64 at'] 3)).alloc (.cells #[.int .i64 0, .int .i64 0] 28)).alloc (.cells #[.int .i64 0, .int .i64 0] 28)).heap[w.heap.size]? = some (.cells #[.int .i64 at'] 3 (0, 0)) := by
      rw [Below.heap_alloc _ _ _ (by simp; omega), Below.heap_alloc _ _ _ (by simp)]; exact heap_alloc_new _ _
    have q2 : (((w.alloc (.cells #[.int .i64 at'] 3)).alloc (.cells #[.int .i64 0, .int .i64 0] 28)).alloc (.cells #[.int .i64 0, .int .i64 0] 28)).heap[w.heap.size + 1]? = some (.cells #[.int .i64 0, .int .i64 0] 28 (0, 0)) := by
      rw [Below.heap_alloc _ _ _ (by simp)]
      have h := heap_alloc_new (w.alloc (.cells #[.int .i64 at'] 3)) (.cells #[.int .i64 0, .int .i64 0] 28)
      rw [World.size_alloc] at h; exact h
    have q3 : (((w.alloc (.cells #[.int .i64 at'] 3)).alloc (.cells #[.int .i64 0, .int .i64 0] 28)).alloc (.cells #[.int .i64 0, .int .i64 0] 28)).heap[w.heap.size + 1 + 1]? = some (.cells #[.int .i64 0, .int .i64 0] 28 (0, 0)) := by
      have h := heap_alloc_new ((w.alloc (.cells #[.int .i64 at'] 3)).alloc (.cells #[.int .i64 0, .int .i64 0] 28)) (.cells #[.int .i64 0, .int .i64 0] 28)
      rw [World.size_alloc, World.size_alloc] at h; exact h
    have hsz : w.heap.size + 1 + 1 < (((w.alloc (.cells #[.int .i64 at'] 3)).alloc (.cells #[.int .i64 0, .int .i64 0] 28)).alloc (.cells #[.int .i64 0, .int .i64 0] 28)).heap.size := by simp
    have K := signs_of s a cap at' w.heap.size (w.heap.size + 1 + 1) _ hs ((ht.below hW)) (by omega) (by omega) ⟨q1, q3⟩
    have HK := Lib.hid K
    have HW := Lib.hid hW
    have Hq := Lib.hid q2
    have Hs := Lib.hid hsz
    clear K ht hW q1 q2 q3 hsz
    go_enter Tryd.func14, Tryd.ntmps14
    go_wp2_with ((with_reducible refine HK.out.mono ?_); rintro e w' ⟨rfl, hG, hb⟩; have hB1 := (hb.block (w.heap.size + 1) (by have := Hs.out; omega) (by omega)).trans Hq.out; obtain ⟨d0, d1, z0, z1⟩ := two_cells hB1; obtain ⟨c0, c1, _, _⟩ := two_cells hG.2)
    have e1 := two_set1 (u := .int .i64 (ofC s at')) (two_set0 (u := .int .i64 (ofL s at')) hB1)
    obtain ⟨e2, e3, _, _⟩ := two_cells e1
    refine bodyPost_ret (v := .agg #[.int .i64 (ofL s at'), .int .i64 (ofC s at')]) (by simp [results, Tryd.results14, go_sem, e2, e3]) rfl ⟨rfl, ?_⟩
    exact ((HW.out.trans (hb.below (by omega) (by simp; omega))).setCell (by simp) _).setCell (by simp) _
end Go.Proofs.YthohljlfbakkhaaDoor
