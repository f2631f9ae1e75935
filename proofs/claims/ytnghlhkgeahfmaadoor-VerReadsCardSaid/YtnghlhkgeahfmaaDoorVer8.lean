/- package ver: the rules by their words, in memory; whether a line follows them. -/
import Derived.Test.YtnghlhkgeahfmaaDoorVer7
import Derived.Carry
import Derived.Maps.Keyed
import Derived.ChangeMaps5
import Derived.StringKeys
namespace Go.Proofs.YtnghlhkgeahfmaaDoor
open Go.RowKit Go.Maps Go.ChangeMaps
set_option linter.unusedVariables false

theorem keyedS : Keyed Tryd.prog 9 := string_keyed Tryd.underlying9
theorem keyS {s : ByteArray} (h : s.size ≤ 1000000) : ∃ l, keyOf Tryd.prog 9 (.string s) = some l := ⟨_, Go.WideMaps.keyOf_string_mk Tryd.underlying9 (Nat.le_trans h (by unfold maxLen; decide))⟩

def entryS (x : ByteArray × Value) (born : Nat) : MapEntry := { key := .string x.1, val := x.2, born := born }
def entriesS : Nat → List (ByteArray × Value) → List MapEntry
  | _, [] => []
  | n, x :: l => entryS x n :: entriesS (n + 1) l
theorem entriesS_mem : ∀ n l, ∀ e ∈ entriesS n l, ∃ x ∈ l, e.key = .string x.1 ∧ e.val = x.2
  | _, [], e, h => by cases h
  | n, x :: l, e, h => by
    rcases List.mem_cons.1 h with h | h
    · exact ⟨x, List.mem_cons_self .., by rw [h]; rfl, by rw [h]; rfl⟩
    · obtain ⟨y, hy, h'⟩ := entriesS_mem (n + 1) l e h
      exact ⟨y, List.mem_cons_of_mem _ hy, h'⟩
theorem mem_entriesS : ∀ n l, ∀ x ∈ l, ∃ e ∈ entriesS n l, e.key = .string x.1 ∧ e.val = x.2
  | _, [], x, h => by cases h
  | n, y :: l, x, h => by
    rcases List.mem_cons.1 h with h | h
    · exact ⟨entryS y n, List.mem_cons_self .., by rw [h]; rfl, by rw [h]; rfl⟩
    · obtain ⟨e, he, h'⟩ := mem_entriesS (n + 1) l x h
      exact ⟨e, List.mem_cons_of_mem _ he, h'⟩
theorem entriesS_push : ∀ n l x, entriesS n (l ++ [x]) = entriesS n l ++ [entryS x (n + l.length)]
  | n, [], x => rfl
  | n, y :: l, x => by
    show entryS y n :: entriesS (n + 1) (l ++ [x]) = _
    rw [entriesS_push (n + 1) l x]
    show _ = entryS y n :: (entriesS (n + 1) l ++ _)
    rw [show n + (y :: l).length = n + 1 + l.length by rw [List.length_cons]; omega]

/-- A map of rules in memory. -/
def RulesAt (w : World) (b : Nat) (l : List (ByteArray × Value)) : Prop := w.heap[b]? = some (.map (entriesS 0 l).toArray l.length)

theorem below_set {w : World} {b n0 : Nat} (hb : n0 ≤ b) (o : Obj) : Below n0 w (setBlock w b o) := by
  refine ⟨rfl, rfl, rfl, by simp [setBlock], fun k hk => ?_⟩
  simp only [setBlock]
  rw [Array.getElem?_setIfInBounds, if_neg (by omega)]

theorem rules_put {w : World} {b : Nat} {l : List (ByteArray × Value)} (h : RulesAt w b l) (k : ByteArray) (v : Value) (hl : ∀ y ∈ l, y.1.size ≤ 1000000) (hk : k.size ≤ 1000000) (hn : ∀ y ∈ l, y.1 ≠ k) :
    ∃ W, (Instr.mapUpdate 53 (.map (some b)) (.string k) v).run Tryd.prog w = .ok () W ∧ RulesAt W b (l ++ [(k, v)]) ∧ W.heap.size = w.heap.size ∧ (∀ j, j ≠ b → W.heap[j]? = w.heap[j]?) ∧ ∀ n0, n0 ≤ b → Below n0 w W := by
  obtain ⟨kl, hkey⟩ := keyS hk
  refine ⟨setBlock w b (.map (entriesS 0 (l ++ [(k, v)])).toArray (l ++ [(k, v)]).length), ?_, heap_setBlock_same h _, by simp [setBlock], fun j hj => ?_, fun n0 hb => below_set hb _⟩
  · have hks : ∀ e ∈ (entriesS 0 l), ∃ l, keyOf Tryd.prog 9 e.key = some l := fun e he => by
      obtain ⟨y, hm, hy, _⟩ := entriesS_mem 0 l e he
      rw [hy]
      exact keyS (hl y hm)
    rcases keyedS.find w hkey (entriesS 0 l) hks with ⟨h1, h2⟩ | ⟨j, e0, h1, h2, h3⟩
    · have e : (entriesS 0 (l ++ [(k, v)])).toArray = (entriesS 0 l).toArray.push (entryS (k, v) l.length) := by rw [entriesS_push, Nat.zero_add]; simp
      rw [e]
      simp [Instr.mapUpdate, run_underlying Tryd.underlying53, MapKept.run_getObj_map h, keyedS.check w false hkey, h1, MapKept.run_setObj_map _ h, Result.andThen, setBlock, entryS]
    · exfalso
      obtain ⟨y, hy, hy1, _⟩ := entriesS_mem 0 l e0 (List.mem_of_getElem? h2)
      rw [hy1] at h3
      injection h3 with h3
      exact hn y hy h3
  · simp only [setBlock]
    rw [Array.getElem?_setIfInBounds, if_neg (fun e => hj e.symm)]

theorem rules_some {w : World} {b : Nat} {l : List (ByteArray × Value)} (h : RulesAt w b l) (hl : ∀ y ∈ l, y.1.size ≤ 1000000) (hd : ∀ x ∈ l, ∀ y ∈ l, x.1 = y.1 → x = y) (k : ByteArray) (v : Value) (hm : (k, v) ∈ l) :
    (Instr.lookup 53 (.map (some b)) (.string k) true).run Tryd.prog w = .ok (.tuple #[v, .bool true]) w := by
  obtain ⟨kl, hkey⟩ := keyS (hl _ hm)
  have hks : ∀ e ∈ (entriesS 0 l), ∃ l, keyOf Tryd.prog 9 e.key = some l := fun e he => by
    obtain ⟨y, hm, hy, _⟩ := entriesS_mem 0 l e he
    rw [hy]
    exact keyS (hl y hm)
  rcases keyedS.find w hkey (entriesS 0 l) hks with ⟨h1, h2⟩ | ⟨j, e0, h1, h2, h3⟩
  · exfalso
    obtain ⟨e, he, hk, _⟩ := mem_entriesS 0 l _ hm
    exact h2 e he hk
  · obtain ⟨y, hy, hy1, hy2⟩ := entriesS_mem 0 l e0 (List.mem_of_getElem? h2)
    rw [hy1] at h3
    injection h3 with h3
    have : y = (k, v) := hd y hy _ hm h3
    subst this
    unfold RulesAt at h
    clear hks h2
    generalize entriesS 0 l = es at *
    simp [Instr.lookup, run_underlying Tryd.underlying53, MapKept.run_getObj_map h, keyedS.check w _ hkey, h1, hy2, Result.andThen]

theorem rules_none {w : World} {b : Nat} {l : List (ByteArray × Value)} (h : RulesAt w b l) (hl : ∀ y ∈ l, y.1.size ≤ 1000000) (k : ByteArray) (hk : k.size ≤ 1000000) (hn : ∀ y ∈ l, y.1 ≠ k) :
    (Instr.lookup 53 (.map (some b)) (.string k) true).run Tryd.prog w = .ok (.tuple #[.nilFunc, .bool false]) w := by
  obtain ⟨kl, hkey⟩ := keyS hk
  have hks : ∀ e ∈ (entriesS 0 l), ∃ l, keyOf Tryd.prog 9 e.key = some l := fun e he => by
    obtain ⟨y, hm, hy, _⟩ := entriesS_mem 0 l e he
    rw [hy]
    exact keyS (hl y hm)
  have hz := Tryd.zeroValue27 w
  rcases keyedS.find w hkey (entriesS 0 l) hks with ⟨h1, h2⟩ | ⟨j, e0, h1, h2, h3⟩
  · unfold RulesAt at h
    clear hks h2
    generalize entriesS 0 l = es at *
    simp [Instr.lookup, run_underlying Tryd.underlying53, MapKept.run_getObj_map h, keyedS.check w _ hkey, h1, hz, Result.andThen]
  · exfalso
    obtain ⟨y, hy, hy1, _⟩ := entriesS_mem 0 l e0 (List.mem_of_getElem? h2)
    rw [hy1] at h3
    injection h3 with h3
    exact hn y hy h3

/-! ### follows -/
theorem follows_empty (b mb : Nat) (w : World) : Calls Tryd.prog 33 #[.slice (some ⟨b, 0, none⟩) 0 0, .map (some mb)] w fun e w' => e = .returned (.bool true) ∧ w' = w := by
  go_enter Tryd.func33, Tryd.ntmps33
  go_wp2
  go_ret
  exact ⟨rfl, rfl⟩
theorem follows_none (b mb n : Nat) (k : ByteArray) (w : World) (hn : 1 ≤ n) (hc : w.cell? ⟨b, 0, none⟩ = some (.string k))
    (hl : (Instr.lookup 53 (.map (some mb)) (.string k) true).run Tryd.prog w = .ok (.tuple #[.nilFunc, .bool false]) w) :
    Calls Tryd.prog 33 #[.slice (some ⟨b, 0, none⟩) n n, .map (some mb)] w fun e w' => e = .returned (.bool false) ∧ w' = w := by
  have g1 : ((n : Int) == 0) = false := by simp; omega
  go_enter Tryd.func33, Tryd.ntmps33
  go_wp2
  go_ret
  exact ⟨rfl, rfl⟩
theorem follows_long (b mb n : Nat) (k : ByteArray) (v : Value) (w : World) (hn : 1 ≤ n) (h2 : n ≠ 2) (hc : w.cell? ⟨b, 0, none⟩ = some (.string k))
    (hl : (Instr.lookup 53 (.map (some mb)) (.string k) true).run Tryd.prog w = .ok (.tuple #[v, .bool true]) w) :
    Calls Tryd.prog 33 #[.slice (some ⟨b, 0, none⟩) n n, .map (some mb)] w fun e w' => e = .returned (.bool false) ∧ w' = w := by
  have g1 : ((n : Int) == 0) = false := by simp; omega
  have g2 : ((n : Int) == 2) = false := by simp; omega
  go_enter Tryd.func33, Tryd.ntmps33
  go_wp2
  go_ret
  exact ⟨rfl, rfl⟩
theorem follows_rule (f : FuncId) (p1 p2 : Value) (ok : Bool) (R : World → Prop) (b mb : Nat) (k t : ByteArray) (w : World) (hc : w.cell? ⟨b, 0, none⟩ = some (.string k)) (hc1 : w.cell? ⟨b, 1, none⟩ = some (.string t))
    (hl : (Instr.lookup 53 (.map (some mb)) (.string k) true).run Tryd.prog w = .ok (.tuple #[.func (.func f) #[] #[p1, p2], .bool true]) w)
    (ef : ∀ args W, (callFunc f args).run Tryd.prog W = .ok (.enter f args) W)
    (hf : Calls Tryd.prog f #[.string t, p1, p2] w fun e w' => e = .returned (.bool ok) ∧ R w') :
    Calls Tryd.prog 33 #[.slice (some ⟨b, 0, none⟩) 2 2, .map (some mb)] w fun e w' => e = .returned (.bool ok) ∧ R w' := by
  go_enter Tryd.func33, Tryd.ntmps33
  go_wp2_with (refine hf.mono ?_; rintro e w2 ⟨rfl, hr⟩; have HR2 := Lib.hid hr; clear hr)
  go_ret
  exact ⟨rfl, HR2.out⟩
theorem follows_rule0 (f : FuncId) (ok : Bool) (R : World → Prop) (b mb : Nat) (k t : ByteArray) (w : World) (hc : w.cell? ⟨b, 0, none⟩ = some (.string k)) (hc1 : w.cell? ⟨b, 1, none⟩ = some (.string t))
    (hl : (Instr.lookup 53 (.map (some mb)) (.string k) true).run Tryd.prog w = .ok (.tuple #[.func (.func f) #[] #[], .bool true]) w)
    (ef : ∀ args W, (callFunc f args).run Tryd.prog W = .ok (.enter f args) W)
    (hf : Calls Tryd.prog f #[.string t] w fun e w' => e = .returned (.bool ok) ∧ R w') :
    Calls Tryd.prog 33 #[.slice (some ⟨b, 0, none⟩) 2 2, .map (some mb)] w fun e w' => e = .returned (.bool ok) ∧ R w' := by
  go_enter Tryd.func33, Tryd.ntmps33
  go_wp2_with (refine hf.mono ?_; rintro e w2 ⟨rfl, hr⟩; have HR2 := Lib.hid hr; clear hr)
  go_ret
  exact ⟨rfl, HR2.out⟩
end Go.Proofs.YtnghlhkgeahfmaaDoor
