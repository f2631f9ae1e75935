/- Plain laws under package tag: what is written is read as it was. No program stands in it. -/
import Derived.Test.YtojdhlmmnhjolaaDoorTagB
import Derived.Test.YtojdhlmmnhjolaaDoorTagR
set_option linter.unusedVariables false
namespace Go.Proofs.YtojdhlmmnhjolaaDoor

def dropB (l : List UInt8) : List UInt8 := l.drop (l.takeWhile tblB).length
theorem dropB_blank {c : UInt8} (h : tblB c = true) (l : List UInt8) : dropB (c :: l) = dropB l := by
  unfold dropB
  rw [List.takeWhile_cons, if_pos h]
  rfl
theorem dropB_other {c : UInt8} (h : tblB c = false) (l : List UInt8) : dropB (c :: l) = c :: l := by
  unfold dropB
  rw [List.takeWhile_cons, if_neg (by rw [h]; decide)]
  rfl
theorem dropB_idem (l : List UInt8) : dropB (dropB l) = dropB l := by
  induction l with
  | nil => rfl
  | cons c r ih =>
    cases h : tblB c with
    | true => rw [dropB_blank h, ih]
    | false => rw [dropB_other h, dropB_other h]
theorem dropB_le (l : List UInt8) : (dropB l).length ≤ l.length := by unfold dropB; rw [List.length_drop]; omega
theorem takeS_eq (s l : List UInt8) : takeS s l = if s.isPrefixOf (dropB l) then (true, (dropB l).drop s.length) else (false, dropB l) := rfl
theorem takeS_same {l l' : List UInt8} (h : dropB l = dropB l') (s : List UInt8) : takeS s l = takeS s l' := by rw [takeS_eq, takeS_eq, h]
theorem takeS_not {s l : List UInt8} (h : (takeS s l).1 = false) : takeS s l = (false, dropB l) := by
  rw [takeS_eq] at h ⊢
  split
  · rename_i hp
    rw [if_pos hp] at h
    cases h
  · rfl
theorem takeS_hit {s l r : List UInt8} (h : dropB l = s ++ r) : takeS s l = (true, r) := by
  rw [takeS_eq, h, if_pos (by rw [List.isPrefixOf_iff_prefix]; exact List.prefix_append _ _), List.drop_left]
theorem takeS_miss {c d : UInt8} {s l r : List UInt8} (h : dropB l = d :: r) (hc : c ≠ d) : (takeS (c :: s) l).1 = false := by
  rw [takeS_eq, h, List.isPrefixOf_cons_cons, show (c == d) = false from beq_eq_false_iff_ne.2 hc]
  rfl
theorem takeS_none {c : UInt8} {s l : List UInt8} (h : dropB l = []) : (takeS (c :: s) l).1 = false := by
  rw [takeS_eq, h]
  rfl
theorem moreP_same (op : List UInt8) (part : Part) (g : Nat) (acc : List Ex) {l l' : List UInt8} (h : dropB l = dropB l') : moreP op part g acc l = moreP op part g acc l' := by
  cases g with
  | zero => rfl
  | succ g => rw [moreP, moreP, takeS_same h]

def NoTag (t : List UInt8) : Prop := ∀ c r, t = c :: r → tagB c = false
def OkA (t : List UInt8) : Prop := NoTag t ∧ (takeS andL t).1 = false
def OkO (t : List UInt8) : Prop := OkA t ∧ (takeS orL t).1 = false
/-- A text is read as a constraint, what stands behind it is left. -/
def Reads (Ok : List UInt8 → Prop) (part : Part) (s : List UInt8) (x : Ex) : Prop := ∀ t, Ok t → ∃ t', part (s ++ t) = some (x, t') ∧ dropB t' = dropB t
def Skips (part : Part) : Prop := ∀ l, part (32 :: l) = part l
theorem takeS_blank (sign l : List UInt8) : takeS sign (32 :: l) = takeS sign l := takeS_same (dropB_blank (by decide) l) sign
theorem factorF_skips (f : Nat) : Skips (factorF f) := by
  intro l
  cases f with
  | zero => rfl
  | succ f => simp only [factorF, takeS_blank]
theorem parts_skips (op : List UInt8) {p : Part} (h : Skips p) : Skips (partsP op p) := fun l => parts_head op (h l)

theorem single {op : List UInt8} {Ok : List UInt8 → Prop} {part : Part} {s : List UInt8} {x : Ex} (h : Reads Ok part s x) : Reads (fun t => Ok t ∧ (takeS op t).1 = false) (partsP op part) s x := by
  intro t ⟨ht, ho⟩
  obtain ⟨t', h1, h2⟩ := h t ht
  have ho' : (takeS op t').1 = false := by rw [takeS_same h2]; exact ho
  refine ⟨(takeS op t').2, parts_one op h1 ho', ?_⟩
  rw [takeS_not ho', h2, dropB_idem]
theorem rowW_cons (op : List UInt8) (x : Ex) (r : List Ex) : rowW op false (x :: r) = 32 :: (op ++ (32 :: (withinL x op ++ rowW op false r))) := by
  rw [rowW]
  show 32 :: (op ++ [32]) ++ (withinL x op ++ rowW op false r) = _
  simp
theorem rowW_len (op : List UInt8) : ∀ r : List Ex, r.length ≤ (rowW op false r).length
  | [] => Nat.zero_le _
  | x :: r => by
    have := rowW_len op r
    rw [rowW_cons]
    simp only [List.length_append, List.length_cons]
    omega
theorem more_row {op : List UInt8} {d : UInt8} {ds : List UInt8} (hop : op = d :: ds) (hd : tblB d = false) {Ok : List UInt8 → Prop} {part : Part} (hsk : Skips part) (t : List UInt8) (ht : Ok t) (ho : (takeS op t).1 = false) (hrow : ∀ k r, Ok (rowW op false (k :: r) ++ t)) :
    ∀ (r : List Ex) (acc : List Ex) (g : Nat), r.length + 1 ≤ g → (∀ k ∈ r, Reads Ok part (withinL k op) k) → moreP op part g acc (rowW op false r ++ t) = some (acc ++ r, dropB t)
  | [], acc, 0, hg, _ => by simp at hg
  | [], acc, g + 1, hg, _ => by
    rw [rowW, List.nil_append, moreP, takeS_not ho, if_neg (by simp), List.append_nil]
  | k :: r, acc, 0, hg, _ => by simp at hg
  | k :: r, acc, g + 1, hg, hk => by
    have e : takeS op (rowW op false (k :: r) ++ t) = (true, 32 :: (withinL k op ++ (rowW op false r ++ t))) := by
      refine takeS_hit ?_
      rw [rowW_cons, List.cons_append, dropB_blank (by decide), hop, List.cons_append, List.cons_append, dropB_other hd]
      simp
    rw [moreP, e, if_pos rfl]
    dsimp only
    rw [hsk]
    have hok : Ok (rowW op false r ++ t) := by
      cases r with
      | nil => rw [rowW, List.nil_append]; exact ht
      | cons k2 r2 => exact hrow k2 r2
    obtain ⟨t', h1, h2⟩ := hk k List.mem_cons_self _ hok
    rw [h1]
    dsimp only
    rw [moreP_same op part g (acc ++ [k]) h2, more_row hop hd hsk t ht ho hrow r (acc ++ [k]) g (by simp at hg; omega) (fun k2 h => hk k2 (List.mem_cons_of_mem _ h)), List.append_assoc]
    rfl
theorem row_reads {op : List UInt8} {d : UInt8} {ds : List UInt8} (hop : op = d :: ds) (hd : tblB d = false) {Ok : List UInt8 → Prop} {part : Part} (hsk : Skips part) (hrow : ∀ t, Ok t → ∀ k r, Ok (rowW op false (k :: r) ++ t)) {k k2 : Ex} {r : List Ex}
    (hk : ∀ y ∈ k :: k2 :: r, Reads Ok part (withinL y op) y) : Reads (fun t => Ok t ∧ (takeS op t).1 = false) (partsP op part) (rowW op true (k :: k2 :: r)) (.mk ⟨op.toArray⟩ ⟨#[]⟩ (k :: k2 :: r)) := by
  intro t ⟨ht, ho⟩
  have e : rowW op true (k :: k2 :: r) ++ t = withinL k op ++ (rowW op false (k2 :: r) ++ t) := by
    rw [rowW]
    show [] ++ (withinL k op ++ rowW op false (k2 :: r)) ++ t = _
    rw [List.nil_append, List.append_assoc]
  obtain ⟨t', h1, h2⟩ := hk k List.mem_cons_self _ (hrow t ht k2 r)
  refine ⟨dropB t, ?_, dropB_idem t⟩
  rw [e]
  unfold partsP
  rw [h1]
  dsimp only
  have hl : (k2 :: r).length ≤ t'.length := by
    have h3 := dropB_le t'
    rw [h2, rowW_cons, List.cons_append, dropB_blank (by decide), hop, List.cons_append, List.cons_append, dropB_other hd] at h3
    have h4 := rowW_len (d :: ds) r
    simp only [List.length_cons, List.length_append] at h3 h4 ⊢
    omega
  rw [moreP_same op part _ _ h2, more_row hop hd hsk t ht ho (hrow t ht) (k2 :: r) [k] (t'.length + 1) (by omega) (fun y hy => hk y (List.mem_cons_of_mem _ hy))]
  rfl

/-! ### The three levels -/
theorem within_and (x : Ex) : withinL x andL = withinL x notL := by
  have e : plainIn x andL = plainIn x notL := by
    obtain ⟨o, t, k⟩ := x
    have h1 : ¬ (andL = orL) := by decide
    have h2 : ¬ (notL = orL) := by decide
    unfold plainIn
    simp only [h1, h2, and_false]
  unfold withinL
  rw [e]
theorem noTag_row (op : List UInt8) (k : Ex) (r : List Ex) (t : List UInt8) : NoTag (rowW op false (k :: r) ++ t) := by
  intro c l h
  rw [rowW_cons, List.cons_append] at h
  injection h with h _
  subst h
  decide
theorem okA_row (t : List UInt8) (h : OkA t) (k : Ex) (r : List Ex) : OkA (rowW orL false (k :: r) ++ t) := by
  refine ⟨noTag_row _ _ _ _, ?_⟩
  rw [rowW_cons, List.cons_append]
  exact takeS_miss (d := 124) (r := [124] ++ (32 :: (withinL k orL ++ rowW orL false r)) ++ t) (by rw [dropB_blank (by decide)]; exact dropB_other (by decide) _) (by decide)
theorem okO_close (t : List UInt8) : OkO (41 :: t) :=
  ⟨⟨fun c r h => by injection h with h _; subst h; decide, takeS_miss (dropB_other (by decide) t) (by decide)⟩, takeS_miss (dropB_other (by decide) t) (by decide)⟩
theorem okO_end : OkO [] := ⟨⟨fun c r h => by (cases h), by decide⟩, by decide⟩

structure Lev (x : Ex) : Prop where
  fac : ∀ f, (withinL x notL).length ≤ f → Reads NoTag (factorF f) (withinL x notL) x
  and : ∀ f, (withinL x orL).length ≤ f → Reads OkA (partsP andL (factorF f)) (withinL x orL) x
  or : ∀ f, (writtenE x).length ≤ f → Reads OkO (orP (factorF f)) (writtenE x) x
theorem len_mem (op : List UInt8) : ∀ (first : Bool) (l : List Ex) (k : Ex), k ∈ l → (withinL k op).length ≤ (rowW op first l).length
  | first, [], k, h => by cases h
  | first, x :: r, k, h => by
    rw [rowW, List.length_append, List.length_append]
    rcases List.mem_cons.1 h with rfl | h
    · show (withinL k op).length ≤ _ + ((withinL k op).length + _)
      omega
    · have := len_mem op false r k h
      omega
theorem bracket {x : Ex} (hw : withinL x notL = 40 :: (writtenE x ++ [41])) (ho : ∀ f, (writtenE x).length ≤ f → Reads OkO (orP (factorF f)) (writtenE x) x) : ∀ f, (withinL x notL).length ≤ f → Reads NoTag (factorF f) (withinL x notL) x := by
  intro f hf t ht
  rw [hw] at hf ⊢
  simp only [List.length_cons, List.length_append, List.length_nil] at hf
  obtain ⟨g, rfl⟩ : ∃ g, f = g + 1 := ⟨f - 1, by omega⟩
  obtain ⟨t', h1, h2⟩ := ho g (by omega) (41 :: t) (okO_close t)
  have e0 : 40 :: (writtenE x ++ [41]) ++ t = 40 :: (writtenE x ++ (41 :: t)) := by simp
  have e1 : takeS notL (40 :: (writtenE x ++ (41 :: t))) = (false, 40 :: (writtenE x ++ (41 :: t))) := by
    have k : (takeS notL (40 :: (writtenE x ++ (41 :: t)))).1 = false := takeS_miss (dropB_other (by decide) _) (by decide)
    rw [takeS_not k, dropB_other (by decide)]
  have e2 : takeS [40] (40 :: (writtenE x ++ (41 :: t))) = (true, writtenE x ++ (41 :: t)) := takeS_hit (dropB_other (by decide) _)
  have e3 : takeS [41] t' = (true, t) := takeS_hit (by rw [h2]; exact dropB_other (by decide) t)
  refine ⟨t, ?_, rfl⟩
  rw [e0, factorF]
  dsimp only
  rw [e1, if_neg (by simp)]
  dsimp only
  rw [e2, if_pos rfl]
  dsimp only
  rw [h1]
  dsimp only
  rw [e3, if_pos rfl]
theorem takeTag_app {l t : List UInt8} (h : l.all tagB = true) (ht : NoTag t) : (l ++ t).takeWhile tagB = l := by
  induction l with
  | nil =>
    cases t with
    | nil => rfl
    | cons c r => rw [List.nil_append, List.takeWhile_cons, ht c r rfl]; rfl
  | cons c r ih =>
    rw [List.all_cons, Bool.and_eq_true] at h
    rw [List.cons_append, List.takeWhile_cons, if_pos h.1, ih h.2]
theorem tag_reads {s : ByteArray} (h0 : s.data.toList ≠ []) (h : s.data.toList.all tagB = true) (f : Nat) (hf : s.data.toList.length ≤ f) : Reads NoTag (factorF f) s.data.toList (.mk ⟨#[]⟩ s []) := by
  intro t ht
  obtain ⟨c, r, hl⟩ : ∃ c r, s.data.toList = c :: r := by
    cases hs : s.data.toList with
    | nil => exact absurd hs h0
    | cons c r => exact ⟨c, r, rfl⟩
  have hc : tagB c = true := by rw [hl, List.all_cons, Bool.and_eq_true] at h; exact h.1
  obtain ⟨g, rfl⟩ : ∃ g, f = g + 1 := ⟨f - 1, by rw [hl, List.length_cons] at hf; omega⟩
  have e1 : takeS notL (s.data.toList ++ t) = (false, s.data.toList ++ t) := by rw [hl, List.cons_append]; exact takeS_tag 33 [] hc (by decide)
  have e2 : takeS [40] (s.data.toList ++ t) = (false, s.data.toList ++ t) := by rw [hl, List.cons_append]; exact takeS_tag 40 [] hc (by decide)
  refine ⟨t, ?_, rfl⟩
  rw [factorF]
  dsimp only
  rw [e1, if_neg (by simp)]
  dsimp only
  rw [e2, if_neg (by simp)]
  dsimp only
  rw [takeTag_app h ht, if_neg (by rw [hl]; simp), List.drop_left]
theorem within_plain {x : Ex} {op : List UInt8} (h : plainIn x op = true) : withinL x op = writtenE x := by unfold withinL; rw [if_pos h]
theorem within_brackets {x : Ex} {op : List UInt8} (h : plainIn x op = false) : withinL x op = 40 :: (writtenE x ++ [41]) := by unfold withinL; rw [if_neg (by rw [h]; decide)]


mutual
def cntE : Ex → Nat
  | .mk _ _ kids => 1 + cntL kids
def cntL : List Ex → Nat
  | [] => 0
  | x :: r => cntE x + cntL r
end
theorem cnt_mem : ∀ (l : List Ex) (k : Ex), k ∈ l → cntE k ≤ cntL l
  | [], k, h => by cases h
  | x :: r, k, h => by
    rw [cntL]
    rcases List.mem_cons.1 h with rfl | h
    · omega
    · have := cnt_mem r k h
      omega
theorem rightL_in {left : Nat} : ∀ {l : List Ex} {k : Ex}, rightL left l = true → k ∈ l → rightE left k = true
  | [], k, _, h => by cases h
  | x :: r, k, hr, h => by
    rw [rightL, Bool.and_eq_true] at hr
    rcases List.mem_cons.1 h with rfl | h
    · exact hr.1
    · exact rightL_in hr.2 h
theorem bytes_of {op : ByteArray} {l : List UInt8} (h : op.data.toList = l) : op = ⟨l.toArray⟩ := by
  apply ByteArray.ext
  apply Array.toList_inj.1
  rw [h]
theorem lev_all : ∀ (n : Nat) (x : Ex), cntE x ≤ n → (∃ m, rightE m x = true) → Lev x
  | 0, .mk op tag kids, hn, _ => by rw [cntE] at hn; omega
  | n + 1, .mk op tag kids, hn, ⟨m, hm⟩ => by
    rw [cntE] at hn
    obtain ⟨_, hsh, hrl⟩ := right_parts hm
    have ih : ∀ k ∈ kids, Lev k := fun k hk => lev_all n k (by have := cnt_mem _ _ hk; omega) ⟨m - 1, rightL_in hrl hk⟩
    have up : ∀ {y : Ex}, (∀ f, (withinL y orL).length ≤ f → Reads OkA (partsP andL (factorF f)) (withinL y orL) y) → withinL y orL = writtenE y → ∀ f, (writtenE y).length ≤ f → Reads OkO (orP (factorF f)) (writtenE y) y := by
      intro y h e f hf
      rw [← e] at hf ⊢
      exact single (op := orL) (h f hf)
    rw [shapedE] at hsh
    split at hsh
    · rename_i h0
      obtain rfl := bytes_of h0
      rw [Bool.and_eq_true, Bool.and_eq_true] at hsh
      obtain ⟨⟨ht0, hta⟩, hk⟩ := hsh
      obtain rfl : kids = [] := by simpa using hk
      have ht0' : tag.data.toList ≠ [] := by
        intro e
        rw [e] at ht0
        exact absurd ht0 (by decide)
      have w1 : withinL (.mk ⟨([] : List UInt8).toArray⟩ tag []) notL = tag.data.toList := (within_plain rfl).trans (wr_tag tag [])
      have w2 : withinL (.mk ⟨([] : List UInt8).toArray⟩ tag []) orL = tag.data.toList := (within_plain rfl).trans (wr_tag tag [])
      have F : ∀ f, (withinL (.mk ⟨([] : List UInt8).toArray⟩ tag []) notL).length ≤ f → Reads NoTag (factorF f) (withinL (.mk ⟨([] : List UInt8).toArray⟩ tag []) notL) (.mk ⟨([] : List UInt8).toArray⟩ tag []) := by
        rw [w1]
        exact fun f hf => tag_reads ht0' hta f hf
      have A : ∀ f, (withinL (.mk ⟨([] : List UInt8).toArray⟩ tag []) orL).length ≤ f → Reads OkA (partsP andL (factorF f)) (withinL (.mk ⟨([] : List UInt8).toArray⟩ tag []) orL) (.mk ⟨([] : List UInt8).toArray⟩ tag []) := by
        rw [w2, ← w1]
        exact fun f hf => single (op := andL) (F f hf)
      exact ⟨F, A, up A (w2.trans (wr_tag tag []).symm)⟩
    split at hsh
    · rename_i h0 h1
      obtain rfl := bytes_of h1
      rw [Bool.and_eq_true, List.isEmpty_iff, beq_iff_eq] at hsh
      obtain ⟨y, rfl⟩ := List.length_eq_one_iff.1 hsh.2
      obtain rfl := bytes_of hsh.1
      have hy := ih y List.mem_cons_self
      have w0 : writtenE (.mk ⟨notL.toArray⟩ ⟨([] : List UInt8).toArray⟩ [y]) = 33 :: withinL y notL := wr_not _ y
      have w1 : withinL (.mk ⟨notL.toArray⟩ ⟨([] : List UInt8).toArray⟩ [y]) notL = 33 :: withinL y notL := (within_plain rfl).trans w0
      have w2 : withinL (.mk ⟨notL.toArray⟩ ⟨([] : List UInt8).toArray⟩ [y]) orL = 33 :: withinL y notL := (within_plain rfl).trans w0
      have F : ∀ f, (withinL (.mk ⟨notL.toArray⟩ ⟨([] : List UInt8).toArray⟩ [y]) notL).length ≤ f → Reads NoTag (factorF f) (withinL (.mk ⟨notL.toArray⟩ ⟨([] : List UInt8).toArray⟩ [y]) notL) (.mk ⟨notL.toArray⟩ ⟨([] : List UInt8).toArray⟩ [y]) := by
        rw [w1]
        intro f hf t ht
        rw [List.length_cons] at hf
        obtain ⟨g, rfl⟩ : ∃ g, f = g + 1 := ⟨f - 1, by omega⟩
        obtain ⟨t', h3, h4⟩ := hy.fac g (by omega) t ht
        refine ⟨t', ?_, h4⟩
        have e1 : takeS notL (33 :: withinL y notL ++ t) = (true, withinL y notL ++ t) := takeS_hit (by rw [List.cons_append]; exact dropB_other (by decide) _)
        rw [factorF]
        dsimp only
        rw [e1, if_pos rfl]
        dsimp only
        rw [h3]
        rfl
      have A : ∀ f, (withinL (.mk ⟨notL.toArray⟩ ⟨([] : List UInt8).toArray⟩ [y]) orL).length ≤ f → Reads OkA (partsP andL (factorF f)) (withinL (.mk ⟨notL.toArray⟩ ⟨([] : List UInt8).toArray⟩ [y]) orL) (.mk ⟨notL.toArray⟩ ⟨([] : List UInt8).toArray⟩ [y]) := by
        rw [w2, ← w1]
        exact fun f hf => single (op := andL) (F f hf)
      exact ⟨F, A, up A (w2.trans w0.symm)⟩
    split at hsh
    · rename_i h0 h1 h2
      rw [Bool.and_eq_true, List.isEmpty_iff, decide_eq_true_eq] at hsh
      obtain rfl := bytes_of hsh.1
      match kids, hsh.2 with
      | k :: k2 :: r, _ =>
      have hw : writtenE (.mk op ⟨([] : List UInt8).toArray⟩ (k :: k2 :: r)) = rowW op.data.toList true (k :: k2 :: r) := wr_row _ _ _ h0 h1
      rcases h2 with h2 | h2
      · obtain rfl := bytes_of h2
        have hw' : writtenE (.mk ⟨andL.toArray⟩ ⟨([] : List UInt8).toArray⟩ (k :: k2 :: r)) = rowW andL true (k :: k2 :: r) := hw
        have w1 : withinL (.mk ⟨andL.toArray⟩ ⟨([] : List UInt8).toArray⟩ (k :: k2 :: r)) notL = 40 :: (writtenE (.mk ⟨andL.toArray⟩ ⟨([] : List UInt8).toArray⟩ (k :: k2 :: r)) ++ [41]) := within_brackets rfl
        have w2 : withinL (.mk ⟨andL.toArray⟩ ⟨([] : List UInt8).toArray⟩ (k :: k2 :: r)) orL = writtenE (.mk ⟨andL.toArray⟩ ⟨([] : List UInt8).toArray⟩ (k :: k2 :: r)) := within_plain rfl
        have A : ∀ f, (withinL (.mk ⟨andL.toArray⟩ ⟨([] : List UInt8).toArray⟩ (k :: k2 :: r)) orL).length ≤ f → Reads OkA (partsP andL (factorF f)) (withinL (.mk ⟨andL.toArray⟩ ⟨([] : List UInt8).toArray⟩ (k :: k2 :: r)) orL) (.mk ⟨andL.toArray⟩ ⟨([] : List UInt8).toArray⟩ (k :: k2 :: r)) := by
          rw [w2, hw']
          intro f hf
          refine row_reads (Ok := NoTag) (op := andL) rfl (by decide) (factorF_skips f) (fun t _ a b => noTag_row andL a b t) (fun y hy => ?_)
          have hle := len_mem andL true _ y hy
          rw [within_and] at hle ⊢
          exact (ih y hy).fac f (by omega)
        have O := up A w2
        exact ⟨bracket w1 O, A, O⟩
      · obtain rfl := bytes_of h2
        have hw' : writtenE (.mk ⟨orL.toArray⟩ ⟨([] : List UInt8).toArray⟩ (k :: k2 :: r)) = rowW orL true (k :: k2 :: r) := hw
        have w1 : withinL (.mk ⟨orL.toArray⟩ ⟨([] : List UInt8).toArray⟩ (k :: k2 :: r)) notL = 40 :: (writtenE (.mk ⟨orL.toArray⟩ ⟨([] : List UInt8).toArray⟩ (k :: k2 :: r)) ++ [41]) := within_brackets rfl
        have w2 : withinL (.mk ⟨orL.toArray⟩ ⟨([] : List UInt8).toArray⟩ (k :: k2 :: r)) orL = 40 :: (writtenE (.mk ⟨orL.toArray⟩ ⟨([] : List UInt8).toArray⟩ (k :: k2 :: r)) ++ [41]) := within_brackets rfl
        have O : ∀ f, (writtenE (.mk ⟨orL.toArray⟩ ⟨([] : List UInt8).toArray⟩ (k :: k2 :: r))).length ≤ f → Reads OkO (orP (factorF f)) (writtenE (.mk ⟨orL.toArray⟩ ⟨([] : List UInt8).toArray⟩ (k :: k2 :: r))) (.mk ⟨orL.toArray⟩ ⟨([] : List UInt8).toArray⟩ (k :: k2 :: r)) := by
          rw [hw']
          intro f hf
          refine row_reads (Ok := OkA) (op := orL) rfl (by decide) (parts_skips andL (factorF_skips f)) (fun t h a b => okA_row t h a b) (fun y hy => ?_)
          have hle := len_mem orL true _ y hy
          exact (ih y hy).and f (by omega)
        have F := bracket w1 O
        refine ⟨F, ?_, O⟩
        rw [w2, ← w1]
        exact fun f hf => single (op := andL) (F f hf)
    · cases hsh
theorem moreP_rest (op : List UInt8) (part : Part) : ∀ g acc l acc' r, moreP op part g acc l = some (acc', r) → dropB r = r
  | 0, acc, l, acc', r, h => by cases h
  | g + 1, acc, l, acc', r, h => by
    rw [moreP] at h
    split at h
    · split at h
      · exact moreP_rest op part g _ _ _ _ h
      · cases h
    · rename_i ht
      injection h with h
      injection h with _ h
      rw [takeS_not (by simpa using ht)] at h
      rw [← h, dropB_idem]
theorem partsP_rest {op : List UInt8} {part : Part} {l r : List UInt8} {x : Ex} (h : partsP op part l = some (x, r)) : dropB r = r := by
  unfold partsP at h
  split at h
  · split at h
    · rename_i acc r' hm
      injection h with h
      injection h with _ h
      rw [← h]
      exact moreP_rest op part _ _ _ _ _ hm
    · cases h
  · cases h
theorem read_back {x : Ex} (h : rightE 100 x = true) (hl : (writtenE x).length ≤ 500) : readM ⟨(writtenE x).toArray⟩ = some x := by
  obtain ⟨t', h1, h2⟩ := (lev_all _ x (Nat.le_refl _) ⟨100, h⟩).or ((writtenE x).length + 1) (by omega) [] okO_end
  rw [List.append_nil] at h1
  have e : orP (factorF ((writtenE x).length + 1)) (writtenE x) = some (x, []) := by
    rw [h1, ← partsP_rest h1, h2]
    rfl
  unfold readM
  rw [if_neg (by show ¬ 500 < (writtenE x).toArray.size; rw [List.size_toArray]; omega)]
  show wholeL (writtenE x) = some x
  unfold wholeL
  rw [e]
  dsimp only
  rw [h]
  rfl
end Go.Proofs.YtojdhlmmnhjolaaDoor
