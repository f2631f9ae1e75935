/- package token: Notes. -/
import Derived.Test.YthpengbglbgidaaDoorTok14
namespace Go.Proofs.YthpengbglbgidaaDoor
open Go.RowKit Go.Joins
set_option linter.unusedVariables false

/-- What Notes ends with. -/
def NotesEnds (w : World) (o : Out) (e : Ending) (w' : World) : Prop :=
  Below w.heap.size w w' ∧ ∃ (vn : Value), e = .returned vn ∧ w'.ownsRow w.heap.size 35 3 vn o.st.notes.length (cellsOf o.st.notes)

theorem notes_any (s : ByteArray) (a : Option Addr) (cap : Nat) (w : World) (ht : Text w a s) (hT : Tabs w) (hm : MaxLen w) (hcap : s.size ≤ cap) :
    Calls Tryd.prog 8 #[.slice a s.size cap] w fun e w' => NotesEnds w (scanR s) e w' := by
  have H := Lib.hid (scan_any s a cap w ht hT hm hcap)
  clear ht hT hm hcap
  generalize scanR s = o at *
  go_enter Tryd.func8, Tryd.ntmps8
  go_wp2_with fail
  refine H.out.mono ?_
  rintro e w1 ⟨hb, tx, vt, vn, rfl, hS⟩
  obtain ⟨ta, tn, tc, rfl⟩ := row_slice hS.rowT
  obtain ⟨na, nn, nc, rfl⟩ := row_slice hS.rowN
  have HB := Lib.hid hb
  have HR := Lib.hid hS.rowN
  clear hb hS
  go_wp2
  go_ret
  exact ⟨HB.out.alloc HB.out.size _, _, rfl, HR.out.alloc _⟩
end Go.Proofs.YthpengbglbgidaaDoor
