/- package token: Scan, Notes. -/
import Derived.Test.YtijinpnbhnfiiaaDoorTok13
namespace Go.Proofs.YtijinpnbhnfiiaaDoor
open Go.RowKit Go.Joins
set_option linter.unusedVariables false

/-- What Scan ends with. -/
def ToksEnds (w : World) (o : Out) (e : Ending) (w' : World) : Prop :=
  Below w.heap.size w w' ∧ ∃ (vt : Value), e = .returned (.tuple #[vt, .int .i64 o.pos, .int .i64 o.err]) ∧ w'.ownsRow w.heap.size 35 3 vt o.st.toks.length (cellsOf o.st.toks)

theorem toks_any (s : ByteArray) (a : Option Addr) (cap : Nat) (w : World) (ht : Text w a s) (hT : Tabs w) (hm : MaxLen w) (hcap : s.size ≤ cap) :
    Calls Tryd.prog 16 #[.slice a s.size cap] w fun e w' => ToksEnds w (scanR s) e w' := by
  have H := Lib.hid (scan_any s a cap w ht hT hm hcap)
  clear ht hT hm hcap
  generalize scanR s = o at *
  go_enter Tryd.func16, Tryd.ntmps16
  go_wp2_with fail
  refine H.out.mono ?_
  rintro e w1 ⟨hb, tx, vt, vn, rfl, hS⟩
  obtain ⟨ta, tn, tc, rfl⟩ := row_slice hS.rowT
  obtain ⟨na, nn, nc, rfl⟩ := row_slice hS.rowN
  have HB := Lib.hid hb
  have HR := Lib.hid hS.rowT
  clear hb hS
  go_wp2
  go_ret3
  exact ⟨HB.out.alloc HB.out.size _, _, rfl, HR.out.alloc _⟩

end Go.Proofs.YtijinpnbhnfiiaaDoor
