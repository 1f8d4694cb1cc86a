/- The document's stack machine does one instruction. -/
import Derived.Test.YtpnhjjihdcopnaaTDoFS
import Derived.Test.YtpnhjjihdcopnaaTDoFN
set_option linter.unusedSimpArgs false
set_option linter.unusedVariables false
namespace Go.Proofs.Ytpnhjjihdcopnaa
open Go.RowKit M
variable {Q : Nat → Prop}

theorem tdo_27 (db vb : Nat) (k : Int) (hk : I32 k) (code : List Cod) (s : SS) (lv pv kv iv ov : Value) (w : World) (hQ : ∀ j, Q j → j < w.heap.size) (hM : TAt Q w db vb code s lv pv kv iv ov) (hs : s.Ok) (hol : s.out.length ≤ 1099511627776) (hA : 0 ≤ s.ops.length) (hB : s.ops.length - 0 + 0 ≤ 1000) (hp0 : 0 ≤ s.pc) :
    Calls Try.prog 35 #[.pointer (some ⟨db, 0, none⟩), .agg #[.int .i64 27, .int .i32 k]] w (TDoes Q w db vb code s lv ov (sExec s ⟨27, k⟩)) := by
  have hrow := hM.ops
  obtain ⟨pb, pao, pcap, poff, e, p2, p3, p4, p6, p7⟩ := hrow
  cases pao with
  | none => exact tdo_27n db vb k hk code s lv pv kv iv ov w hQ hM hs hol hA hB hp0 ⟨_, _, e⟩
  | some a => exact tdo_27s db vb k hk code s lv pv kv iv ov w hQ hM hs hol hA hB hp0 ⟨_, _, _, e⟩
end Go.Proofs.Ytpnhjjihdcopnaa
