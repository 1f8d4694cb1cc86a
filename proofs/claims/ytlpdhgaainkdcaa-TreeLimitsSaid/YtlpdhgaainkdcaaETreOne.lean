/- TreeLimits at what leaves c and d by 5. -/
import Derived.Test.YtlpdhgaainkdcaaETreP998
import Derived.Test.YtlpdhgaainkdcaaETreR998
import Derived.Test.YtlpdhgaainkdcaaETreP999
import Derived.Test.YtlpdhgaainkdcaaETreR999
import Derived.Test.YtlpdhgaainkdcaaETreP1000
import Derived.Test.YtlpdhgaainkdcaaETreR1000
import Derived.Test.YtlpdhgaainkdcaaETreP1001
import Derived.Test.YtlpdhgaainkdcaaETreR1001
import Derived.Test.YtlpdhgaainkdcaaETreP1002
import Derived.Test.YtlpdhgaainkdcaaETreR1002
set_option linter.unusedSimpArgs false
set_option linter.unusedVariables false
namespace Go.Proofs.Ytlpdhgaainkdcaa
open Go.VE

/-- All told calls that the law uses at 998 + d statements. -/
noncomputable def treL (d : Nat) : List (Nat × List AV × AV) := [(5, [], .bool true), (15, [lstN (998 + d)], .int .i64 1), (30, [lstN (998 + d)], .bool (Nat.ble d 2)), (33, [lstN (998 + d)], .int .i64 1), (34, [lstN (998 + d)], .bool (Nat.ble d 2))]
theorem treL_ok : ∀ d, d < 5 → OrcsOk Try.prog (treL d) := fun d hd => by
  match d, hd with
  | 0, _ => exact .cons t_known (.cons t_nP998 (.cons t_bP998 (.cons t_nR998 (.cons t_bR998 .nil))))
  | 1, _ => exact .cons t_known (.cons t_nP999 (.cons t_bP999 (.cons t_nR999 (.cons t_bR999 .nil))))
  | 2, _ => exact .cons t_known (.cons t_nP1000 (.cons t_bP1000 (.cons t_nR1000 (.cons t_bR1000 .nil))))
  | 3, _ => exact .cons t_known (.cons t_nP1001 (.cons t_bP1001 (.cons t_nR1001 (.cons t_bR1001 .nil))))
  | 4, _ => exact .cons t_known (.cons t_nP1002 (.cons t_bP1002 (.cons t_nR1002 (.cons t_bR1002 .nil))))
noncomputable def treOne (val : Nat → Int) (c d : Nat) : Bool := match evCall (envOf Try.prog val (remsOf [(5, c), (5, d)]) (fun _ _ => none) (treL d)) 3000 300 3 [.sym .u8 0, .sym .u8 1] emptySt toldTrue with
  | some () => true
  | none => false
end Go.Proofs.Ytlpdhgaainkdcaa
