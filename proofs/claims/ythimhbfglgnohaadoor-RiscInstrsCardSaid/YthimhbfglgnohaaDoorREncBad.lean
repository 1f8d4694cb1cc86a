/- The document's Encode, of what is no instruction: how it ends. -/
import Derived.Test.YthimhbfglgnohaaDoorREncR
namespace Go.Proofs.YthimhbfglgnohaaDoor
open Go.RowKit M

def EncBad (w : World) (e : Ending) (w' : World) : Prop := (∃ x : Int, e = .returned (.tuple #[.int .u32 x, .bool false])) ∧ Only Nil w w'
end Go.Proofs.YthimhbfglgnohaaDoor
