/- What a reading comes to. -/
import Derived.Test.YtaejhkjigppelaaMem
namespace Go.Proofs.Ytaejhkjigppelaa
open Go.RowKit

/-- What a Read answers, of the error and what is left. -/
def endOf (flt : Int) (n : Nat) : Int := if flt = 0 then (if 0 < n then 13 else 0) else flt

end Go.Proofs.Ytaejhkjigppelaa
