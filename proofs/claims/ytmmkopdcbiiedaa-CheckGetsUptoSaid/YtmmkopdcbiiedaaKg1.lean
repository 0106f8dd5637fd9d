/- The law CheckGets of layer 9, of the program that landed. -/
import Derived.Test.YtmmkopdcbiiedaaKb30
import Derived.Test.YtmmkopdcbiiedaaKb54
namespace Go.Proofs.Ytmmkopdcbiiedaa
theorem checkGets_done : Rows.CheckGetsUptoSaid := checkGets_of ck_all cg_all
end Go.Proofs.Ytmmkopdcbiiedaa
