/- The law CheckTight of layer 9, of the program that landed. -/
import Derived.Test.YtmmkopdcbiiedaaKb30
import Derived.Test.YtmmkopdcbiiedaaKb54
namespace Go.Proofs.Ytmmkopdcbiiedaa
theorem checkTight_done : Rows.CheckTightUptoSaid := checkTight_of ck_all cg_all
end Go.Proofs.Ytmmkopdcbiiedaa
