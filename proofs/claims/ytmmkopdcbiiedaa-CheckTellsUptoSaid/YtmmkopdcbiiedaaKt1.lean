/- The law CheckTells of layer 9, of the program that landed. -/
import Derived.Test.YtmmkopdcbiiedaaKb30
import Derived.Test.YtmmkopdcbiiedaaKb54
namespace Go.Proofs.Ytmmkopdcbiiedaa
theorem checkTells_done : Rows.CheckTellsUptoSaid := checkTells_of ck_all cg_all
end Go.Proofs.Ytmmkopdcbiiedaa
