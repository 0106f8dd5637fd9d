/- The law ModelLeast of layer 8 holds at the landed code: for every input whose values together are of bulk at most 1048576, it returns true. -/
import Derived.Test.YtanompfdjfgfbaaGreatMl1
import Derived.Test.YtanompfdjfgfbaaGreatMb25
namespace Go.Proofs.YtanompfdjfgfbaaGreat

theorem modelLeast_holds : Rows.ModelLeastUptoSaid := modelLeast_said model_mk
#print axioms modelLeast_holds
end Go.Proofs.YtanompfdjfgfbaaGreat
