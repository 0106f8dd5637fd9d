/- The law ModelTells of layer 8 holds at the landed code: for every input whose values together are of bulk at most 1048576, it returns true. -/
import Derived.Test.YtanompfdjfgfbaaGreatMt1
import Derived.Test.YtanompfdjfgfbaaGreatMb25
namespace Go.Proofs.YtanompfdjfgfbaaGreat

theorem modelTells_holds : Rows.ModelTellsUptoSaid := modelTells_said model_mk
#print axioms modelTells_holds
end Go.Proofs.YtanompfdjfgfbaaGreat
