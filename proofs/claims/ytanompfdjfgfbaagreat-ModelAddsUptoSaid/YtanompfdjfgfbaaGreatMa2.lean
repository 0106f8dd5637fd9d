/- The law ModelAdds of layer 8 holds at the landed code: for every input whose values together are of bulk at most 1048576, it returns true. -/
import Derived.Test.YtanompfdjfgfbaaGreatMa1
import Derived.Test.YtanompfdjfgfbaaGreatMb25
namespace Go.Proofs.YtanompfdjfgfbaaGreat

theorem modelAdds_holds : Rows.ModelAddsUptoSaid := modelAdds_said model_mk
#print axioms modelAdds_holds
end Go.Proofs.YtanompfdjfgfbaaGreat
