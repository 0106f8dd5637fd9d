/- The law CheckSound of layer 9, of the program that landed. -/
import Derived.Test.YtcdjjengkdbngaaKc18
import Derived.Test.YtcdjjengkdbngaaKc42
import Derived.Test.YtcdjjengkdbngaaKc53
namespace Go.Proofs.Ytcdjjengkdbngaa
theorem checkC_all : CheckC := fun _ _ ao co cp cc ls cs wf w h1 h2 h3 h4 h5 h6 h7 h8 => ck_check ao co cp cc ls cs wf w h1 h2 h3 h4 h5 h6 h7 h8
theorem checkSound_done : Rows.CheckSoundUptoSaid := checkSound_of model_mks checkC_all ck_all cg_all
end Go.Proofs.Ytcdjjengkdbngaa
