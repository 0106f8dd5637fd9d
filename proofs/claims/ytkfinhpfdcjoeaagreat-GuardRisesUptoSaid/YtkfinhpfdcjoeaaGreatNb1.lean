/- Proved: the law GuardRises of layer 15 answers true and leaves what it was handed as it was, at every party and every two lists of credentials, as long as all that it reads is of bulk at most 1048576 (the bound of the given statement GuardRisesUptoSaid). -/
import Derived.Test.YtkfinhpfdcjoeaaGreatNa32
import Derived.Test.YtkfinhpfdcjoeaaGreatNa37
import Derived.Test.YtkfinhpfdcjoeaaGreatNa40
import Derived.Test.YtkfinhpfdcjoeaaGreatNa39
import Derived.Test.YtkfinhpfdcjoeaaGreatNa49
import Derived.Test.YtkfinhpfdcjoeaaGreatNa43
namespace Go.Proofs.YtkfinhpfdcjoeaaGreat
open Go.RowKit
theorem model_mgs:MGs MA where
 keep h hc hs:=h.keep hc hs
 of ao cp ls w hs hst _ hD:=pof ao cp ls w hs.1 hst hD
 inn g ls xs r s w h hx h1 h2 h3:=by
  obtain⟨K,O0,F,_,_,hms,hnd,hF⟩:=h
  refine(pin g F r s w hms ⟨h1,h2⟩ (by show s.length≤_;omega)).mono ?_
  rintro e w' ⟨rfl,hc⟩
  refine⟨?_,hc⟩
  have:decide ((r,s)∈F)=inM xs s r:=by
   unfold inM
   rw[Bool.eq_iff_iff,decide_eq_true_iff,decide_eq_true_iff,hF,hx.2]
  rw[this]
theorem gk:GK where
 of_ n p po pc ao ac c w hp _ hg _:=gg_of n p po pc ao ac c w hp hg
 right n p po pc ao ac w hp _ hg:=gg_right n p po pc ao ac w hp hg
 checkNil n p po pc ao ac w hp _ hg hr hne:=gg_checkNil n p po pc ao ac w hp hg hr hne
 acks n p po pc ao ac c w hp _ hg hc:=gg_acks n p po pc ao ac c w hp hg hc
 free n p po pc ao ac _ ho hc ls s w hp _ hg hst hE hz htl hsl:=gg_free model_mgs n p po pc ao ac ho hc ls s w hp hg hst hE hz htl hsl
 told n p po pc ao ac _ r ho hc ls s w hp _ hg hst hE hz htl hsl _:=gg_told model_mgs n p po pc ao ac ho hc ls s r w hp hg hst hE hz htl hsl
theorem guardRises_said:Rows.GuardRisesUptoSaid:=guardRises_of gk
end Go.Proofs.YtkfinhpfdcjoeaaGreat
