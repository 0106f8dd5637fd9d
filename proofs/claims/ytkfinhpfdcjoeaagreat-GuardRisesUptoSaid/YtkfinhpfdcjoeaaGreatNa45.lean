/- Texts that the proof leans on, in one: PmFollow, PmTake1. -/
import Derived.Test.YtkfinhpfdcjoeaaGreatNa43
import Derived.Test.YtkfinhpfdcjoeaaGreatNa44
/- A fact is followed: what came by it. -/
namespace Go.Proofs.YtkfinhpfdcjoeaaGreat
section
open Go.RowKit Go.Maps
theorem fact_new2 (w:World) (q:FactB):FactsAt (fun i=>i=w.heap.size) (w.alloc (.cells #[.string ⟨q.1.1.toArray⟩,.string ⟨q.1.2.toArray⟩,.string ⟨q.2.toArray⟩] 144)) (some ⟨w.heap.size,0,none⟩) [q]:=fun i hi=>by
 have:i=0:=by simp at hi;omega
 subst this
 exact⟨w.heap.size,0,rfl,rfl,fact_at_blk (f:=q) (heap_alloc_new w _)⟩
def pfolSpecs (g A m lo:Nat) (f:FactB) (y:Option Nat) (xs:List CredB):List Spec:=[.eq (.pointer (some ⟨g,0,none⟩)),.any,.any,.eq (.pointer (some ⟨A,0,none⟩)),.any,.any,.any,.any,.eq (.pointer (some ⟨g,0,none⟩)),.eq (.pointer (some ⟨g,0,none⟩)),.eq (.pointer (some ⟨g,1,none⟩)),.eq (.map (some m)),.eq (.pointer (some ⟨A,0,none⟩)),.eq (.agg #[.string ⟨f.1.1.toArray⟩,.string ⟨f.1.2.toArray⟩]),.eq (.map y),.rng ktC unitElem lo y xs,.any,.any,.any,.any,.any,.any,.any,.any,.any,.any,.any,.any,.any,.any,.any,.any,.any,.any,.any,.any,.any,.any,.any,.any,.any,.any,.any,.any,.any,.any,.any,.any,.any,.any,.any,.any,.any,.any,.any,.any,.any,.any,.any,.any]
def pfolSpecs6 (g A m lo:Nat) (f:FactB) (y:Option Nat) (xs:List CredB):List Spec:=[.eq (.pointer (some ⟨g,0,none⟩)),.any,.any,.eq (.pointer (some ⟨A,0,none⟩)),.any,.any,.any,.any,.any,.any,.any,.any,.any,.any,.any,.any,.any,.any,.any,.any,.any,.any,.any,.any,.any,.any,.any,.any,.any,.eq (.pointer (some ⟨g,0,none⟩)),.eq (.pointer (some ⟨g,0,none⟩)),.eq (.pointer (some ⟨g,2,none⟩)),.eq (.map (some m)),.eq (.pointer (some ⟨A,0,none⟩)),.eq (.pointer (some ⟨A,1,none⟩)),.eq (.string ⟨f.1.2.toArray⟩),.eq (.map y),.rng ktC unitElem lo y xs,.any,.any,.any,.any,.any,.any,.any,.any,.any,.any,.any,.any,.any,.any,.any,.any,.any,.any,.any,.any,.any,.any]
/-- What following leaves. -/
def FolPost (ls:List CredB) (K O:Nat→Prop) (g:Nat) (F:List FactB) (n2 n3:Nat) (T:List CredB) (f:FactB) (w:World) (e:Ending) (w':World):Prop:=
 ∃v cs O',e = .returned v∧GrowI ls K O g F n2 (leanR T) n3 (linkR T) w w' v cs O'∧FollowedF T F (F++cs) f
set_option maxRecDepth 100000 in
set_option maxHeartbeats 4000000 in
theorem pfollow {K O:Nat→Prop} (ls:List CredB) (g:Nat) (F:List FactB) {n2 n3:Nat} (T:List CredB) (f:FactB) (w:World) (h:MS K O w g F n2 (leanR T) n3 (linkR T)) (hl:ls.length≤1000) (hnd:F.Nodup) (hF:∀f∈F,Der ls f) (hf:f∈F) (hT:∀c∈T,c∈ls) :
  Calls Tryz.prog 83 #[.pointer (some ⟨g,0,none⟩),.agg #[.string ⟨f.1.1.toArray⟩,.string ⟨f.1.2.toArray⟩,.string ⟨f.2.toArray⟩]] w (FolPost ls K O g F n2 n3 T f w):=by
 have hc1:=alc w (.cells #[.string ⟨f.1.1.toArray⟩,.string ⟨f.1.2.toArray⟩,.string ⟨f.2.toArray⟩] 144)
 have hb1:(w.alloc (.cells #[.string ⟨f.1.1.toArray⟩,.string ⟨f.1.2.toArray⟩,.string ⟨f.2.toArray⟩] 144)).heap[w.heap.size]? = some (.cells #[.string ⟨f.1.1.toArray⟩,.string ⟨f.1.2.toArray⟩,.string ⟨f.2.toArray⟩] 144 (0,0)):=heap_alloc_new w _
 have hms1:=h.quiet hc1
 have hsh:=der_short (hF f hf)
 obtain⟨m,y,xs,z0,hxs,hxc,hyK,hl1,hl2⟩:=hms1.leanRow (r:=f.1) ⟨by omega,by omega⟩
 simp only[ktR]at hl1
 have z1:=bC hb1 0
 have z2:=bC hb1 1
 simp only[lA,lZ,lS]at z1 z2
 have HX:=hid (aI z0 (aI z1 z2))
 have HL:=hid (aI hl1 hl2)
 have HXC:=hid (aI hxc (aI hxs hyK))
 have HB0:=hid (aI hl (aI hb1 (aI (show ¬O w.heap.size from fun e=>by have:=h.lo _ e;omega) (aI hsh (aI hf hT)))))
 have HG0:=hid (GrowI.start hms1 hnd hF)
 have HCW:=hid hc1
 have HLO:=hid (Nat.le_refl (w.alloc (.cells #[.string ⟨f.1.1.toArray⟩,.string ⟨f.1.2.toArray⟩,.string ⟨f.2.toArray⟩] 144)).heap.size)
 clear hc1 hb1 hms1 hsh z0 z1 z2 hxs hxc hyK hl1 hl2 h hl hnd hF hf hT
 go_enter Tryz.func83,Tryz.ntmps83
 go_wp2_with fail
 generalize (w.alloc (.cells #[.string ⟨f.1.1.toArray⟩,.string ⟨f.1.2.toArray⟩,.string ⟨f.2.toArray⟩] 144))=w1 at *
 obtain⟨A,hAe⟩:∃A,w.heap.size=A:=⟨_,rfl⟩
 simp only[hAe]at HX HB0 ⊢
 clear hAe
 have HB:=HB0
 clear HB0
 refine wp_region_specs (pfolSpecs g A m w1.heap.size f y xs) [8,9,10,11,12,13,14,15] [0,3] (by kernel_rfl) (by kernel_rfl) (by rfl) (by kernel_rfl) ?start ?obs ?fin
 case start=>
  simp only[List.forall_mem_cons];exact⟨⟨_,rfl,rfl⟩,⟨_,rfl,rfl⟩,fun _ h=>by cases h⟩
 case obs=>
  clear HB HXC HG0 HCW
  refine Obs.cons none (by kernel_rfl) ?_ ?_
  ·refine Ob.plain fun a w hR hk K k=>?_
   obtain⟨_,e0,f0⟩:=hk 0 (by decide)
   clear hk
   go_simp
   exact k _ _ R0 f0
  refine Obs.cons none (by kernel_rfl) ?_ ?_
  ·refine Ob.plain fun a w hR hk K k=>?_
   obtain⟨_,e8,rfl⟩:=hk 8 (by decide)
   clear hk
   go_simp
   exact k _ _ R0 rfl
  refine Obs.cons none (by kernel_rfl) ?_ ?_
  ·refine Ob.plain fun a w hR hk K k=>?_
   obtain⟨_,e9,rfl⟩:=hk 9 (by decide)
   clear hk
   go_simp
   exact k _ _ R0 rfl
  refine Obs.cons none (by kernel_rfl) ?_ ?_
  ·refine Ob.plain fun a w hR hk K k=>?_
   obtain⟨_,e10,rfl⟩:=hk 10 (by decide)
   clear hk
   have zz:=hR.cell HX.out.1 id
   go_simp
   exact k _ _ R0 rfl
  refine Obs.cons none (by kernel_rfl) ?_ ?_
  ·refine Ob.plain fun a w hR hk K k=>?_
   obtain⟨_,e3,rfl⟩:=hk 3 (by decide)
   clear hk
   go_simp
   exact k _ _ R0 rfl
  refine Obs.cons none (by kernel_rfl) ?_ ?_
  ·refine Ob.plain fun a w hR hk K k=>?_
   obtain⟨_,e12,rfl⟩:=hk 12 (by decide)
   clear hk
   have z0:=hR.cell HX.out.2.1 id
   have z1:=hR.cell HX.out.2.2 id
   go_simp
   exact k _ _ R0 rfl
  refine Obs.cons none (by kernel_rfl) ?_ ?_
  ·refine Ob.plain fun a w hR hk K k=>?_
   obtain⟨_,e11,rfl⟩:=hk 11 (by decide)
   obtain⟨_,e13,rfl⟩:=hk 13 (by decide)
   clear hk
   have q:=HL.out.1 w hR
   go_simp
   exact k _ _ R0 rfl
  refine Obs.cons none (by kernel_rfl) ?_ ?_
  ·refine Ob.plain fun a w hR hk K k=>?_
   obtain⟨_,e14,rfl⟩:=hk 14 (by decide)
   clear hk
   obtain⟨w5,cnt,q1,q2,q3⟩:=HL.out.2 w hR
   have hsz:=Nat.le_trans HLO.out hR.size
   go_simp
   exact k _ _ q3 ⟨_,_,rfl,hsz,q2⟩
  exact Obs.nil
 case fin=>
  intro vals w9 hc9 hv
  obtain⟨r,cnt0,h15,hlo,hrg⟩:=hv 15 (by decide)
  simp only[putAll,List.setIfInBounds_toArray,List.set_cons_zero,List.set_cons_succ,h15]
  have HS0:Hid (GrowI ls K O g F n2 (leanR T) n3 (linkR T) w1 w9 (.slice none 0 0) [] O∧¬O r):=hid ⟨HG0.out.quiet hc9,fun e=>by have:=HG0.out.ms.lo r e;omega⟩
  have HRG:=hid hrg
  have HRL:=hid hlo
  clear hv h15 hc9 hlo hrg HX HL HG0
  go_wp2
  go_loopw [5] (fun v wr=>∃(rest:List CredB) (cnt:Nat) (cs:List FactB) (O1:Nat→Prop),KRange ktC unitElem wr y r rest cnt∧GrowI ls K O g F n2 (leanR T) n3 (linkR T) w1 wr v cs O1∧¬O1 r∧(∀k,v.ownBlock=some k→k≠r)∧(∀c∈rest,c∈xs)∧(∀c∈xs,c∉rest→∀q,StepOf F c f.2 q→q∈F++cs)) (fun _ wr=>krLeft wr y r)
  case atStart=>exact⟨xs,cnt0,[],O,HRG.out,HS0.out.1,HS0.out.2,fun k h=>(by cases h),fun _ h=>h,fun c h1 h2=>absurd h1 h2⟩
  case round=>
   clear HS0
   obtain⟨rest,cnt,cs,O1,hrg,hg,hrO,hv,hsub,hdone⟩:=hrel
   have HI:=hid (aI hg (aI hrO (aI hv (aI hsub hdone))))
   have HQ:=hid hrg
   clear hg hrO hv hsub hdone
   go_wp2_with (at_next;refine wpList_next_k _ rfl (.tmp 15) rfl ktC unitElem y r rest cnt rfl HQ.out ?_ ?_)
   ·intro hrest
    have HST:Hid (∀c,leanR T f.1 c→∀q,StepOf F c f.2 q→q∈F++cs):=hid (fun c hc=>HI.out.2.2.2.2 c ((HXC.out.2.1 c).2 hc) (by rw[hrest];simp))
    have HG:=hid (aI HI.out.1 HI.out.1.chg.size)
    clear hrest hrg HRG HRL HI HQ HXC
    obtain⟨m',y',xs',z0,hxs,hxc,hyK,hl1,hl2⟩:=HG.out.1.ms.linkRow (r:=f.1.2) (by have:=HB.out.2.2.2.1;show f.1.2.length≤_;omega)
    simp only[ktS]at hl1
    have hbA:=HG.out.1.blk HB.out.2.1 HB.out.2.2.1
    have z1:=bC hbA 1
    simp only[lA,lZ,lS]at z1
    have HX:=hid (aI z0 z1)
    have HL:=hid (aI hl1 hl2)
    have HXC:=hid (aI hxc (aI hxs hyK))
    have HLO:=hid (Nat.le_refl wr.heap.size)
    clear z0 z1 hxs hxc hyK hl1 hl2 hbA
    go_wp2_with fail
    refine wp_region_specs (pfolSpecs6 g A m' wr.heap.size f y' xs') [29,30,31,32,33,34,35,36,37] [0,3] (by kernel_rfl) (by kernel_rfl) (by rfl) (by kernel_rfl) ?start6 ?obs6 ?fin6
    case start6=>
     simp only[List.forall_mem_cons];exact⟨⟨_,rfl,rfl⟩,⟨_,rfl,rfl⟩,fun _ h=>by cases h⟩
    case obs6=>
     clear HB HXC HG HCW HST
     refine Obs.cons none (by kernel_rfl) ?_ ?_
     ·refine Ob.plain fun a w hR hk K k=>?_
      obtain⟨_,e0,f0⟩:=hk 0 (by decide)
      clear hk
      go_simp
      exact k _ _ R0 f0
     refine Obs.cons none (by kernel_rfl) ?_ ?_
     ·refine Ob.plain fun a w hR hk K k=>?_
      obtain⟨_,e29,rfl⟩:=hk 29 (by decide)
      clear hk
      go_simp
      exact k _ _ R0 rfl
     refine Obs.cons none (by kernel_rfl) ?_ ?_
     ·refine Ob.plain fun a w hR hk K k=>?_
      obtain⟨_,e30,rfl⟩:=hk 30 (by decide)
      clear hk
      go_simp
      exact k _ _ R0 rfl
     refine Obs.cons none (by kernel_rfl) ?_ ?_
     ·refine Ob.plain fun a w hR hk K k=>?_
      obtain⟨_,e31,rfl⟩:=hk 31 (by decide)
      clear hk
      have zz:=hR.cell HX.out.1 id
      go_simp
      exact k _ _ R0 rfl
     refine Obs.cons none (by kernel_rfl) ?_ ?_
     ·refine Ob.plain fun a w hR hk K k=>?_
      obtain⟨_,e3,rfl⟩:=hk 3 (by decide)
      clear hk
      go_simp
      exact k _ _ R0 rfl
     refine Obs.cons none (by kernel_rfl) ?_ ?_
     ·refine Ob.plain fun a w hR hk K k=>?_
      obtain⟨_,e33,rfl⟩:=hk 33 (by decide)
      clear hk
      go_simp
      exact k _ _ R0 rfl
     refine Obs.cons none (by kernel_rfl) ?_ ?_
     ·refine Ob.plain fun a w hR hk K k=>?_
      obtain⟨_,e34,rfl⟩:=hk 34 (by decide)
      clear hk
      have z1:=hR.cell HX.out.2 id
      go_simp
      exact k _ _ R0 rfl
     refine Obs.cons none (by kernel_rfl) ?_ ?_
     ·refine Ob.plain fun a w hR hk K k=>?_
      obtain⟨_,e32,rfl⟩:=hk 32 (by decide)
      obtain⟨_,e35,rfl⟩:=hk 35 (by decide)
      clear hk
      have q:=HL.out.1 w hR
      go_simp
      exact k _ _ R0 rfl
     refine Obs.cons none (by kernel_rfl) ?_ ?_
     ·refine Ob.plain fun a w hR hk K k=>?_
      obtain⟨_,e36,rfl⟩:=hk 36 (by decide)
      clear hk
      obtain⟨w5,cnt,q1,q2,q3⟩:=HL.out.2 w hR
      have hsz:=Nat.le_trans HLO.out hR.size
      go_simp
      exact k _ _ q3 ⟨_,_,rfl,hsz,q2⟩
     exact Obs.nil
    case fin6=>
     intro vals w10 hc9 hv
     obtain⟨r,cnt0,h37,hlo,hrg⟩:=hv 37 (by decide)
     simp only[putAll,List.setIfInBounds_toArray,List.set_cons_zero,List.set_cons_succ,h37]
     obtain⟨y,hy⟩:∃y,y=y':=⟨_,rfl⟩
     obtain⟨xs,hxs⟩:∃xs,xs=xs':=⟨_,rfl⟩
     rw[←hy,←hxs]at hrg HXC
     clear hy hxs
     have HS0:Hid (GrowI ls K O g F n2 (leanR T) n3 (linkR T) w1 w10 u5 cs O1∧¬O1 r∧(∀k,u5.ownBlock=some k→k≠r)):=hid ⟨HG.out.1.quiet hc9,fun e=>by have:=HG.out.1.ms.lo r e;omega,fun k hk e=>by have:=(HG.out.1.came.own.blt hk).2;omega⟩
     have HRG:=hid hrg
     have HRL:Hid (w1.heap.size≤r):=hid (Nat.le_trans HG.out.2 hlo)
     clear hv h37 hc9 hlo hrg HX HL
     go_wp2
     go_loopw [5] (fun v wr=>∃(rest:List CredB) (cnt:Nat) (cs:List FactB) (O1:Nat→Prop),KRange ktC unitElem wr y r rest cnt∧GrowI ls K O g F n2 (leanR T) n3 (linkR T) w1 wr v cs O1∧¬O1 r∧(∀k,v.ownBlock=some k→k≠r)∧(∀c∈rest,c∈xs)∧(∀c,leanR T f.1 c→∀q,StepOf F c f.2 q→q∈F++cs)∧(∀c∈xs,c∉rest→(c.b,f.1.1)∈F→(c.head,f.2)∈F++cs)) (fun _ wr=>krLeft wr y r)
     case atStart=>exact⟨xs,cnt0,cs,O1,HRG.out,HS0.out.1,HS0.out.2.1,HS0.out.2.2,fun _ h=>h,HST.out,fun c h1 h2=>absurd h1 h2⟩
     case round=>
      clear HG HS0 HST
      obtain⟨rest,cnt,cs,O1,hrg,hg,hrO,hv,hsub,hst1,hdone⟩:=hrel
      have HI:=hid (aI hg (aI hrO (aI hv (aI hsub (aI hst1 hdone)))))
      have HQ:=hid hrg
      clear hg hrO hv hsub hst1 hdone
      go_wp2_with (at_next;refine wpList_next_k _ rfl (.tmp 37) rfl ktC unitElem y r rest cnt rfl HQ.out ?_ ?_)
      ·intro hrest
       have HE:=hid hrest
       clear hrest hrg
       go_wp2
       go_ret
       obtain⟨hg,hrO,hv,hsub,hst1,hdone⟩:=HI.out
       refine⟨_,cs,O1,rfl,hg.base HCW.out,followed_of_steps HB.out.2.2.2.2.1 hst1 (fun c hc hcb=>hdone c ((HXC.out.2.1 c).2 hc) (by rw[HE.out];simp) hcb)⟩
      ·intro x cv ya yb w5 cnt5 hx hcv hrg5 hlt5 hc5 hsz5 hent
       obtain⟨rfl,_⟩:=unitElem_inv hcv
       obtain⟨hg,hrO,hv,hsub,hst1,hdone⟩:=HI.out
       have hg5:=hg.iter hc5 HRL.out hrO hv
       have hw6:=alc w5 (.cells #[.int .i64 x.kind,.string ⟨x.head.1.toArray⟩,.string ⟨x.head.2.toArray⟩,.string ⟨x.who.toArray⟩,.string ⟨x.b.1.toArray⟩,.string ⟨x.b.2.toArray⟩,.string ⟨x.c.1.toArray⟩,.string ⟨x.c.2.toArray⟩,.string ⟨x.w2.toArray⟩] 34)
       have hg6:=hg5.quiet hw6
       have hrg6:=hrg5.keep hw6 (fun _ _=>id) id
       have hcx:=HXC.out.1 x (hsub x hx)
       have hlx:=(HXC.out.2.1 x).1 (hsub x hx)
       have hsh:=isCred_short hcx
       unfold credShort at hsh
       have hfew:=hg6.few HB.out.1
       have hbA:=hg6.blk HB.out.2.1 HB.out.2.2.1
       have x0:=bC hbA 0
       simp only[lA,lZ]at x0
       have hbX:(w5.alloc (.cells #[.int .i64 x.kind,.string ⟨x.head.1.toArray⟩,.string ⟨x.head.2.toArray⟩,.string ⟨x.who.toArray⟩,.string ⟨x.b.1.toArray⟩,.string ⟨x.b.2.toArray⟩,.string ⟨x.c.1.toArray⟩,.string ⟨x.c.2.toArray⟩,.string ⟨x.w2.toArray⟩] 34)).heap[w5.heap.size]? = some (.cells (credBox x) 34 (0,0)):=heap_alloc_new w5 _
       obtain⟨c0,c1,c2,c3,c4,c5,c6,c7,c8⟩:=cred_at_blk hbX
       simp only[Nat.zero_add]at c0 c1 c2 c3 c4 c5 c6 c7 c8
       have q1:=pin g (F++cs) x.b f.1.1 (w5.alloc (.cells #[.int .i64 x.kind,.string ⟨x.head.1.toArray⟩,.string ⟨x.head.2.toArray⟩,.string ⟨x.who.toArray⟩,.string ⟨x.b.1.toArray⟩,.string ⟨x.b.2.toArray⟩,.string ⟨x.c.1.toArray⟩,.string ⟨x.c.2.toArray⟩,.string ⟨x.w2.toArray⟩] 34)) hg6.ms ⟨by omega,by omega⟩ (by have:=HB.out.2.2.2.1;show f.1.1.length≤_;omega)
       have HJ:=hid (aI hg6 (aI hrg6 (aI hlt5 (aI hx (aI hcx (aI hlx hsub))))))
       simp only[ktC,credV,credBox]at hent
       by_cases hin:(x.b,f.1.1)∈F++cs
       ·simp only[hin,decide_true]at q1
        have HQ1:=hid q1
        have HBX:=hid (aI hbX hbA)
        have HIN:=hid hin
        clear hg hrO hv hsub hst1 hdone hg5 hw6 hg6 hrg6 hcx hlx hsh hfew hbA hbX q1 hx hcv hrg5 hlt5 hc5 hsz5 hrg hin
        go_wp2_with fail
        refine HQ1.out.mono ?_
        rintro e w7 ⟨rfl,hc7⟩
        clear c0 c1 c2 c3 c4 c5 c6 c7 c8 x0 hent HQ1
        obtain⟨c0,c1,c2,c3,c4,c5,c6,c7,c8⟩:=cred_at_blk (bE HBX.out.1 hc7 id)
        simp only[Nat.zero_add]at c0 c1 c2 c3 c4 c5 c6 c7 c8
        have x2:=bC (bE HBX.out.2 hc7 id) 2
        simp only[lA,lZ,lS]at x2
        have HP:Hid (Calls Tryz.prog 102 #[.pointer (some ⟨g,0,none⟩),.slice (some ⟨w7.heap.size,0,none⟩) 1 1] (w7.alloc (.cells #[.string ⟨x.head.1.toArray⟩,.string ⟨x.head.2.toArray⟩,.string ⟨f.2.toArray⟩] 144)) fun e w8=>∃v9,e = .returned v9∧GrowPut ls K O g F n2 (leanR T) n3 (linkR T) w1 u5 cs O1 [(x.head,f.2)] (w7.alloc (.cells #[.string ⟨x.head.1.toArray⟩,.string ⟨x.head.2.toArray⟩,.string ⟨f.2.toArray⟩] 144)) w8 v9):=hid (by
         obtain⟨hg6,hrg6,hlt5,hx,hcx,hlx,hsub⟩:=HJ.out
         have hwa:=alc w7 (.cells #[.string ⟨x.head.1.toArray⟩,.string ⟨x.head.2.toArray⟩,.string ⟨f.2.toArray⟩] 144)
         have hg7:=hg6.quiet hc7
         have hg8:=hg7.quiet hwa
         have hH:∀q∈[(x.head,f.2)],Der ls q:=fun q hq=>by
          rw[List.mem_singleton]at hq
          subst hq
          refine .link (HB.out.2.2.2.2.2 x hlx.1) hcx hlx.2.2.1 (hg6.der _ HIN.out) ?_
          rw[hlx.2.2.2]
          exact hg6.der f (List.mem_append_left _ HB.out.2.2.2.2.1)
         refine(pput ls g (F++cs) (some ⟨w7.heap.size,0,none⟩) 1 [(x.head,f.2)] _ hg8.ms HB.out.1 hg8.nd hg8.der hH (fact_new2 w7 (x.head,f.2)) (fun i hi=>⟨fun h=>by have:=hg7.ms.lo i h;have:i=w7.heap.size:=hi;omega,by have:i=w7.heap.size:=hi;rw[this];simp⟩) (by simp)).mono ?_
         rintro e w8 ⟨v9,rfl,hp⟩
         exact⟨v9,rfl,hg8.put HB.out.1 hH hp⟩)
        have HK7:=hid hc7
        clear hc7
        go_wp2_with fail
        refine HP.out.mono ?_
        rintro e w8 ⟨v9,rfl,hp⟩
        clear c0 c1 c2 c3 c4 c5 c6 c7 c8 x2
        obtain⟨ao2,cap2,cs2,O2,rfl,h0,hf2,hcm,hlo,hsz,hfew,hg2,hc8,hnext⟩:=hp
        have HR:Hid (¬O2 r∧r<w8.heap.size∧KRange ktC unitElem w8 y r (rest.filter (fun z=>!decide (z=x))) cnt5):=hid (by
         obtain⟨hg6,hrg6,hlt5,hx,hcx,hlx,hsub⟩:=HJ.out
         have hrg7:=(hrg6.keep HK7.out (fun _ _=>id) id).keep ((Chg.refl (fun _=>False) w7).alloc (.cells #[.string ⟨x.head.1.toArray⟩,.string ⟨x.head.2.toArray⟩,.string ⟨f.2.toArray⟩] 144)) (fun _ _=>id) id
         have hn:=hg2.not hrg7.lt HI.out.2.1
         have hrg8:=hrg7.keep hc8 (fun b e h=>h.2 (HXC.out.2.2 b e)) (fun h=>HI.out.2.1 h.1)
         exact⟨hn,hrg8.lt,hrg8⟩)
        have HF2:=hid (aI h0 (aI hf2 (aI (hcm.more HI.out.2.2.1) (aI (show ∀i,O2 i∨i=r→i<w8.heap.size from fun i hi=>hi.elim (hlo i) (fun e=>by rw[e];exact HR.out.2.1)) (aI hsz (aI hfew hnext))))))
        clear h0 hf2 hcm hlo hsz hfew hg2 hc8 hnext HP
        go_wp2_with (at_builtin;refine wpList_append_facts (O:=fun i=>O2 i∨i=r) rfl (.tmp 49) (.tmp 57) rfl w1.heap.size u5 cs rfl HF2.out.2.2.1 HF2.out.2.2.2.1 ao2 cap2 cs2 rfl HF2.out.2.1 HF2.out.1 ?c1 ?c2 ?_)
        case c1=>have:=HF2.out.2.2.2.2.2.1;omega
        case c2=>exact HF2.out.2.2.2.2.1
        intro v' w3 hown hc3
        have hnx:=HF2.out.2.2.2.2.2.2 v' w3 hown.less.1 (hc3.mono (fun i _ h=>⟨h.1,h.2.1⟩))
        have HY:=hid (aI hown.less.2 (aI hnx (HR.out.2.2.keep hc3 (fun b e h=>h.2.1 (hnx.1.ms.ko b (HXC.out.2.2 b e))) (fun h=>h.2.2 rfl))))
        clear hown hc3 hnx
        go_wp2
        go_roundw
        case rel=>
         obtain⟨hg6,hrg6,hlt5,hx,hcx,hlx,hsub⟩:=HJ.out
         have hmono:∀q,q∈F++cs→q∈F++(cs++cs2):=fun q hq=>(HY.out.2.1.2 q).2 (.inl hq)
         refine⟨_,cnt5,_,O2,HY.out.2.2,HY.out.2.1.1,HR.out.1,HY.out.1,fun z hz=>hsub z (List.mem_filter.1 hz).1,fun c hc q hq=>hmono q (HI.out.2.2.2.2.1 c hc q hq),fun c hc hn hcb=>?_⟩
         by_cases hcr:c∈rest
         ·have hcx2:c=x:=by
           by_cases e:c=x
           ·exact e
           ·exact absurd (List.mem_filter.2 ⟨hcr,by simpa using e⟩) hn
          subst hcx2
          exact(HY.out.2.1.2 _).2 (.inr (by simp))
         ·exact hmono _ (HI.out.2.2.2.2.2 c hc hcr hcb)
        case measure=>
         rw[HY.out.2.2.left_eq,HQ.out.left_eq]
         exact HJ.out.2.2.1
       ·simp only[hin,decide_false]at q1
        have HQ1:=hid q1
        have HIN:=hid hin
        clear hg hrO hv hsub hst1 hdone hg5 hw6 hg6 hrg6 hcx hlx hsh hfew hbA hbX q1 hx hcv hrg5 hlt5 hc5 hsz5 hrg hin
        go_wp2_with fail
        refine HQ1.out.mono ?_
        rintro e w7 ⟨rfl,hc7⟩
        clear c0 c1 c2 c3 c4 c5 c6 c7 c8 x0 hent HQ1
        have HK7:=hid hc7
        clear hc7
        go_wp2
        go_roundw
        case rel=>
         obtain⟨hg6,hrg6,hlt5,hx,hcx,hlx,hsub⟩:=HJ.out
         refine⟨_,cnt5,cs,O1,hrg6.keep HK7.out (fun _ _=>id) id,hg6.quiet HK7.out,HI.out.2.1,HI.out.2.2.1,fun z hz=>hsub z (List.mem_filter.1 hz).1,HI.out.2.2.2.2.1,fun c hc hn hcb=>?_⟩
         by_cases hcr:c∈rest
         ·have hcx2:c=x:=by
           by_cases e:c=x
           ·exact e
           ·exact absurd (List.mem_filter.2 ⟨hcr,by simpa using e⟩) hn
          subst hcx2
          exact absurd (List.mem_append_left _ hcb) HIN.out
         ·exact HI.out.2.2.2.2.2 c hc hcr hcb
        case measure=>
         rw[(HJ.out.2.1.keep HK7.out (fun _ _=>id) id).left_eq,HQ.out.left_eq]
         exact HJ.out.2.2.1
   ·intro x cv ya yb w5 cnt5 hx hcv hrg5 hlt5 hc5 hsz5 hent
    obtain⟨rfl,_⟩:=unitElem_inv hcv
    obtain⟨hg,hrO,hv,hsub,hdone⟩:=HI.out
    have hg5:=hg.iter hc5 HRL.out hrO hv
    have hw6:=alc w5 (.cells #[.int .i64 x.kind,.string ⟨x.head.1.toArray⟩,.string ⟨x.head.2.toArray⟩,.string ⟨x.who.toArray⟩,.string ⟨x.b.1.toArray⟩,.string ⟨x.b.2.toArray⟩,.string ⟨x.c.1.toArray⟩,.string ⟨x.c.2.toArray⟩,.string ⟨x.w2.toArray⟩] 34)
    have hg6:=hg5.quiet hw6
    have hrg6:=hrg5.keep hw6 (fun _ _=>id) id
    have hcx:=HXC.out.1 x (hsub x hx)
    have hlx:=(HXC.out.2.1 x).1 (hsub x hx)
    have hfew:=hg6.few HB.out.1
    have hbA:=hg6.blk HB.out.2.1 HB.out.2.2.1
    have x2:=bC hbA 2
    simp only[lA,lZ,lS]at x2
    have hbX:(w5.alloc (.cells #[.int .i64 x.kind,.string ⟨x.head.1.toArray⟩,.string ⟨x.head.2.toArray⟩,.string ⟨x.who.toArray⟩,.string ⟨x.b.1.toArray⟩,.string ⟨x.b.2.toArray⟩,.string ⟨x.c.1.toArray⟩,.string ⟨x.c.2.toArray⟩,.string ⟨x.w2.toArray⟩] 34)).heap[w5.heap.size]? = some (.cells (credBox x) 34 (0,0)):=heap_alloc_new w5 _
    obtain⟨c0,c1,c2,c3,c4,c5,c6,c7,c8⟩:=cred_at_blk hbX
    simp only[Nat.zero_add]at c0 c1 c2 c3 c4 c5 c6 c7 c8
    have q1:=pstep g (F++cs) x f.2 (w5.alloc (.cells #[.int .i64 x.kind,.string ⟨x.head.1.toArray⟩,.string ⟨x.head.2.toArray⟩,.string ⟨x.who.toArray⟩,.string ⟨x.b.1.toArray⟩,.string ⟨x.b.2.toArray⟩,.string ⟨x.c.1.toArray⟩,.string ⟨x.c.2.toArray⟩,.string ⟨x.w2.toArray⟩] 34)) hg6.ms hcx (by have:=HB.out.2.2.2.1;omega) (by rw[List.length_append];exact hfew)
    have HQ1:=hid q1
    have HJ:=hid (aI hg6 (aI hrg6 (aI hlt5 (aI hx (aI hcx (aI hlx hsub))))))
    simp only[ktC,credV,credBox]at hent
    clear hg hrO hv hsub hdone hg5 hw6 hg6 hrg6 hcx hlx hfew hbA hbX q1 hx hcv hrg5 hlt5 hc5 hsz5 hrg
    go_wp2_with fail
    refine HQ1.out.mono ?_
    rintro e w7 ⟨ao,cap,hs,rfl,hst,hc7,hmem,hsl⟩
    clear c0 c1 c2 c3 c4 c5 c6 c7 c8 x2 hent HQ1
    have HP:Hid (Calls Tryz.prog 102 #[.pointer (some ⟨g,0,none⟩),.slice ao hs.length cap] w7 fun e w8=>∃v9,e = .returned v9∧GrowPut ls K O g F n2 (leanR T) n3 (linkR T) w1 u5 cs O1 hs w7 w8 v9):=hid (by
     obtain⟨hg6,hrg6,hlt5,hx,hcx,hlx,hsub⟩:=HJ.out
     have hg7:=hg6.quiet hc7
     have hH:∀q∈hs,Der ls q:=fun q hq=>by
      have hb:=((hmem q).1 hq).brings (fun h4=>by
       rcases hlx.2.2.2 with h|h
       ·rw[h];exact List.mem_append_left _ HB.out.2.2.2.2.1
       ·exact absurd h.1 h4)
      exact hb.der (HB.out.2.2.2.2.2 x hlx.1) hcx (fun q hq=>hg6.der q hq)
     refine(pput ls g (F++cs) ao cap hs w7 hg7.ms HB.out.1 hg7.nd hg7.der hH hst (fun i hi=>⟨fun h=>by have:=hg6.ms.lo i h;omega,hi.2⟩) hsl).mono ?_
     rintro e w8 ⟨v9,rfl,hp⟩
     exact⟨v9,rfl,hg7.put HB.out.1 hH hp⟩)
    have HK7:=hid (aI hc7 hmem)
    clear hst hc7 hmem hsl
    go_wp2_with fail
    refine HP.out.mono ?_
    rintro e w8 ⟨v9,rfl,hp⟩
    obtain⟨ao2,cap2,cs2,O2,rfl,h0,hf2,hcm,hlo,hsz,hfew,hg2,hc8,hnext⟩:=hp
    have HR:Hid (¬O2 r∧r<w8.heap.size∧KRange ktC unitElem w8 y r (rest.filter (fun z=>!decide (z=x))) cnt5):=hid (by
     obtain⟨hg6,hrg6,hlt5,hx,hcx,hlx,hsub⟩:=HJ.out
     have hrg7:=hrg6.keep HK7.out.1 (fun _ _=>id) id
     have hn:=hg2.not hrg7.lt HI.out.2.1
     have hrg8:=hrg7.keep hc8 (fun b e h=>h.2 (HXC.out.2.2 b e)) (fun h=>HI.out.2.1 h.1)
     exact⟨hn,hrg8.lt,hrg8⟩)
    have HF2:=hid (aI h0 (aI hf2 (aI (hcm.more HI.out.2.2.1) (aI (show ∀i,O2 i∨i=r→i<w8.heap.size from fun i hi=>hi.elim (hlo i) (fun e=>by rw[e];exact HR.out.2.1)) (aI hsz (aI hfew hnext))))))
    clear h0 hf2 hcm hlo hsz hfew hg2 hc8 hnext HP
    go_wp2_with (at_builtin;refine wpList_append_facts (O:=fun i=>O2 i∨i=r) rfl (.tmp 20) (.tmp 27) rfl w1.heap.size u5 cs rfl HF2.out.2.2.1 HF2.out.2.2.2.1 ao2 cap2 cs2 rfl HF2.out.2.1 HF2.out.1 ?c1 ?c2 ?_)
    case c1=>have:=HF2.out.2.2.2.2.2.1;omega
    case c2=>exact HF2.out.2.2.2.2.1
    intro v' w3 hown hc3
    have hnx:=HF2.out.2.2.2.2.2.2 v' w3 hown.less.1 (hc3.mono (fun i _ h=>⟨h.1,h.2.1⟩))
    have HY:=hid (aI hown.less.2 (aI hnx (HR.out.2.2.keep hc3 (fun b e h=>h.2.1 (hnx.1.ms.ko b (HXC.out.2.2 b e))) (fun h=>h.2.2 rfl))))
    clear hown hc3 hnx
    go_wp2
    go_roundw
    case rel=>
     obtain⟨hg6,hrg6,hlt5,hx,hcx,hlx,hsub⟩:=HJ.out
     refine⟨_,cnt5,_,O2,HY.out.2.2,HY.out.2.1.1,HR.out.1,HY.out.1,fun z hz=>hsub z (List.mem_filter.1 hz).1,fun c hc hn q hq=>?_⟩
     rw[HY.out.2.1.2 q]
     by_cases hcr:c∈rest
     ·have hcx2:c=x:=by
       by_cases e:c=x
       ·exact e
       ·exact absurd (List.mem_filter.2 ⟨hcr,by simpa using e⟩) hn
      subst hcx2
      refine .inr ((HK7.out.2 q).2 ?_)
      refine⟨hq.1,?_⟩
      rcases hq.2 with ⟨k,h⟩|⟨k,h⟩|⟨k,h1,h2,h3⟩
      ·exact .inl ⟨k,h⟩
      ·exact .inr (.inl ⟨k,List.mem_append_left _ h⟩)
      ·exact .inr (.inr ⟨k,h1,List.mem_append_left _ h2,List.mem_append_left _ h3⟩)
     ·exact .inl (HI.out.2.2.2.2 c hc hcr q hq)
    case measure=>
     rw[HY.out.2.2.left_eq,HQ.out.left_eq]
     exact HJ.out.2.2.1
end
section
open Go.RowKit Go.Maps
set_option maxRecDepth 100000 in
set_option maxHeartbeats 4000000 in
theorem ptake1 {K O:Nat→Prop} (ls:List CredB) (g:Nat) (F:List FactB) (T:List CredB) (c:CredB) (w:World) (h:MS K O w g F (2*T.length) (leanR T) T.length (linkR T)) (hl:ls.length≤1000) (hnd:F.Nodup) (hF:∀f∈F,Der ls f) (hc:isCred c=true) (hcl:c∈ls) (hT:T.length≤1000) (hk:c.kind=1) :
  Calls Tryz.prog 82 #[.pointer (some ⟨g,0,none⟩),.agg #[.int .i64 c.kind,.string ⟨c.head.1.toArray⟩,.string ⟨c.head.2.toArray⟩,.string ⟨c.who.toArray⟩,.string ⟨c.b.1.toArray⟩,.string ⟨c.b.2.toArray⟩,.string ⟨c.c.1.toArray⟩,.string ⟨c.c.2.toArray⟩,.string ⟨c.w2.toArray⟩]] w (TakePost ls O g F T c w):=by
 have hc1:=alc w (.cells #[.int .i64 c.kind,.string ⟨c.head.1.toArray⟩,.string ⟨c.head.2.toArray⟩,.string ⟨c.who.toArray⟩,.string ⟨c.b.1.toArray⟩,.string ⟨c.b.2.toArray⟩,.string ⟨c.c.1.toArray⟩,.string ⟨c.c.2.toArray⟩,.string ⟨c.w2.toArray⟩] 34)
 have hb1:(w.alloc (.cells #[.int .i64 c.kind,.string ⟨c.head.1.toArray⟩,.string ⟨c.head.2.toArray⟩,.string ⟨c.who.toArray⟩,.string ⟨c.b.1.toArray⟩,.string ⟨c.b.2.toArray⟩,.string ⟨c.c.1.toArray⟩,.string ⟨c.c.2.toArray⟩,.string ⟨c.w2.toArray⟩] 34)).heap[w.heap.size]? = some (.cells (credBox c) 34 (0,0)):=heap_alloc_new w _
 obtain⟨c0,c1,c2,c3,c4,c5,c6,c7,c8⟩:=cred_at_blk hb1
 simp only[Nat.zero_add]at c0 c1 c2 c3 c4 c5 c6 c7 c8
 have HMS:=hid (h.quiet hc1)
 have HB:=hid (aI hl (aI hnd (aI hF (aI hc (aI hcl hT)))))
 have HBX0:=hid hb1
 have HC1:=hid hc1
 have HAO0:Hid (¬O w.heap.size):=hid (fun e=>by have:=h.lo _ e;omega)
 have HKK:=hid hk
 have d1:(c.kind==1)=true:=by rw[hk];rfl
 have d3:(c.kind==3)=false:=by rw[hk];rfl
 have d4:(c.kind==4)=false:=by rw[hk];rfl
 clear hb1 hc1 h hl hnd hF hc hcl hT hk
 have HP:Hid (Calls Tryz.prog 102 #[.pointer (some ⟨g,0,none⟩),.slice (some ⟨w.heap.size+1,0,none⟩) 1 1] ((w.alloc (.cells #[.int .i64 c.kind,.string ⟨c.head.1.toArray⟩,.string ⟨c.head.2.toArray⟩,.string ⟨c.who.toArray⟩,.string ⟨c.b.1.toArray⟩,.string ⟨c.b.2.toArray⟩,.string ⟨c.c.1.toArray⟩,.string ⟨c.c.2.toArray⟩,.string ⟨c.w2.toArray⟩] 34)).alloc (.cells #[.string ⟨c.head.1.toArray⟩,.string ⟨c.head.2.toArray⟩,.string ⟨c.who.toArray⟩] 144)) (TakePost ls O g F T c w)):=hid (by
  have hwa:=alc (w.alloc (.cells #[.int .i64 c.kind,.string ⟨c.head.1.toArray⟩,.string ⟨c.head.2.toArray⟩,.string ⟨c.who.toArray⟩,.string ⟨c.b.1.toArray⟩,.string ⟨c.b.2.toArray⟩,.string ⟨c.c.1.toArray⟩,.string ⟨c.c.2.toArray⟩,.string ⟨c.w2.toArray⟩] 34)) (.cells #[.string ⟨c.head.1.toArray⟩,.string ⟨c.head.2.toArray⟩,.string ⟨c.who.toArray⟩] 144)
  have hsz:(w.alloc (.cells #[.int .i64 c.kind,.string ⟨c.head.1.toArray⟩,.string ⟨c.head.2.toArray⟩,.string ⟨c.who.toArray⟩,.string ⟨c.b.1.toArray⟩,.string ⟨c.b.2.toArray⟩,.string ⟨c.c.1.toArray⟩,.string ⟨c.c.2.toArray⟩,.string ⟨c.w2.toArray⟩] 34)).heap.size=w.heap.size+1:=by simp
  have hst:=fact_new2 (w.alloc (.cells #[.int .i64 c.kind,.string ⟨c.head.1.toArray⟩,.string ⟨c.head.2.toArray⟩,.string ⟨c.who.toArray⟩,.string ⟨c.b.1.toArray⟩,.string ⟨c.b.2.toArray⟩,.string ⟨c.c.1.toArray⟩,.string ⟨c.c.2.toArray⟩,.string ⟨c.w2.toArray⟩] 34)) (c.head,c.who)
  rw[hsz]at hst
  have hH:∀q∈[(c.head,c.who)],Der ls q:=fun q hq=>by
   rw[List.mem_singleton]at hq
   subst hq
   exact .mem HB.out.2.2.2.2.1 HB.out.2.2.2.1 HKK.out
  have hcw:=HC1.out.trans hwa (fun _ _ h=>h)
  refine(pput ls g F (some ⟨w.heap.size+1,0,none⟩) 1 [(c.head,c.who)] _ (HMS.out.quiet hwa) HB.out.1 HB.out.2.1 HB.out.2.2.1 hH hst (fun i hi=>⟨fun h=>by have:=HMS.out.lo i h;simp at this;omega,by simp;omega⟩) (by simp)).mono ?_
  rintro e w8 ⟨v9,rfl,cs,O',p1,p2,p3,p4,p5,p6⟩
  refine⟨v9,cs,K,O',rfl,p1.low hcw.size,p2.cong (leanR_one HKK.out) (linkR_not (by have:=HKK.out;omega)) (by simp;omega) (by simp),fun i hi=>(p3 i hi).imp id (fun h=>Nat.le_trans hcw.size h),hcw.none.trans p4.up (fun _ _ h=>h),p5,fun f hf=>?_,fun _ q hq=>?_⟩
  ·rcases (p6 f).1 hf with h|h
   ·exact HB.out.2.2.1 f h
   ·exact hH f h
  ·rw[p6 q]
   obtain⟨e1,hq⟩:=hq
   have hk:=HKK.out
   rcases hq with ⟨_,h⟩|⟨k,_⟩|⟨k,_⟩|⟨k,_⟩
   ·right
    obtain⟨q1,q2⟩:=q
    simp only at e1 h
    rw[e1,h]
    simp
   ·omega
   ·omega
   ·omega)
 clear HMS HB HBX0 HAO0
 go_enter Tryz.func82,Tryz.ntmps82
 go_wp2_with fail
 refine HP.out.mono ?_
 intro e w8 hp
 have HP8:=hid hp
 clear c0 c1 c2 c3 c4 c5 c6 c7 c8 d1 d3 d4 HP hp
 obtain⟨v9,cs,K',O',rfl,hrest⟩:=HP8.out
 have HR8:=hid hrest
 clear hrest HP8
 go_wp2
 go_ret
 exact⟨v9,cs,K',O',rfl,HR8.out⟩
end
end Go.Proofs.YtkfinhpfdcjoeaaGreat
