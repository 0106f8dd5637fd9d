/- Texts that the proof leans on, in one: GgRises, GgFstM. -/
import Derived.Test.YtkfinhpfdcjoeaaGreatNa20
import Derived.Test.YtkfinhpfdcjoeaaGreatNa26
import Derived.Test.YtkfinhpfdcjoeaaGreatNa37
import Derived.Test.YtkfinhpfdcjoeaaGreatNa33
import Derived.Test.YtkfinhpfdcjoeaaGreatNa6
/- The law GuardRises of layer 15, walked over the contracts of the program's guards. -/
namespace Go.Proofs.YtkfinhpfdcjoeaaGreat
section
open Go.RowKit
def Spec.freeS (p:PartyB) (ls:List CredB) (s:List UInt8):Spec:=⟨fun v w=>∃(xs:List FactB) (zs:List CredB) (zo:Option Addr) (zc:Nat),v = .slice zo zs.length zc∧ModelOf ls xs∧FreeR (inM xs s) p zs∧CredsAt (fun k=>k<w.heap.size) w zo zs,fun v w w' hc h=>by
 obtain⟨xs,zs,zo,zc,h1,h2,h3,h4⟩:=h
 exact⟨xs,zs,zo,zc,h1,h2,h3,(h4.keep hc (fun _ _=>id)).mono (fun i hi=>Nat.lt_of_lt_of_le hi hc.size)⟩⟩
def gr6 (X:Nat) (p:PartyB) (po:Option Addr) (pc:Nat) (ao:Option Addr) (ac:Nat) (ls al:List CredB) (ho q:Option Addr) (hc0 qc:Nat):List Spec:=[.any,.eq (.slice ho ls.length hc0),.any,.eq (.pointer (some ⟨X,0,none⟩)),.any,.any,.any,.eq (.slice q al.length qc),.freeS p ls [98,111,98],.freeS p al [98,111,98],.any,.any,.any,.any,.any,.any,.any,.any,.any,.any,.any,.any,.any,.any,.any,.any,.any,.any,.any,.any,.any,.any,.any,.any,.any,.any,.any,.any,.eq (.agg #[.string ⟨p.name.toArray⟩,.slice po p.creds.length pc,.slice ao p.acks.length ac]),.eq (.slice ho ls.length hc0),.freeS p ls [98,111,98],.eq (.agg #[.string ⟨p.name.toArray⟩,.slice po p.creds.length pc,.slice ao p.acks.length ac]),.eq (.slice q al.length qc),.freeS p al [98,111,98],.any,.any,.any,.any,.any,.any,.any,.any,.any,.any,.any,.any,.any,.any,.any,.any,.any,.any,.any,.any,.any,.any,.any,.any,.any,.any,.any,.any,.any,.any,.any,.any,.any,.any,.any,.any,.any,.any,.any,.any,.any,.any,.any,.any,.any,.any,.any,.any,.any,.any,.any,.any,.any,.any,.any,.any,.any,.any]
set_option maxRecDepth 100000 in
set_option maxHeartbeats 8000000 in
theorem grises_main (HK0:GK) (hfirst:∀w:World,Calls Tryz.prog 4 #[] w fun e w'=>e = .returned (.bool true)∧Chg (fun _=>False) w w')
  {D E G:Nat→Prop} (n:Nat) (p:PartyB) (po:Option Addr) (pc:Nat) (ao:Option Addr) (ac:Nat) (ho mo:Option Addr) (hc0 mc:Nat) (ls ms:List CredB) (w:World) (hp:PartyAt D w n p po pc ao ac) (hn:n≤1048577) (hG:greatP p≤4503599627370496)
  (hl:CredsAt E w ho ls) (hE:∀i,E i→i<w.heap.size) (hz:ho=none→hc0=0) (hm:CredsAt G w mo ms) (hGl:∀i,G i→i<w.heap.size) (hmz:mo=none→mc=0) (hL:totalC ls+totalC ms≤4503599627370496) :
  Calls Tryz.prog 3 #[.agg #[.string ⟨p.name.toArray⟩,.slice po p.creds.length pc,.slice ao p.acks.length ac],.slice ho ls.length hc0,.slice mo ms.length mc] w fun e w'=>e = .returned (.bool true)∧Chg (fun _=>False) w w':=by
 have hcA:=alc w (.cells #[.string ⟨p.name.toArray⟩,.slice po p.creds.length pc,.slice ao p.acks.length ac] 25)
 have hbA:=heap_alloc_new w (.cells #[.string ⟨p.name.toArray⟩,.slice po p.creds.length pc,.slice ao p.acks.length ac] 25)
 have HF:=hid hfirst
 have HK:=hid HK0
 have HP:=hid (aI hp hn)
 have HH:=hid (aI hl (aI hE (aI hz (aI hm (aI hGl (aI hmz hL))))))
 have HB:=hid (aI hbA hcA)
 clear hcA hbA hfirst HK0 hp hl hE hz hm hGl hmz
 go_enter Tryz.func3,Tryz.ntmps3
 go_wp2_with fail
 refine(HF.out _).mono ?_
 rintro e w2 ⟨rfl,hc2⟩
 generalize (w.alloc (.cells #[.string ⟨p.name.toArray⟩,.slice po p.creds.length pc,.slice ao p.acks.length ac] 25))=w1 at *
 generalize hXe:w.heap.size=X at *
 have HXE:=hid hXe
 clear hXe
 have HB2:=hid (aI (bE HB.out.1 hc2 id) (HB.out.2.trans hc2 (fun _ _ h=>h)))
 clear hc2 HB HF
 have y0:=bC HB2.out.1 0
 have y1:=bC HB2.out.1 1
 have y2:=bC HB2.out.1 2
 simp only[lA,lZ,lS]at y0 y1 y2
 have HGR:=hid (gg_great n p po pc ao ac w2 (HP.out.1.keep HB2.out.2 (fun _ _=>id)) hG)
 go_wp2_with fail
 refine HGR.out.mono ?_
 rintro e w3 ⟨rfl,hc3⟩
 clear y0 y1 y2 HGR
 have HB3:=hid (aI (bE HB2.out.1 hc3 id) (HB2.out.2.trans hc3 (fun _ _ h=>h)))
 clear hc3 HB2
 by_cases hg:4000<greatP p
 ·have z1:decide ((4000:Int)<(greatP p:Int))=true:=decide_eq_true (by omega)
  go_wp2
  go_ret
  exact⟨rfl,HB3.out.2⟩
 have z1:decide ((4000:Int)<(greatP p:Int))=false:=decide_eq_false (by omega)
 have HPG:Hid (greatP p≤4000):=hid (by omega)
 have HCL:Hid (p.creds.length≤4000):=hid (by have:=gsum_len p.creds;have h9:greatP p=p.name.length+(gsum p.creds+asum p.acks):=rfl;omega)
 have HG1:=hid (great_any ho hc0 ls w3 (by have:=HH.out.2.2.2.2.2.2;omega) (HH.out.1.keep HB3.out.2 (fun _ _=>id)))
 go_wp2_with fail
 refine HG1.out.mono ?_
 rintro e w4 ⟨rfl,hc4⟩
 have HB4:=hid (aI (bE HB3.out.1 hc4 id) (HB3.out.2.trans hc4 (fun _ _ h=>h)))
 have HG2:=hid (great_any mo mc ms w4 (by have:=HH.out.2.2.2.2.2.2;omega) (HH.out.2.2.2.1.keep HB4.out.2 (fun _ _=>id)))
 clear hc4 HG1 HB3
 go_wp2_with fail
 refine HG2.out.mono ?_
 rintro e w5 ⟨rfl,hc5⟩
 have HB5:=hid (aI (bE HB4.out.1 hc5 id) (HB4.out.2.trans hc5 (fun _ _ h=>h)))
 clear hc5 HG2 HB4
 obtain⟨tl,htl⟩:∃tl,tl=totalC ls:=⟨_,rfl⟩
 obtain⟨tm,htm⟩:∃tm,tm=totalC ms:=⟨_,rfl⟩
 rw[←htl,←htm]
 rw[←htl,←htm]at hL
 have HTL:=hid (aI htl htm)
 have hlen1:ls.length≤tl:=by rw[htl];exact totalC_len ls
 have hlen2:ms.length≤tm:=by rw[htm];exact totalC_len ms
 clear htl htm
 have e1:IntKind.i64.wrap ((tl:Int)+(tm:Int))=(tl:Int)+(tm:Int):=by rw[IntKind.wrap_i64];omega
 by_cases ht:1000<tl+tm
 ·have z2:decide ((1000:Int)<(tl:Int)+(tm:Int))=true:=decide_eq_true (by omega)
  go_wp2
  go_ret
  exact⟨rfl,HB5.out.2⟩
 have z2:decide ((1000:Int)<(tl:Int)+(tm:Int))=false:=decide_eq_false (by omega)
 have HB5s:=hid (show w5.heap.size≤w5.heap.size from Nat.le_refl _)
 have ho0:=hid (own_zero8 (Nat.le_refl w5.heap.size))
 have hlenA:([]:List CredB).length+ls.length≤33554432:=by simp;omega
 have hlenB:ls.length+ms.length≤33554432:=by omega
 have HX6:Hid (CredsAt E (w5.alloc (.cells #[] 34)) ho ls):=hid (HH.out.1.keep (HB5.out.2.alloc _) (fun _ _=>id))
 go_wp2_with (at_builtin;refine wpList_append_creds rfl (.tmp 33) (.tmp 34) rfl w5.heap.size _ [] rfl ho0.out _ _ _ rfl HX6.out HH.out.2.2.1 hlenA (by simp) ?_)
 intro v6 w6 ho6 hgr6 hat6
 have hc6:Chg (fun _=>False) w5 w6:=((Chg.refl (fun _=>False) w5).alloc _).trans ((Chg.refl (fun i=>Value.ownBlock (.slice (some ⟨w5.heap.size,0,none⟩) 0 0)=some i) _).grown hgr6 (fun i e _=>e)) (fun i hi e=>by have e2:some w5.heap.size=some i:=e;injection e2 with e2;omega)
 have HX7:Hid (CredsAt G w6 mo ms):=hid (HH.out.2.2.2.1.keep (HB5.out.2.trans hc6 (fun _ _ h=>h)) (fun _ _=>id))
 have HC6:=hid hc6
 have hsz6:=hc6.size
 have HO6:=hid ho6
 clear ho6 hgr6 hat6 hc6 ho0 HX6
 go_wp2_with (at_builtin;refine wpList_append_creds rfl (.tmp 35) (.tmp 36) rfl w5.heap.size _ ls rfl HO6.out _ _ _ rfl HX7.out HH.out.2.2.2.2.2.1 hlenB hsz6 ?_)
 intro v7 w7 ho7 hgr7 hat7
 have hc7:Chg (fun _=>False) w5 w7:=HC6.out.trans ((Chg.refl (fun i=>v6.ownBlock=some i) w6).grown hgr7 (fun i e _=>e)) (fun i hi e=>absurd hi (Nat.not_lt.2 (own_lt8 HO6.out i e).1))
 have hshort:∀c∈ls++ms,credShort c 9223372036854775807:=totalC_shorts (by rw[totalC_app8];have:=HTL.out;omega)
 have htt:=totalC_app8 ls ms
 have hmm:∀xs ys,ModelOf ls xs→ModelOf (ls++ms) ys→∀r,inM xs [98,111,98] r=true→inM ys [98,111,98] r=true:=fun xs ys h1 h2=>inM_mono h1 h2 _
 generalize ls++ms=al at *
 have HMM:=hid hmm
 have HTT:=hid htt
 clear hmm htt
 obtain⟨q,qc,hv7,hcr7,hqz⟩:=ho7.creds hshort
 subst hv7
 have HBX:=hid (bE HB5.out.1 hc7 id)
 have HC8:=hid (HB5.out.2.trans hc7 (fun _ _ h=>h))
 have HF1:Hid (∀w9,Chg (fun _=>False) w7 w9→_):=hid (fun w9 hw9=>HK.out.free n p po pc ao ac ho hc0 ls [98,111,98] w9 (HP.out.1.keep (HC8.out.trans hw9 (fun _ _ h=>h)) (fun _ _=>id)) HP.out.2 HPG.out (HH.out.1.keep (HC8.out.trans hw9 (fun _ _ h=>h)) (fun _ _=>id)) (fun i hi=>Nat.lt_of_lt_of_le (HH.out.2.1 i hi) (by rw[←HXE.out];exact(HC8.out.trans hw9 (fun _ _ h=>h)).size)) HH.out.2.2.1 (by have:=HTL.out;omega) (by decide))
 have HF2:Hid (∀w9,Chg (fun _=>False) w7 w9→_):=hid (fun w9 hw9=>HK.out.free n p po pc ao ac (E:=fun k=>w5.heap.size≤k∧k<w7.heap.size) q qc al [98,111,98] w9 (HP.out.1.keep (HC8.out.trans hw9 (fun _ _ h=>h)) (fun _ _=>id)) HP.out.2 HPG.out (hcr7.keep hw9 (fun _ _=>id)) (fun i hi=>Nat.lt_of_lt_of_le hi.2 hw9.size) hqz (by rw[HTT.out];have:=HTL.out;omega) (by decide))
 clear HX7 HC6 HO6 HB5 ho7 hgr7 hat7 hc7 hshort hcr7 hqz e1 z1 z2 hlenA hlenB hsz6 HB5s
 go_wp2
 refine wp_region_specs (gr6 X p po pc ao ac ls al ho q hc0 qc) [38,39,40,41,42,43,8,9] [1,3,7] (by kernel_rfl) (by kernel_rfl) (by rfl) (by kernel_rfl) ?start6 ?obs6 ?fin6
 case start6=>
  simp only[List.forall_mem_cons];exact⟨⟨_,rfl,rfl⟩,⟨_,rfl,rfl⟩,⟨_,rfl,rfl⟩,fun _ h=>by cases h⟩
 case obs6=>
  skip
  refine Obs.cons none (by kernel_rfl) ?_ ?_
  ·refine Ob.plain fun a w hR hk K k=>?_
   obtain⟨_,e3,rfl⟩:=hk 3 (by decide)
   clear hk
   have z0:=bC (bE HBX.out hR id) 0
   have z1:=bC (bE HBX.out hR id) 1
   have z2:=bC (bE HBX.out hR id) 2
   simp only[lA,lZ,lS]at z0 z1 z2
   go_simp
   exact k _ _ R0 rfl
  refine Obs.cons none (by kernel_rfl) ?_ ?_
  ·refine Ob.plain fun a w hR hk K k=>?_
   obtain⟨_,e1,f1⟩:=hk 1 (by decide)
   clear hk
   go_simp
   exact k _ _ R0 f1
  refine Obs.cons none (by kernel_rfl) ?_ ?_
  ·refine Ob.plain fun a w hR hk K k=>?_
   obtain⟨_,e38,rfl⟩:=hk 38 (by decide)
   obtain⟨_,e39,rfl⟩:=hk 39 (by decide)
   clear hk
   have hq:=HF1.out w hR
   go_simp
   refine hq.mono ?_
   rintro e w9 ⟨xs,zs,zo,zc,rfl,h1,h2,h3,h4⟩
   exact k _ _ h4 ⟨xs,zs,zo,zc,rfl,h1,h2,h3⟩
  refine Obs.cons none (by kernel_rfl) ?_ ?_
  ·refine Ob.plain fun a w hR hk K k=>?_
   obtain⟨_,e3,rfl⟩:=hk 3 (by decide)
   clear hk
   have z0:=bC (bE HBX.out hR id) 0
   have z1:=bC (bE HBX.out hR id) 1
   have z2:=bC (bE HBX.out hR id) 2
   simp only[lA,lZ,lS]at z0 z1 z2
   go_simp
   exact k _ _ R0 rfl
  refine Obs.cons none (by kernel_rfl) ?_ ?_
  ·refine Ob.plain fun a w hR hk K k=>?_
   obtain⟨_,e7,f7⟩:=hk 7 (by decide)
   clear hk
   go_simp
   exact k _ _ R0 f7
  refine Obs.cons none (by kernel_rfl) ?_ ?_
  ·refine Ob.plain fun a w hR hk K k=>?_
   obtain⟨_,e41,rfl⟩:=hk 41 (by decide)
   obtain⟨_,e42,rfl⟩:=hk 42 (by decide)
   clear hk
   have hq:=HF2.out w hR
   go_simp
   refine hq.mono ?_
   rintro e w9 ⟨xs,zs,zo,zc,rfl,h1,h2,h3,h4⟩
   exact k _ _ h4 ⟨xs,zs,zo,zc,rfl,h1,h2,h3⟩
  refine Obs.cons none (by kernel_rfl) ?_ ?_
  ·refine Ob.plain fun a w hR hk K k=>?_
   obtain⟨_,e40,f40⟩:=hk 40 (by decide)
   clear hk
   go_simp
   exact k _ _ R0 f40
  refine Obs.cons none (by kernel_rfl) ?_ ?_
  ·refine Ob.plain fun a w hR hk K k=>?_
   obtain⟨_,e43,f43⟩:=hk 43 (by decide)
   clear hk
   go_simp
   exact k _ _ R0 f43
  exact Obs.nil
 case fin6=>
  intro vals w9 hc9 hv
  obtain⟨xs,as_,zo,zc,e8,m1,f1,c1⟩:∃(xs:List FactB) (zs:List CredB) (zo:Option Addr) (zc:Nat),vals 8 = .slice zo zs.length zc∧ModelOf ls xs∧FreeR (inM xs [98,111,98]) p zs∧CredsAt (fun k=>k<w9.heap.size) w9 zo zs:=hv 8 (by decide)
  obtain⟨ys,bs,yo,yc,e9,m2,f2,c2⟩:∃(xs:List FactB) (zs:List CredB) (zo:Option Addr) (zc:Nat),vals 9 = .slice zo zs.length zc∧ModelOf al xs∧FreeR (inM xs [98,111,98]) p zs∧CredsAt (fun k=>k<w9.heap.size) w9 zo zs:=hv 9 (by decide)
  have HA:=hid (aI m1 (aI f1 (aI m2 (aI f2 (aI c1 c2)))))
  have HC9:=hid (HC8.out.trans hc9 (fun _ _ h=>h))
  have HBX9:=hid (bE HBX.out hc9 id)
  have hal:=free_len f1
  have hbl:=free_len f2
  have HMN:Hid (∀c∈as_,c∈bs):=hid (f1.mono (HMM.out _ _ m1 m2) f2)
  simp only[putAll,List.setIfInBounds_toArray,List.set_cons_zero,List.set_cons_succ,e8,e9]
  clear hv e8 e9 m1 f1 c1 m2 f2 c2 hc9 HBX HF1 HF2 HC8
  obtain⟨an,han⟩:∃an,an=as_.length:=⟨_,rfl⟩
  rw[←han]at hal ⊢
  have HAN:=hid han.symm
  have hcre:=HCL.out
  have hbl2:bs.length≤4000:=by omega
  clear han
  go_wp2
  go_loopw [46] (fun i wr=>∃k:Nat,k≤an∧i = .int .i64 k∧Hid (Chg (fun _=>False) w9 wr)) (fun i _=>an-(intOf i).toNat)
  case atStart=>exact⟨0,Nat.zero_le _,rfl,hid R0⟩
  case round=>
   obtain⟨k,hk,rfl,hc⟩:=hrel
   by_cases hlt:k<an
   ·have hlt2:k<as_.length:=by rw[HAN.out];exact hlt
    obtain⟨b,off,hzo,_,⟨a0,a1,a2,a3,a4,a5,a6,a7,a8⟩,hss⟩:=(HA.out.2.2.2.2.1.keep hc.out (fun _ _=>id)) k hlt2
    have hmem:=List.getElem_mem hlt2
    have hbs:as_[k]∈bs:=HMN.out _ hmem
    generalize as_[k]=c at *
    have hhas:hasC bs c=true:=by unfold hasC;simp [hbs]
    have hcA:=alc wr (.cells #[.int .i64 c.kind,.string ⟨c.head.1.toArray⟩,.string ⟨c.head.2.toArray⟩,.string ⟨c.who.toArray⟩,.string ⟨c.b.1.toArray⟩,.string ⟨c.b.2.toArray⟩,.string ⟨c.c.1.toArray⟩,.string ⟨c.c.2.toArray⟩,.string ⟨c.w2.toArray⟩] 34)
    have hcc:=hc.out.trans hcA (fun _ _ h=>h)
    obtain⟨z0,z1,z2,z3,z4,z5,z6,z7,z8⟩:=cred_at_blk (heap_alloc_new wr (.cells #[.int .i64 c.kind,.string ⟨c.head.1.toArray⟩,.string ⟨c.head.2.toArray⟩,.string ⟨c.who.toArray⟩,.string ⟨c.b.1.toArray⟩,.string ⟨c.b.2.toArray⟩,.string ⟨c.c.1.toArray⟩,.string ⟨c.c.2.toArray⟩,.string ⟨c.w2.toArray⟩] 34))
    simp only[Nat.zero_add]at z0 z1 z2 z3 z4 z5 z6 z7 z8
    have HQ:=hid (chas_ref yo yc bs c (wr.alloc (.cells #[.int .i64 c.kind,.string ⟨c.head.1.toArray⟩,.string ⟨c.head.2.toArray⟩,.string ⟨c.who.toArray⟩,.string ⟨c.b.1.toArray⟩,.string ⟨c.b.2.toArray⟩,.string ⟨c.c.1.toArray⟩,.string ⟨c.c.2.toArray⟩,.string ⟨c.w2.toArray⟩] 34)) (by omega) (HA.out.2.2.2.2.2.keep hcc (fun _ _=>id)))
    unfold credV credBox at HQ
    have HCC:=hid hcc
    have HHAS:=hid hhas
    clear hcA hcc hc hss hmem hbs hhas
    subst hzo
    go_wp2_with fail
    refine HQ.out.mono ?_
    rintro e w10 ⟨rfl,hc10⟩
    rw[HHAS.out]
    have HC10:=hid (HCC.out.trans hc10 (fun _ _ h=>h))
    clear a0 a1 a2 a3 a4 a5 a6 a7 a8 z0 z1 z2 z3 z4 z5 z6 z7 z8 HQ hc10 HCC
    go_wp2
    go_roundw
    case rel=>exact⟨k+1,by omega,by go_num,HC10⟩
    case measure=>simp [intOf];omega
   ·have y0:=bC (bE HBX9.out hc.out id) 0
    have y1:=bC (bE HBX9.out hc.out id) 1
    have y2:=bC (bE HBX9.out hc.out id) 2
    simp only[lA,lZ,lS]at y0 y1 y2
    have HR:=hid (HK.out.right n p po pc ao ac wr (HP.out.1.keep (HC9.out.trans hc.out (fun _ _ h=>h)) (fun _ _=>id)) HP.out.2 HPG.out)
    have HCR:=hid hc.out
    clear hc
    go_wp2_with fail
    refine HR.out.mono ?_
    rintro e w10 ⟨kk,rfl,hk1,_,hc10⟩
    have HC10:=hid (HCR.out.trans hc10 (fun _ _ h=>h))
    clear y0 y1 y2 HR hc10 HCR hlt hk
    by_cases h0:kk=0
    ·subst h0
     have har:=hk1.1 rfl
     have HGD:=hid har.good
     have HSHT:Hid (∀x∈p.creds,credShort x.cred 20000):=hid (fun x hx=>(isCred_short (har.held x hx).1).mono' (by decide))
     have HRSH:Hid (∀c,∀r∈acksB p c,r.1.length≤20000∧r.2.length≤20000):=hid (fun c r hr=>by
      obtain⟨a,ha,rfl⟩:=List.mem_map.1 hr
      have:=gp_role HPG.out a (List.mem_filter.1 ha).1
      omega)
     have HACL:Hid (∀c,(acksB p c).length≤4000):=hid (fun c=>by
      have h8:=har.few.2.1
      have h9:(acksB p c).length≤p.acks.length:=by unfold acksB;rw[List.length_map];exact List.length_filter_le ..
      omega)
     clear hk1 har
     go_wp2
     go_loopw [60] (fun i wr=>∃k:Nat,k≤an∧i = .int .i64 k∧Hid (Chg (fun _=>False) w9 wr)) (fun i _=>an-(intOf i).toNat)
     case atStart=>exact⟨0,Nat.zero_le _,rfl,HC10⟩
     case round=>
      clear HC10
      obtain⟨k,hk,rfl,hc⟩:=hrel
      by_cases hlt:k<an
      ·have hlt2:k<as_.length:=by rw[HAN.out];exact hlt
       obtain⟨b,off,hzo,_,⟨a0,a1,a2,a3,a4,a5,a6,a7,a8⟩,hss⟩:=(HA.out.2.2.2.2.1.keep hc.out (fun _ _=>id)) k hlt2
       have hmem:=List.getElem_mem hlt2
       obtain⟨hci,_,y,hy,hyT⟩:=(HA.out.2.1.2 _).1 hmem
       generalize as_[k]=c at *
       have HTOLD:=hid (told_of_free HGD.out hy hyT)
       have hcA:=alc wr (.cells #[.int .i64 c.kind,.string ⟨c.head.1.toArray⟩,.string ⟨c.head.2.toArray⟩,.string ⟨c.who.toArray⟩,.string ⟨c.b.1.toArray⟩,.string ⟨c.b.2.toArray⟩,.string ⟨c.c.1.toArray⟩,.string ⟨c.c.2.toArray⟩,.string ⟨c.w2.toArray⟩] 34)
       have hcc:=hc.out.trans hcA (fun _ _ h=>h)
       obtain⟨z0,z1,z2,z3,z4,z5,z6,z7,z8⟩:=cred_at_blk (heap_alloc_new wr (.cells #[.int .i64 c.kind,.string ⟨c.head.1.toArray⟩,.string ⟨c.head.2.toArray⟩,.string ⟨c.who.toArray⟩,.string ⟨c.b.1.toArray⟩,.string ⟨c.b.2.toArray⟩,.string ⟨c.c.1.toArray⟩,.string ⟨c.c.2.toArray⟩,.string ⟨c.w2.toArray⟩] 34))
       simp only[Nat.zero_add]at z0 z1 z2 z3 z4 z5 z6 z7 z8
       have y0:=bC (bE HBX9.out hcc id) 0
       have y1:=bC (bE HBX9.out hcc id) 1
       have y2:=bC (bE HBX9.out hcc id) 2
       simp only[lA,lZ,lS]at y0 y1 y2
       have HQ:=hid (HK.out.acks n p po pc ao ac c (wr.alloc (.cells #[.int .i64 c.kind,.string ⟨c.head.1.toArray⟩,.string ⟨c.head.2.toArray⟩,.string ⟨c.who.toArray⟩,.string ⟨c.b.1.toArray⟩,.string ⟨c.b.2.toArray⟩,.string ⟨c.c.1.toArray⟩,.string ⟨c.c.2.toArray⟩,.string ⟨c.w2.toArray⟩] 34)) (HP.out.1.keep (HC9.out.trans hcc (fun _ _ h=>h)) (fun _ _=>id)) HP.out.2 HPG.out ((isCred_short hci).mono' (by decide)))
       have HCC:=hid hcc
       clear hcA hcc hc hci hy hyT hss
       subst hzo
       go_wp2_with fail
       refine HQ.out.mono ?_
       rintro e w11 ⟨ro,rc,rfl,hro,hc11⟩
       obtain⟨rm,hrm⟩:∃rm,rm=(acksB p c).length:=⟨_,rfl⟩
       rw[←hrm]
       have HRM:=hid hrm.symm
       have hrml:rm≤4000:=by rw[hrm];exact HACL.out c
       have HRO:=hid (aI hro (HCC.out.trans hc11 (fun _ _ h=>h)))
       clear a0 a1 a2 a3 a4 a5 a6 a7 a8 z0 z1 z2 z3 z4 z5 z6 z7 z8 y0 y1 y2 HQ hro hc11 hrm HCC
       go_wp2
       go_loopw [68] (fun i wr=>∃j:Nat,j≤rm∧i = .int .i64 j∧Hid (Chg (fun _=>False) w11 wr)) (fun i _=>rm-(intOf i).toNat)
       case atStart=>exact⟨0,Nat.zero_le _,rfl,hid R0⟩
       case round=>
        obtain⟨j,hj,rfl,hc⟩:=hrel
        by_cases hjm:j<rm
        ·have hj2:j<(acksB p c).length:=by rw[HRM.out];exact hjm
         obtain⟨b2,off2,hro,_,hr⟩:=(HRO.out.1.keep hc.out (fun _ _=>id)) j hj2
         have hrmem:=List.getElem_mem hj2
         have htold:=HTOLD.out _ hrmem
         have HRS:Hid ((acksB p c)[j].1.length≤20000∧(acksB p c)[j].2.length≤20000):=hid (HRSH.out _ _ hrmem)
         generalize (acksB p c)[j]=r at *
         obtain⟨r0,r1,_,_⟩:=hr
         have hcA:=alc wr (.cells #[.string ⟨r.1.toArray⟩,.string ⟨r.2.toArray⟩] 32)
         have hcc:=(HRO.out.2.trans hc.out (fun _ _ h=>h)).trans hcA (fun _ _ h=>h)
         have q0:=bC (heap_alloc_new wr (.cells #[.string ⟨r.1.toArray⟩,.string ⟨r.2.toArray⟩] 32)) 0
         have q1:=bC (heap_alloc_new wr (.cells #[.string ⟨r.1.toArray⟩,.string ⟨r.2.toArray⟩] 32)) 1
         simp only[lA,lZ,lS]at q0 q1
         have y0:=bC (bE HBX9.out hcc id) 0
         have y1:=bC (bE HBX9.out hcc id) 1
         have y2:=bC (bE HBX9.out hcc id) 2
         simp only[lA,lZ,lS]at y0 y1 y2
         have HQ:=hid (HK.out.told n p po pc ao ac r ho hc0 ls [98,111,98] (wr.alloc (.cells #[.string ⟨r.1.toArray⟩,.string ⟨r.2.toArray⟩] 32)) (HP.out.1.keep (HC9.out.trans hcc (fun _ _ h=>h)) (fun _ _=>id)) HP.out.2 HPG.out (HH.out.1.keep (HC9.out.trans hcc (fun _ _ h=>h)) (fun _ _=>id)) (fun i hi=>Nat.lt_of_lt_of_le (HH.out.2.1 i hi) (by rw[←HXE.out];exact(HC9.out.trans hcc (fun _ _ h=>h)).size)) HH.out.2.2.1 (by have:=HTL.out;omega) (by decide) HRS.out)
         have HTO:=hid htold
         have HCC:=hid (hc.out.trans hcA (fun _ _ h=>h))
         clear hcA hcc hc htold
         subst hro
         go_wp2_with fail
         refine HQ.out.mono ?_
         rintro e w12 ⟨xs',rfl,hm',hc12⟩
         rw[hm'.one HA.out.1,HTO.out]
         have HC12:=hid (HCC.out.trans hc12 (fun _ _ h=>h))
         clear r0 r1 q0 q1 y0 y1 y2 HQ hm' hc12 HCC
         go_wp2
         go_roundw
         case rel=>exact⟨j+1,by omega,by go_num,HC12⟩
         case measure=>simp [intOf];omega
        ·have HC12:=hid (HRO.out.2.trans hc.out (fun _ _ h=>h))
         clear hc
         go_wp2
         go_roundw
         case rel=>exact⟨k+1,by omega,by go_num,HC12⟩
         case measure=>simp [intOf];omega
      ·have y1:=bC (bE HBX9.out hc.out id) 1
       simp only[lA,lZ,lS]at y1
       have HC12:=hid hc.out
       clear hc
       go_wp2
       clear y1
       go_loopw [82] (fun i wr=>∃k:Nat,k≤p.creds.length∧i = .int .i64 k∧Hid (Chg (fun _=>False) w9 wr)) (fun i _=>p.creds.length-(intOf i).toNat)
       case atStart=>exact⟨0,Nat.zero_le _,rfl,HC12⟩
       case round=>
        clear hlt hk HC12
        obtain⟨k,hk,rfl,hc⟩:=hrel
        by_cases hlt:k<p.creds.length
        ·obtain⟨b,off,hpo,_,⟨⟨⟨a0,a1,a2,a3,a4,a5,a6,a7,a8⟩,⟨ta,tc,a9,hbt⟩,hsh,hln⟩,hfm⟩⟩:=(HP.out.1.gds.keep (HC9.out.trans hc.out (fun _ _ h=>h)) (fun _ _=>id)) k hlt
         have hof:=HGD.out.of_ _ (List.getElem_mem hlt)
         have HSH:Hid (credShort (p.creds[k]).cred 20000):=hid (HSHT.out _ (List.getElem_mem hlt))
         generalize p.creds[k]=x at *
         obtain⟨c,tg,f⟩:=x
         obtain⟨n1,fo,fc,_,⟨f0,f1,f2,f3,f4⟩,_,_,_⟩:=hfm.open_
         change wr.cell? ⟨b,off+k*15+11,none⟩=_ at f1
         change wr.cell? ⟨b,off+k*15+12,none⟩=_ at f2
         change wr.cell? ⟨b,off+k*15+13,none⟩=_ at f3
         change wr.cell? ⟨b,off+k*15+14,none⟩=_ at f4
         simp only[GdB.sign]at a0 a1 a2 a3 a4 a5 a6 a7 a8 a9 f0 f1 f2 f3 f4 hof HSH
         have hcA:=alc wr (.cells #[.int .i64 c.kind,.string ⟨c.head.1.toArray⟩,.string ⟨c.head.2.toArray⟩,.string ⟨c.who.toArray⟩,.string ⟨c.b.1.toArray⟩,.string ⟨c.b.2.toArray⟩,.string ⟨c.c.1.toArray⟩,.string ⟨c.c.2.toArray⟩,.string ⟨c.w2.toArray⟩,.slice ta tg.length tc,.int .i64 f.op,.int .i64 f.k,.string ⟨f.r.1.toArray⟩,.string ⟨f.r.2.toArray⟩,.slice fo f.kids.length fc] 48)
         have hcc:=hc.out.trans hcA (fun _ _ h=>h)
         obtain⟨z0,z1,z2,z3,z4,z5,z6,z7,z8,z9,z10,z11,z12,z13,z14⟩:=gd_blk (heap_alloc_new wr (.cells #[.int .i64 c.kind,.string ⟨c.head.1.toArray⟩,.string ⟨c.head.2.toArray⟩,.string ⟨c.who.toArray⟩,.string ⟨c.b.1.toArray⟩,.string ⟨c.b.2.toArray⟩,.string ⟨c.c.1.toArray⟩,.string ⟨c.c.2.toArray⟩,.string ⟨c.w2.toArray⟩,.slice ta tg.length tc,.int .i64 f.op,.int .i64 f.k,.string ⟨f.r.1.toArray⟩,.string ⟨f.r.2.toArray⟩,.slice fo f.kids.length fc] 48))
         have y0:=bC (bE HBX9.out hcc id) 0
         have y1:=bC (bE HBX9.out hcc id) 1
         have y2:=bC (bE HBX9.out hcc id) 2
         simp only[lA,lZ,lS]at y0 y1 y2
         have HQ:=hid (HK.out.of_ n p po pc ao ac c (wr.alloc (.cells #[.int .i64 c.kind,.string ⟨c.head.1.toArray⟩,.string ⟨c.head.2.toArray⟩,.string ⟨c.who.toArray⟩,.string ⟨c.b.1.toArray⟩,.string ⟨c.b.2.toArray⟩,.string ⟨c.c.1.toArray⟩,.string ⟨c.c.2.toArray⟩,.string ⟨c.w2.toArray⟩,.slice ta tg.length tc,.int .i64 f.op,.int .i64 f.k,.string ⟨f.r.1.toArray⟩,.string ⟨f.r.2.toArray⟩,.slice fo f.kids.length fc] 48)) (HP.out.1.keep (HC9.out.trans hcc (fun _ _ h=>h)) (fun _ _=>id)) HP.out.2 HPG.out HSH.out)
         have HOF:=hid hof
         have HCC:=hid hcc
         clear hcA hcc hc hfm hbt hsh hln hof
         subst hpo
         go_wp2_with fail
         refine HQ.out.mono ?_
         rintro e w12 ⟨x,kk,rfl,hox,_,hor,hc12⟩
         obtain⟨xo,xc,hx1,_,hxz,hfx,hokx⟩:=own_val hox
         have hxv:fmV x = .agg #[.int .i64 (eraseA x).op,.int .i64 (eraseA x).k,.string ⟨(eraseA x).r.1.toArray⟩,.string ⟨(eraseA x).r.2.toArray⟩,.slice xo (eraseA x).kids.length xc]:=congrArg Value.agg hx1
         rw[hxv]
         obtain⟨y,hy⟩:=HOF.out
         obtain⟨hk0,hey⟩:=hor.det hy
         subst hk0
         have hisx:isF (eraseA x)=true:=by rw[hey];exact hy.zero.1
         have HC12:=hid (HCC.out.trans hc12 (fun _ _ h=>h))
         have hcX:=alc w12 (.cells #[.int .i64 (eraseA x).op,.int .i64 (eraseA x).k,.string ⟨(eraseA x).r.1.toArray⟩,.string ⟨(eraseA x).r.2.toArray⟩,.slice xo (eraseA x).kids.length xc] 46)
         have HRX:=hid (fm_right _ (eraseA x) xo xc (w12.alloc (.cells #[.int .i64 (eraseA x).op,.int .i64 (eraseA x).k,.string ⟨(eraseA x).r.1.toArray⟩,.string ⟨(eraseA x).r.2.toArray⟩,.slice xo (eraseA x).kids.length xc] 46)) (hfx.keep hcX (fun _ _=>id)) (fun i hi=>Nat.lt_of_lt_of_le hi.2 hcX.size) hokx (by have:=(isF_parts.1 hisx).1;omega))
         have u0:=bC (heap_alloc_new w12 (.cells #[.int .i64 (eraseA x).op,.int .i64 (eraseA x).k,.string ⟨(eraseA x).r.1.toArray⟩,.string ⟨(eraseA x).r.2.toArray⟩,.slice xo (eraseA x).kids.length xc] 46)) 0
         have u1:=bC (heap_alloc_new w12 (.cells #[.int .i64 (eraseA x).op,.int .i64 (eraseA x).k,.string ⟨(eraseA x).r.1.toArray⟩,.string ⟨(eraseA x).r.2.toArray⟩,.slice xo (eraseA x).kids.length xc] 46)) 1
         have u2:=bC (heap_alloc_new w12 (.cells #[.int .i64 (eraseA x).op,.int .i64 (eraseA x).k,.string ⟨(eraseA x).r.1.toArray⟩,.string ⟨(eraseA x).r.2.toArray⟩,.slice xo (eraseA x).kids.length xc] 46)) 2
         have u3:=bC (heap_alloc_new w12 (.cells #[.int .i64 (eraseA x).op,.int .i64 (eraseA x).k,.string ⟨(eraseA x).r.1.toArray⟩,.string ⟨(eraseA x).r.2.toArray⟩,.slice xo (eraseA x).kids.length xc] 46)) 3
         have u4:=bC (heap_alloc_new w12 (.cells #[.int .i64 (eraseA x).op,.int .i64 (eraseA x).k,.string ⟨(eraseA x).r.1.toArray⟩,.string ⟨(eraseA x).r.2.toArray⟩,.slice xo (eraseA x).kids.length xc] 46)) 4
         simp only[lA,lZ,lS]at u0 u1 u2 u3 u4
         have HCX:=hid hcX
         have HIS:=hid hisx
         clear a0 a1 a2 a3 a4 a5 a6 a7 a8 a9 f0 f1 f2 f3 f4 z0 z1 z2 z3 z4 z5 z6 z7 z8 z9 z10 z11 z12 z13 z14 y0 y1 y2 HQ hox hor hc12 hx1 hxz hfx hokx hxv hy hey hisx hcX HOF HCC
         go_wp2_with fail
         refine HRX.out.mono ?_
         rintro e w13 ⟨rfl,hc13⟩
         rw[HIS.out]
         have HC13:=hid ((HC12.out.trans HCX.out (fun _ _ h=>h)).trans hc13 (fun _ _ h=>h))
         clear u0 u1 u2 u3 u4 hc13 HRX HCX HC12
         go_wp2
         go_roundw
         case rel=>exact⟨k+1,by omega,by go_num,HC13⟩
         case measure=>simp [intOf];omega
        ·go_wp2
         go_ret
         exact⟨rfl,HC9.out.trans hc.out (fun _ _ h=>h)⟩
    ·have z1:(kk==0)=false:=by simpa using h0
     go_wp2
     go_ret
     exact⟨rfl,HC9.out.trans HC10.out (fun _ _ h=>h)⟩
end
section
open Go.RowKit
def gfA:FmB:=.mk 1 0 (([97]:List UInt8),([114]:List UInt8)) []
def gfB:FmB:=.mk 1 0 (([98]:List UInt8),([115]:List UInt8)) []
def gfAB:FmB:=.mk 2 0 ([],[]) [gfA,gfB]
def gfC:CredB:=⟨1,([120],[121]),[109,101],([],[]),([],[]),[]⟩
def gfT:List UInt8:=[0,0,0,0,0,0,0,0]
def gfP:PartyB:=⟨[109,101],[⟨gfC,gfT,gfB⟩],[⟨([120],[121]),gfA,[gfC]⟩]⟩
def gfM (r:RoleB):CredB:=⟨1,r,[121,111,117],([],[]),([],[]),[]⟩
def gf0:PartyB:=⟨[],[],[]⟩
theorem gf_ne:gfA≠gfB:=by simp [gfA,gfB]
theorem gf_le:leN gfA gfB:=by unfold leN;decide +kernel
theorem gf_shb:ShapeR gfB gfB:=by rw[shapeR_eq,if_pos (show gfB.op=1 from rfl)];rfl
theorem gf_sha:ShapeR gfA gfA:=by rw[shapeR_eq,if_pos (show gfA.op=1 from rfl)];rfl
theorem gf_shape:ShapeR (.mk 2 0 ([],[]) [gfB,gfA]) gfAB:=by
 rw[shapeR_eq,if_neg (by decide)]
 refine⟨[gfB,gfA],?_,?_⟩
 ·show ShapeL [gfB,gfA] [gfB,gfA]
  rw[ShapeL];refine⟨_,_,rfl,gf_shb,?_⟩
  rw[ShapeL];refine⟨_,_,rfl,gf_sha,?_⟩
  rw[ShapeL]
 ·rw[if_neg (by decide)]
  refine .inr ⟨?_,[gfA,gfB],?_,?_,?_⟩
  ·intro k hk _
   simp only[List.mem_cons,List.not_mem_nil,or_false]at hk
   rcases hk with rfl|rfl <;> decide +kernel
  ·show List.Perm [gfA,gfB] [gfB,gfA]
   exact List.Perm.swap _ _ _
  ·exact List.pairwise_cons.2 ⟨fun y hy=>by rw[List.mem_singleton.1 hy];exact gf_le,List.pairwise_singleton _ _⟩
  ·simp only[cmpctN,if_neg gf_ne];rfl
theorem gf_of:OfR gfP gfC 0 gfAB:=by
 have e:gfP.creds.find? (fun x=>decide (x.cred=gfC))=some ⟨gfC,gfT,gfB⟩:=by simp [gfP]
 unfold OfR
 rw[e]
 refine⟨0,gfB,NormR.some_ gfB (by decide +kernel) gf_shb (by decide +kernel),?_⟩
 show FoldR gfC [⟨([120],[121]),gfA,[gfC]⟩] 0 gfB 0 gfAB
 unfold FoldR
 rw[if_pos ⟨rfl,by simp⟩]
 exact⟨0,gfAB,NormR.some_ _ (by decide +kernel) gf_shape (by decide +kernel),rfl,rfl⟩
theorem gf_none {k:Int} {y:FmB} (h:OfR gfP noCred k y):k=42:=by
 have e:gfP.creds.find? (fun x=>decide (x.cred=noCred))=none:=by decide
 unfold OfR at h
 rw[e]at h
 exact h.1
theorem gf_right:AllRight gfP where
 name:=by decide +kernel
 few:=⟨by decide,by decide,by decide⟩
 held:=by
  intro x hx
  rw[show x=⟨gfC,gfT,gfB⟩ from by simpa [gfP] using hx]
  exact⟨by decide +kernel,by decide,by decide +kernel⟩
 rise:=⟨fun _ h=>(by cases h),trivial⟩
 guards:=by
  intro x hx
  rw[show x=⟨gfC,gfT,gfB⟩ from by simpa [gfP] using hx]
  exact⟨_,gf_of⟩
 acks:=by
  intro a ha
  rw[show a=⟨([120],[121]),gfA,[gfC]⟩ from by simpa [gfP] using ha]
  refine⟨by decide +kernel,⟨fun _ h=>(by cases h),trivial⟩,?_⟩
  intro c hc
  rw[List.mem_singleton.1 hc]
  decide +kernel
 risea:=⟨fun _ h=>(by cases h),trivial⟩
theorem gf_acks:(acksB gfP gfC).length=1:=by decide +kernel
theorem gf_holds (T:RoleB→Bool):holdsF T gfAB=true↔T gfA.r=true∧T gfB.r=true:=by
 unfold gfAB
 rw[both_holds]
 rfl
theorem gf_all {xs:List FactB} (h:ModelOf [gfM gfA.r,gfM gfB.r] xs):inM xs [121,111,117] gfA.r=true∧inM xs [121,111,117] gfB.r=true:=by
 refine⟨decide_eq_true ((h.2 _).2 ?_),decide_eq_true ((h.2 _).2 ?_)⟩
 ·exact Der.mem (c:=gfM gfA.r) (by simp) (by decide +kernel) rfl
 ·exact Der.mem (c:=gfM gfB.r) (by simp) (by decide +kernel) rfl
theorem gf_one {xs:List FactB} (h:ModelOf [gfM gfA.r] xs):inM xs [121,111,117] gfB.r=false:=by
 refine decide_eq_false fun hm=>?_
 obtain⟨c,hc,_,e⟩:=((h.2 _).1 hm).head
 rw[List.mem_singleton.1 hc]at e
 revert e
 decide
theorem gf_free {xs:List FactB} {zs:List CredB} (h:ModelOf [gfM gfA.r,gfM gfB.r] xs) (hz:FreeR (inM xs [121,111,117]) gfP zs):zs.length=1:=by
 have h1:gfC∈zs:=(hz.2 _).2 ⟨by decide +kernel,⟨⟨gfC,gfT,gfB⟩,by simp [gfP],rfl⟩,gfAB,gf_of,(gf_holds _).2 (gf_all h)⟩
 have h2:zs.length≤1:=free_len hz
 have h3:=List.length_pos_of_mem h1
 omega
theorem gf_free0 {xs:List FactB} {zs:List CredB} (h:ModelOf [gfM gfA.r] xs) (hz:FreeR (inM xs [121,111,117]) gfP zs):zs.length=0:=by
 rcases zs with _|⟨z,zs⟩
 ·rfl
 ·obtain⟨_,⟨x,hx,e⟩,y,hy,hT⟩:=(hz.2 z).1 (by simp)
  rw[show x=⟨gfC,gfT,gfB⟩ from by simpa [gfP] using hx]at e
  rw[←e]at hy
  rw[(hy.det gf_of).2,gf_holds,gf_one h]at hT
  cases hT.2
theorem gf_told {xs:List FactB} (h:ModelOf [gfM gfA.r,gfM gfB.r] xs):toldB (inM xs [121,111,117]) gfP ([120],[121])=true:=by
 have:=(gf_all h).1
 unfold toldB gfP
 simp only[List.all_cons,List.all_nil]
 rw[show isF gfA=true by decide +kernel,show holdsF (inM xs [121,111,117]) gfA=inM xs [121,111,117] gfA.r from rfl,this]
 rfl
theorem gf_told0 {xs:List FactB} (h:ModelOf [] xs):toldB (inM xs [121,111,117]) gfP ([120],[121])=false:=by
 have:inM xs [121,111,117] gfA.r=false:=decide_eq_false fun hm=>by
  obtain⟨c,hc,_⟩:=((h.2 _).1 hm).head
  cases hc
 unfold toldB gfP
 simp only[List.all_cons,List.all_nil]
 rw[show isF gfA=true by decide +kernel,show holdsF (inM xs [121,111,117]) gfA=inM xs [121,111,117] gfA.r from rfl,this]
 rfl
end
end Go.Proofs.YtkfinhpfdcjoeaaGreat
