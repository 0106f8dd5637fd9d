/- Texts that the proof leans on, in one: GgRiseG, GgParts, GgLists. -/
import Derived.Test.YtkfinhpfdcjoeaaGreatNa30
import Derived.Test.YtkfinhpfdcjoeaaGreatNa29
import Derived.Test.YtkfinhpfdcjoeaaGreatNa8
import Derived.Test.YtkfinhpfdcjoeaaGreatNa6
/- guard's rising at what is held. -/
namespace Go.Proofs.YtkfinhpfdcjoeaaGreat
section
open Go.RowKit
set_option maxRecDepth 100000 in
set_option maxHeartbeats 8000000 in
theorem gg_riseG {D:Nat→Prop} (n:Nat) (ao:Option Addr) (cp:Nat) (ls:List GdB) (w:World) (hst:GdsAt D w n ao ls) (hl:ls.length≤4000) (hsh:∀x∈ls,credShort x.cred 9223372036854775807) :
  Calls Tryz.prog 49 #[.slice ao ls.length cp,.func (.func 50) #[] #[]] w fun e w'=>(∃bo:Bool,e = .returned (.bool bo)∧(bo=true↔AdjP (fun x y=>cmpC x.cred y.cred<0) ls))∧Chg (fun _=>False) w w':=by
 have HST:=hid hst
 have HSH:=hid hsh
 obtain⟨ln,hln⟩:∃ln,ln=ls.length:=⟨_,rfl⟩
 rw[←hln]at hl ⊢
 have HLN:=hid hln
 clear hst hsh hln
 go_enter Tryz.func49,Tryz.ntmps49
 go_wp2
 go_loopw [5] (fun i wr=>∃j:Nat,1≤j∧(j≤ln∨j=1)∧i = .int .i64 j∧Hid ((∀i (h:i+1<ls.length),i+1<j→(fun x y=>cmpC x.cred y.cred<0) (ls[i]'(by omega)) ls[i+1])∧Chg (fun _=>False) w wr)) (fun i _=>ln-(intOf i).toNat)
 case atStart=>exact⟨1,Nat.le_refl _,.inr rfl,rfl,hid ⟨fun i _ h=>absurd h (by omega),Chg.refl _ _⟩⟩
 case round=>
  obtain⟨j,hj1,hj2,rfl,hrel⟩:=hrel
  by_cases hlj:j<ln
  ·have hlt:j<ls.length:=by rw[←HLN.out];exact hlj
   obtain⟨m,hm⟩:∃m,j=m+1:=⟨j-1,by omega⟩
   have hm2:m<ls.length:=by omega
   have hcw:=HST.out.keep hrel.out.2 (fun _ _=>id)
   have HAD:Hid (((fun x y=>cmpC x.cred y.cred<0) (ls[m]'hm2) (ls[j]'hlt)→∀i (h:i+1<ls.length),i+1<j+1→(fun x y=>cmpC x.cred y.cred<0) (ls[i]'(by omega)) ls[i+1])∧(¬(fun x y=>cmpC x.cred y.cred<0) (ls[m]'hm2) (ls[j]'hlt)→¬AdjP (fun x y=>cmpC x.cred y.cred<0) ls)):=hid ⟨fun h i hi hij=>by
    by_cases e:i=m
    ·subst hm
     subst e
     exact h
    ·exact hrel.out.1 i hi (by omega),fun h ha=>h (by
     subst hm
     exact ha m (by omega))⟩
   have hshx:=(HSH.out _ (List.getElem_mem hm2))
   have hshy:=(HSH.out _ (List.getElem_mem hlt))
   have HWR:Hid (IntKind.i64.wrap ((j:Int)-1)=(m:Int)):=hid (by rw[IntKind.wrap_i64];omega)
   have HJ:Hid (m<ln∧j<ln):=hid ⟨by omega,hlj⟩
   obtain⟨b,off,hao,hD,⟨⟨⟨a0,a1,a2,a3,a4,a5,a6,a7,a8⟩,⟨ta,tc,a9,hby⟩,hsh,hln⟩,hfm⟩⟩:=hcw m hm2
   obtain⟨b9,off9,hao9,hD9,⟨⟨⟨a90,a91,a92,a93,a94,a95,a96,a97,a98⟩,⟨ta9,tc9,a99,hby9⟩,hsh9,hln9⟩,hfm9⟩⟩:=hcw j hlt
   generalize ls[m]=x at *
   generalize ls[j]=y at *
   obtain⟨d,tg,f⟩:=x
   obtain⟨d9,tg9,f9⟩:=y
   skip
   obtain⟨n1,fo,fc,hn1,⟨a10,a11,a12,a13,a14⟩,hfo,hfz,hfk⟩:=hfm.open_
   change _=some (Value.int .i64 f.op) at a10
   change wr.cell? ⟨b,off+m*15+11,none⟩=some (.int .i64 f.k) at a11
   change wr.cell? ⟨b,off+m*15+12,none⟩=some (.string ⟨f.r.1.toArray⟩) at a12
   change wr.cell? ⟨b,off+m*15+13,none⟩=some (.string ⟨f.r.2.toArray⟩) at a13
   change wr.cell? ⟨b,off+m*15+14,none⟩=some (.slice fo f.kids.length fc) at a14
   obtain⟨tl,htl⟩:∃tl,tl=tg.length:=⟨_,rfl⟩
   simp only[GdB.sign]at a0 a1 a2 a3 a4 a5 a6 a7 a8 a9 hfo hfk hfz hsh
   rw[←htl]at a9
   obtain⟨n19,fo9,fc9,hn19,⟨a910,a911,a912,a913,a914⟩,hfo9,hfz9,hfk9⟩:=hfm9.open_
   change _=some (Value.int .i64 f9.op) at a910
   change wr.cell? ⟨b9,off9+j*15+11,none⟩=some (.int .i64 f9.k) at a911
   change wr.cell? ⟨b9,off9+j*15+12,none⟩=some (.string ⟨f9.r.1.toArray⟩) at a912
   change wr.cell? ⟨b9,off9+j*15+13,none⟩=some (.string ⟨f9.r.2.toArray⟩) at a913
   change wr.cell? ⟨b9,off9+j*15+14,none⟩=some (.slice fo9 f9.kids.length fc9) at a914
   obtain⟨tl9,htl9⟩:∃tl,tl=tg9.length:=⟨_,rfl⟩
   simp only[GdB.sign]at a90 a91 a92 a93 a94 a95 a96 a97 a98 a99 hfo9 hfk9 hfz9 hsh9
   rw[←htl9]at a99
   simp only[]at HAD hshx hshy
   have hC1:=hrel.out.2
   have HCM:=hid (fun(W2:World) (_:Chg (fun _=>False) wr W2)=>gg_cmpCreds d ta tl tc f fo fc d9 ta9 tl9 tc9 f9 fo9 fc9 W2 hshx hshy)
   obtain⟨cv,hcv⟩:∃cv,cv=cmpC d d9:=⟨_,rfl⟩
   simp only[←hcv]at HCM HAD
   have HC1:=hid hC1
   obtain⟨gq,hgq⟩:∃g,g=decide (cv≥0):=⟨_,rfl⟩
   have HGQ:=hid hgq
   clear hgq hcv hC1 hrel hcw hm hm2 hlt hshx hshy hby hln hfm hfz hn1 htl hby9 hln9 hfm9 hfz9 hn19 htl9 
   subst hao
   have hao9:=hao9
   simp only[Option.some.injEq,Addr.mk.injEq,and_true]at hao9
   obtain⟨rfl,rfl⟩:=hao9
   go_wp2_with fail
   refine wp_region_specs [.eq (.slice (some ⟨b,off,none⟩) ln cp),.eq (.func (.func 50) #[] #[]),.any,.any,.any,.eq (.int .i64 j),.any,.any,.any,.any,.any,.any,.eq (.func (.func 50) #[] #[]),.eq (.slice (some ⟨b,off,none⟩) ln cp),.eq (.int .i64 j),.eq (.int .i64 m),.eq (.pointer (some ⟨b,off+m*15,none⟩)),.eq (.agg #[.int .i64 d.kind,.string ⟨d.head.1.toArray⟩,.string ⟨d.head.2.toArray⟩,.string ⟨d.who.toArray⟩,.string ⟨d.b.1.toArray⟩,.string ⟨d.b.2.toArray⟩,.string ⟨d.c.1.toArray⟩,.string ⟨d.c.2.toArray⟩,.string ⟨d.w2.toArray⟩,.slice ta tl tc,.int .i64 f.op,.int .i64 f.k,.string ⟨f.r.1.toArray⟩,.string ⟨f.r.2.toArray⟩,.slice fo f.kids.length fc]),.eq (.slice (some ⟨b,off,none⟩) ln cp),.eq (.int .i64 j),.eq (.pointer (some ⟨b,off+j*15,none⟩)),.eq (.agg #[.int .i64 d9.kind,.string ⟨d9.head.1.toArray⟩,.string ⟨d9.head.2.toArray⟩,.string ⟨d9.who.toArray⟩,.string ⟨d9.b.1.toArray⟩,.string ⟨d9.b.2.toArray⟩,.string ⟨d9.c.1.toArray⟩,.string ⟨d9.c.2.toArray⟩,.string ⟨d9.w2.toArray⟩,.slice ta9 tl9 tc9,.int .i64 f9.op,.int .i64 f9.k,.string ⟨f9.r.1.toArray⟩,.string ⟨f9.r.2.toArray⟩,.slice fo9 f9.kids.length fc9]),.eq (.int .i64 cv),.eq (.bool gq)] [12,13,14,15,16,17,18,19,20,21,22,23] [0,1,5] (by kernel_rfl) (by kernel_rfl) (by rfl) (by kernel_rfl) ?start ?obs ?fin
   case start=>
    simp only[List.forall_mem_cons];exact⟨⟨_,rfl,rfl⟩,⟨_,rfl,rfl⟩,⟨_,rfl,rfl⟩,fun _ h=>by cases h⟩
   case obs=>
    clear HAD HC1
    refine Obs.cons none (by kernel_rfl) ?_ ?_
    ·refine Ob.plain fun a w hR hk K k9=>?_
     obtain⟨_,e1,f1⟩:=hk 1 (by decide)
     clear hk
     go_simp
     exact k9 _ _ R0 f1
    refine Obs.cons none (by kernel_rfl) ?_ ?_
    ·refine Ob.plain fun a w hR hk K k9=>?_
     obtain⟨_,e0,f0⟩:=hk 0 (by decide)
     clear hk
     go_simp
     exact k9 _ _ R0 f0
    refine Obs.cons none (by kernel_rfl) ?_ ?_
    ·refine Ob.plain fun a w hR hk K k9=>?_
     obtain⟨_,e5,f5⟩:=hk 5 (by decide)
     clear hk
     go_simp
     exact k9 _ _ R0 f5
    refine Obs.cons none (by kernel_rfl) ?_ ?_
    ·refine Ob.plain fun a w hR hk K k9=>?_
     obtain⟨_,e14,rfl⟩:=hk 14 (by decide)
     clear hk
     clear HJ
     go_simp
     exact k9 _ _ R0 (congrArg (Value.int .i64) HWR.out)
    refine Obs.cons none (by kernel_rfl) ?_ ?_
    ·refine Ob.plain fun a w hR hk K k9=>?_
     obtain⟨_,e13,rfl⟩:=hk 13 (by decide)
     obtain⟨_,e15,rfl⟩:=hk 15 (by decide)
     clear hk
     have hb1:=HJ.out.1
     go_simp
     exact k9 _ _ R0 rfl
    refine Obs.cons none (by kernel_rfl) ?_ ?_
    ·refine Ob.plain fun a w hR hk K k9=>?_
     obtain⟨_,e16,rfl⟩:=hk 16 (by decide)
     clear hk
     have c0:=hR.cell a0 id
     have c1:=hR.cell a1 id
     have c2:=hR.cell a2 id
     have c3:=hR.cell a3 id
     have c4:=hR.cell a4 id
     have c5:=hR.cell a5 id
     have c6:=hR.cell a6 id
     have c7:=hR.cell a7 id
     have c8:=hR.cell a8 id
     have c9:=hR.cell a9 id
     have c10:=hR.cell a10 id
     have c11:=hR.cell a11 id
     have c12:=hR.cell a12 id
     have c13:=hR.cell a13 id
     have c14:=hR.cell a14 id
     go_simp
     exact k9 _ _ R0 rfl
    refine Obs.cons none (by kernel_rfl) ?_ ?_
    ·refine Ob.plain fun a w hR hk K k9=>?_
     obtain⟨_,e0,f0⟩:=hk 0 (by decide)
     clear hk
     go_simp
     exact k9 _ _ R0 f0
    refine Obs.cons none (by kernel_rfl) ?_ ?_
    ·refine Ob.plain fun a w hR hk K k9=>?_
     obtain⟨_,e5,f5⟩:=hk 5 (by decide)
     clear hk
     go_simp
     exact k9 _ _ R0 f5
    refine Obs.cons none (by kernel_rfl) ?_ ?_
    ·refine Ob.plain fun a w hR hk K k9=>?_
     obtain⟨_,e18,rfl⟩:=hk 18 (by decide)
     obtain⟨_,e19,rfl⟩:=hk 19 (by decide)
     clear hk
     have hb2:=HJ.out.2
     go_simp
     exact k9 _ _ R0 rfl
    refine Obs.cons none (by kernel_rfl) ?_ ?_
    ·refine Ob.plain fun a w hR hk K k9=>?_
     obtain⟨_,e20,rfl⟩:=hk 20 (by decide)
     clear hk
     have c90:=hR.cell a90 id
     have c91:=hR.cell a91 id
     have c92:=hR.cell a92 id
     have c93:=hR.cell a93 id
     have c94:=hR.cell a94 id
     have c95:=hR.cell a95 id
     have c96:=hR.cell a96 id
     have c97:=hR.cell a97 id
     have c98:=hR.cell a98 id
     have c99:=hR.cell a99 id
     have c910:=hR.cell a910 id
     have c911:=hR.cell a911 id
     have c912:=hR.cell a912 id
     have c913:=hR.cell a913 id
     have c914:=hR.cell a914 id
     go_simp
     exact k9 _ _ R0 rfl
    refine Obs.cons none (by kernel_rfl) ?_ ?_
    ·refine Ob.plain fun a w hR hk K k9=>?_
     obtain⟨_,e12,rfl⟩:=hk 12 (by decide)
     obtain⟨_,e17,rfl⟩:=hk 17 (by decide)
     obtain⟨_,e21,rfl⟩:=hk 21 (by decide)
     clear hk
     have HQ:=hid (HCM.out w hR)
     go_simp
     refine HQ.out.mono ?_
     rintro e w7 ⟨rfl,hc7⟩
     exact k9 _ _ hc7 rfl
    refine Obs.cons none (by kernel_rfl) ?_ ?_
    ·refine Ob.plain fun a w hR hk K k9=>?_
     obtain⟨_,e22,rfl⟩:=hk 22 (by decide)
     clear hk
     go_simp
     exact k9 _ _ R0 (congrArg Value.bool HGQ.out.symm)
    exact Obs.nil
   case fin=>
    intro vals w9 hc9 hv
    have h23:vals 23 = .bool gq:=hv 23 (by decide)
    simp only[putAll,List.setIfInBounds_toArray,List.set_cons_zero,List.set_cons_succ,h23]
    have HC9:=hid (HC1.out.trans hc9 (fun _ _ h=>h))
    clear hc9 hv h23 HCM HC1
    by_cases hneg:cv<0
    ·have e1:gq=false:=by rw[HGQ.out];exact decide_eq_false (by omega)
     clear HGQ
     subst e1
     have HNX:=hid (HAD.out.1 hneg)
     clear hneg HAD
     go_wp2
     refine⟨⟨j+1,by omega,.inl (by omega),by first|rfl|go_num,hid ⟨HNX.out,HC9.out⟩⟩,?_⟩
     simp [intOf]
     omega
    ·have e1:gq=true:=by rw[HGQ.out];exact decide_eq_true (by omega)
     clear HGQ
     subst e1
     have HNX:=hid (HAD.out.2 (by omega))
     clear hneg HAD
     go_wp2
     go_ret
     exact⟨⟨false,rfl,⟨fun h=>(by cases h),fun h=>absurd h HNX.out⟩⟩,HC9.out⟩
  ·have HE:=hid (aI (show AdjP (fun x y=>cmpC x.cred y.cred<0) ls from fun i hi=>hrel.out.1 i hi (by rw[←HLN.out]at hi;omega)) hrel.out.2)
   clear hrel
   go_wp2
   go_ret
   exact⟨⟨true,rfl,⟨fun _=>HE.out.1,fun _=>rfl⟩⟩,HE.out.2⟩
end
section
open Go.RowKit
def okG (x:GdB):Bool:=isCred x.cred&&(decide (x.tag.length=8)&&isF x.rel)
set_option maxRecDepth 100000 in
set_option maxHeartbeats 8000000 in
theorem gg_rightCred {D:Nat→Prop} (d:CredB) (tg:List UInt8) (f:FmB) (ta:Option Addr) (tl tc m:Nat) (fo:Option Addr) (fc:Nat) (w:World) (htl:tl=tg.length) (hsh:credShort d 9223372036854775807) (hfk:FmsAt D w m fo f.kids) (hD:∀i,D i→i<w.heap.size) (hok:FmOk f) (hN:nodesF f≤4096) (_:tl≤9223372036854775807) :
  Calls Tryz.prog 48 #[.agg #[.int .i64 d.kind,.string ⟨d.head.1.toArray⟩,.string ⟨d.head.2.toArray⟩,.string ⟨d.who.toArray⟩,.string ⟨d.b.1.toArray⟩,.string ⟨d.b.2.toArray⟩,.string ⟨d.c.1.toArray⟩,.string ⟨d.c.2.toArray⟩,.string ⟨d.w2.toArray⟩,.slice ta tl tc,.int .i64 f.op,.int .i64 f.k,.string ⟨f.r.1.toArray⟩,.string ⟨f.r.2.toArray⟩,.slice fo f.kids.length fc]] w fun e w'=>e = .returned (.bool (okG ⟨d,tg,f⟩))∧Chg (fun _=>False) w w':=by
 have hcA:=alc w (.cells #[.int .i64 d.kind,.string ⟨d.head.1.toArray⟩,.string ⟨d.head.2.toArray⟩,.string ⟨d.who.toArray⟩,.string ⟨d.b.1.toArray⟩,.string ⟨d.b.2.toArray⟩,.string ⟨d.c.1.toArray⟩,.string ⟨d.c.2.toArray⟩,.string ⟨d.w2.toArray⟩,.slice ta tl tc,.int .i64 f.op,.int .i64 f.k,.string ⟨f.r.1.toArray⟩,.string ⟨f.r.2.toArray⟩,.slice fo f.kids.length fc] 48)
 have hX:=heap_alloc_new w (.cells #[.int .i64 d.kind,.string ⟨d.head.1.toArray⟩,.string ⟨d.head.2.toArray⟩,.string ⟨d.who.toArray⟩,.string ⟨d.b.1.toArray⟩,.string ⟨d.b.2.toArray⟩,.string ⟨d.c.1.toArray⟩,.string ⟨d.c.2.toArray⟩,.string ⟨d.w2.toArray⟩,.slice ta tl tc,.int .i64 f.op,.int .i64 f.k,.string ⟨f.r.1.toArray⟩,.string ⟨f.r.2.toArray⟩,.slice fo f.kids.length fc] 48)
 have z0:=bC (hX) 0
 have z1:=bC (hX) 1
 have z2:=bC (hX) 2
 have z3:=bC (hX) 3
 have z4:=bC (hX) 4
 have z5:=bC (hX) 5
 have z6:=bC (hX) 6
 have z7:=bC (hX) 7
 have z8:=bC (hX) 8
 have z9:=bC (hX) 9
 have z10:=bC (hX) 10
 have z11:=bC (hX) 11
 have z12:=bC (hX) 12
 have z13:=bC (hX) 13
 have z14:=bC (hX) 14
 simp only[lA,lZ,lS]at z0 z1 z2 z3 z4 z5 z6 z7 z8 z9 z10 z11 z12 z13 z14
 have HQ:=hid (pcright d (w.alloc (.cells #[.int .i64 d.kind,.string ⟨d.head.1.toArray⟩,.string ⟨d.head.2.toArray⟩,.string ⟨d.who.toArray⟩,.string ⟨d.b.1.toArray⟩,.string ⟨d.b.2.toArray⟩,.string ⟨d.c.1.toArray⟩,.string ⟨d.c.2.toArray⟩,.string ⟨d.w2.toArray⟩,.slice ta tl tc,.int .i64 f.op,.int .i64 f.k,.string ⟨f.r.1.toArray⟩,.string ⟨f.r.2.toArray⟩,.slice fo f.kids.length fc] 48)) hsh)
 unfold credV credBox at HQ
 have HFR:=hid (fun(W:World) (hW:Chg (fun _=>False) (w.alloc (.cells #[.int .i64 d.kind,.string ⟨d.head.1.toArray⟩,.string ⟨d.head.2.toArray⟩,.string ⟨d.who.toArray⟩,.string ⟨d.b.1.toArray⟩,.string ⟨d.b.2.toArray⟩,.string ⟨d.c.1.toArray⟩,.string ⟨d.c.2.toArray⟩,.string ⟨d.w2.toArray⟩,.slice ta tl tc,.int .i64 f.op,.int .i64 f.k,.string ⟨f.r.1.toArray⟩,.string ⟨f.r.2.toArray⟩,.slice fo f.kids.length fc] 48)) W)=>fm_right m f fo fc W (hfk.keep (hcA.trans hW (fun _ _ h=>h)) (fun _ _=>id)) (fun i hi=>by have:=hD i hi;have:=hcA.size;have:=hW.size;omega) hok hN)
 have HX:=hid (aI hX hcA)
 have HEQ:Hid (okG ⟨d,tg,f⟩=(isCred d&&(decide (tl=8)&&isF f))):=hid (by rw[htl];rfl)
 clear hX hcA hfk hD hok hN hsh htl
 go_enter Tryz.func48,Tryz.ntmps48
 go_wp2_with fail
 refine HQ.out.mono ?_
 rintro e w5 ⟨rfl,hc5⟩
 have hX5:=bE HX.out.1 hc5 id
 have y0:=bC (hX5) 0
 have y1:=bC (hX5) 1
 have y2:=bC (hX5) 2
 have y3:=bC (hX5) 3
 have y4:=bC (hX5) 4
 have y5:=bC (hX5) 5
 have y6:=bC (hX5) 6
 have y7:=bC (hX5) 7
 have y8:=bC (hX5) 8
 have y9:=bC (hX5) 9
 have y10:=bC (hX5) 10
 have y11:=bC (hX5) 11
 have y12:=bC (hX5) 12
 have y13:=bC (hX5) 13
 have y14:=bC (hX5) 14
 simp only[lA,lZ,lS]at y0 y1 y2 y3 y4 y5 y6 y7 y8 y9 y10 y11 y12 y13 y14
 have HC5:=hid hc5
 have HCW:=hid (HX.out.2.trans hc5 (fun _ _ h=>h))
 clear hX5 hc5 HQ z0 z1 z2 z3 z4 z5 z6 z7 z8 z9 z10 z11 z12 z13 z14
 cases hc:isCred d with
 | false=>
  have HE:Hid (okG ⟨d,tg,f⟩=false):=hid (by rw[HEQ.out,hc];rfl)
  clear hc
  go_wp2
  go_ret
  exact⟨by rw[HE.out];rfl,HCW.out⟩
 | true=>
  by_cases h8:tl=8
  ·have e8:((tl:Int)==8)=true:=beq_iff_eq.2 (by omega)
   have HE:Hid (okG ⟨d,tg,f⟩=isF f):=hid (by rw[HEQ.out,hc,decide_eq_true h8];rfl)
   have HQ2:=hid (HFR.out w5 HC5.out)
   clear hc h8
   go_wp2_with fail
   refine HQ2.out.mono ?_
   rintro e w6 ⟨rfl,hc6⟩
   have HC6:=hid (HCW.out.trans hc6 (fun _ _ h=>h))
   clear hc6 HQ2 HFR
   go_wp2
   go_ret
   exact⟨by rw[HE.out];rfl,HC6.out⟩
  ·have e8:((tl:Int)==8)=false:=beq_eq_false_iff_ne.2 (by omega)
   have HE:Hid (okG ⟨d,tg,f⟩=false):=hid (by rw[HEQ.out,hc,decide_eq_false h8];rfl)
   clear hc h8
   go_wp2
   go_ret
   exact⟨by rw[HE.out];rfl,HCW.out⟩
/-- Is an Ack right by itself? -/
def okA (a:AkB):Prop:=isF a.rel=true∧(∀c∈a.clo,isCred c=true)∧RisingG ltC a.clo
theorem okA_iff {f:FmB} {r:RoleB} {cl:List CredB} {b:Bool} (hb:b=true↔AdjP (fun x y=>cmpC x y<0) cl):(isF f&&(cl.all isCred&&b))=true↔okA ⟨r,f,cl⟩:=by
 simp only[Bool.and_eq_true,okA,hb,List.all_eq_true]
 constructor
 ·rintro ⟨h1,h2,h3⟩;exact⟨h1,h2,(rises_creds h2).1 h3⟩
 ·rintro ⟨h1,h2,h3⟩;exact⟨h1,h2,(rises_creds h2).2 h3⟩
open Classical in
noncomputable def okAb (a:AkB):Bool:=decide (okA a)
theorem okAb_of {a:AkB} {b:Bool} (h:b=true↔okA a):okAb a=b:=by
 unfold okAb
 rw[Bool.eq_iff_iff,h]
 exact @decide_eq_true_iff _ (Classical.propDecidable _)
set_option maxRecDepth 100000 in
set_option maxHeartbeats 8000000 in
theorem gg_rightAck {D:Nat→Prop} (r:RoleB) (f:FmB) (cl:List CredB) (m:Nat) (fo:Option Addr) (fc:Nat) (co:Option Addr) (cc:Nat) (w:World) (hfk:FmsAt D w m fo f.kids) (hD:∀i,D i→i<w.heap.size) (hok:FmOk f) (hN:nodesF f≤4096) (hcr:CredsAt D w co cl) (hl:cl.length≤4000) :
  Calls Tryz.prog 52 #[.agg #[.string ⟨r.1.toArray⟩,.string ⟨r.2.toArray⟩,.int .i64 f.op,.int .i64 f.k,.string ⟨f.r.1.toArray⟩,.string ⟨f.r.2.toArray⟩,.slice fo f.kids.length fc,.slice co cl.length cc]] w fun e w'=>e = .returned (.bool (okAb ⟨r,f,cl⟩))∧Chg (fun _=>False) w w':=by
 have hcA:=alc w (.cells #[.string ⟨r.1.toArray⟩,.string ⟨r.2.toArray⟩,.int .i64 f.op,.int .i64 f.k,.string ⟨f.r.1.toArray⟩,.string ⟨f.r.2.toArray⟩,.slice fo f.kids.length fc,.slice co cl.length cc] 54)
 have hX:=heap_alloc_new w (.cells #[.string ⟨r.1.toArray⟩,.string ⟨r.2.toArray⟩,.int .i64 f.op,.int .i64 f.k,.string ⟨f.r.1.toArray⟩,.string ⟨f.r.2.toArray⟩,.slice fo f.kids.length fc,.slice co cl.length cc] 54)
 have z0:=bC (hX) 0
 have z1:=bC (hX) 1
 have z2:=bC (hX) 2
 have z3:=bC (hX) 3
 have z4:=bC (hX) 4
 have z5:=bC (hX) 5
 have z6:=bC (hX) 6
 have z7:=bC (hX) 7
 simp only[lA,lZ,lS]at z0 z1 z2 z3 z4 z5 z6 z7
 have HQ:=hid (fm_right m f fo fc (w.alloc (.cells #[.string ⟨r.1.toArray⟩,.string ⟨r.2.toArray⟩,.int .i64 f.op,.int .i64 f.k,.string ⟨f.r.1.toArray⟩,.string ⟨f.r.2.toArray⟩,.slice fo f.kids.length fc,.slice co cl.length cc] 54)) (hfk.keep hcA (fun _ _=>id)) (fun i hi=>by have:=hD i hi;have:=hcA.size;omega) hok hN)
 have HSHC:Hid (∀x∈cl,credShort x 9223372036854775807):=hid (fun x hx=>by
  obtain⟨i,hi,rfl⟩:=List.getElem_of_mem hx
  obtain⟨_,_,_,_,_,h⟩:=hcr i hi
  exact h)
 have HALL:=hid (fun(W:World) (hW:Chg (fun _=>False) w W)=>gg_eachC co cc cl 64 #[] isCred W (enters Tryz.func64 rfl rfl) (hcr.keep hW (fun _ _=>id)) hl (fun d W2 _ _ hsh=>pcright d W2 hsh))
 have HRIS:=hid (fun(W:World) (hW:Chg (fun _=>False) w W)=>gg_riseC co cc cl W (hcr.keep hW (fun _ _=>id)) hl HSHC.out)
 have HX:=hid (aI hX hcA)
 clear hX hcA hfk hD hok hN hcr
 go_enter Tryz.func52,Tryz.ntmps52
 go_wp2_with fail
 refine HQ.out.mono ?_
 rintro e w5 ⟨rfl,hc5⟩
 have hX5:=bE HX.out.1 hc5 id
 have y0:=bC (hX5) 0
 have y1:=bC (hX5) 1
 have y2:=bC (hX5) 2
 have y3:=bC (hX5) 3
 have y4:=bC (hX5) 4
 have y5:=bC (hX5) 5
 have y6:=bC (hX5) 6
 have y7:=bC (hX5) 7
 simp only[lA,lZ,lS]at y0 y1 y2 y3 y4 y5 y6 y7
 have HCW:=hid (HX.out.2.trans hc5 (fun _ _ h=>h))
 have HX5:=hid hX5
 clear hX5 hc5 HQ z0 z1 z2 z3 z4 z5 z6 z7
 cases hf:isF f with
 | false=>
  have HE:Hid (okAb ⟨r,f,cl⟩=false):=hid (okAb_of ⟨fun h=>(by cases h),fun h=>by have:=h.1;rw[show (⟨r,f,cl⟩:AkB).rel=f from rfl,hf]at this;cases this⟩)
  clear hf
  go_wp2
  go_ret
  exact⟨by rw[HE.out];rfl,HCW.out⟩
 | true=>
  have HF:=hid hf
  have HQ2:=hid (HALL.out w5 HCW.out)
  clear hf
  go_wp2_with fail
  refine HQ2.out.mono ?_
  rintro e w6 ⟨rfl,hc6⟩
  have HC6:=hid (HCW.out.trans hc6 (fun _ _ h=>h))
  have hX6:=bE HX5.out hc6 id
  clear y0 y1 y2 y3 y4 y5 y6 y7
  have y0:=bC (hX6) 0
  have y1:=bC (hX6) 1
  have y2:=bC (hX6) 2
  have y3:=bC (hX6) 3
  have y4:=bC (hX6) 4
  have y5:=bC (hX6) 5
  have y6:=bC (hX6) 6
  have y7:=bC (hX6) 7
  simp only[lA,lZ,lS]at y0 y1 y2 y3 y4 y5 y6 y7
  clear hc6 HQ2 hX6
  cases ha:cl.all isCred with
  | false=>
   have HE:Hid (okAb ⟨r,f,cl⟩=false):=hid (okAb_of ⟨fun h=>(by cases h),fun h=>by rw[List.all_eq_true.2 h.2.1]at ha;cases ha⟩)
   clear ha
   go_wp2
   go_ret
   exact⟨by rw[HE.out];rfl,HC6.out⟩
  | true=>
   have HA:=hid ha
   have HQ3:=hid (HRIS.out w6 HC6.out)
   clear ha
   go_wp2_with fail
   refine HQ3.out.mono ?_
   rintro e w7 ⟨⟨bo,rfl,hbo⟩,hc7⟩
   have HE:Hid (okAb ⟨r,f,cl⟩=bo):=hid (okAb_of (by
    rw[←okA_iff (r:=r) (f:=f) hbo,HF.out,HA.out]
    simp))
   have HC7:=hid (HC6.out.trans hc7 (fun _ _ h=>h))
   clear hc7 HQ3 hbo
   go_wp2
   go_ret
   exact⟨by rw[HE.out];rfl,HC7.out⟩
end
section
open Go.RowKit
theorem gds_short {D:Nat→Prop} {w:World} {n:Nat} {ao:Option Addr} {ls:List GdB} (h:GdsAt D w n ao ls):∀x∈ls,credShort x.cred 9223372036854775807∧x.tag.length≤9223372036854775807:=fun x hx=>by
 obtain⟨i,hi,rfl⟩:=List.getElem_of_mem hx
 obtain⟨_,_,_,_,h1,_⟩:=h i hi
 exact⟨h1.sh,h1.ln⟩
set_option maxRecDepth 100000 in
theorem gg_rightCreds {D:Nat→Prop} (n:Nat) (po:Option Addr) (pc:Nat) (ls:List GdB) (w:World) (hst:GdsAt D w n po ls) (hD:∀i,D i→i<w.heap.size) (hl:ls.length≤4000) (hN:∀x∈ls,nodesF x.rel≤4096) :
  Calls Tryz.prog 24 #[.slice po ls.length pc] w fun e w'=>(∃bo:Bool,e = .returned (.bool bo)∧(bo=true↔(∀x∈ls,okG x=true)∧RisingG ltC (ls.map (·.cred))))∧Chg (fun _=>False) w w':=by
 have HSH:=hid (gds_short hst)
 have HALL:=hid (fun(W:World) (hW:Chg (fun _=>False) w W)=>gg_eachG n po pc ls 48 #[] okG W (enters Tryz.func48 rfl rfl) (hst.keep hW (fun _ _=>id)) hl (fun d tg f ta tl tc m fo fc W2 hmem hW2 htl hsh hfk hok _=>gg_rightCred d tg f ta tl tc m fo fc W2 htl hsh hfk (fun i hi=>by have:=hD i hi;have:=hW.size;have:=hW2.size;omega) hok (hN _ hmem) (by rw[htl];exact(HSH.out _ hmem).2)))
 have HRIS:=hid (fun(W:World) (hW:Chg (fun _=>False) w W)=>gg_riseG n po pc ls W (hst.keep hW (fun _ _=>id)) hl (fun x hx=>(HSH.out x hx).1))
 have HA0:Hid (ls.all okG=false→¬((∀x∈ls,okG x=true)∧RisingG ltC (ls.map (·.cred)))):=hid (fun h h2=>by rw[List.all_eq_true.2 h2.1]at h;cases h)
 have HA1:Hid (ls.all okG=true→∀bo:Bool,(bo=true↔AdjP (fun x y=>cmpC x.cred y.cred<0) ls)→(bo=true↔(∀x∈ls,okG x=true)∧RisingG ltC (ls.map (·.cred)))):=hid (fun h bo hb=>by
  have h1:=List.all_eq_true.1 h
  have h2:∀c∈ls.map (·.cred),isCred c=true:=fun c hc=>by
   obtain⟨x,hx,rfl⟩:=List.mem_map.1 hc
   have:=h1 x hx
   simp only[okG,Bool.and_eq_true]at this
   exact this.1
  rw[hb,←rises_creds h2,adj_map]
  exact⟨fun h=>⟨h1,h⟩,fun h=>h.2⟩)
 clear hst hD hl hN
 go_enter Tryz.func24,Tryz.ntmps24
 go_wp2_with fail
 refine(HALL.out w R0).mono ?_
 rintro e w5 ⟨rfl,hc5⟩
 have HC5:=hid hc5
 clear hc5
 cases ha:ls.all okG with
 | false=>
  have HN:=hid (HA0.out ha)
  clear ha
  go_wp2
  go_ret
  exact⟨⟨false,rfl,⟨fun h=>(by cases h),fun h=>absurd h HN.out⟩⟩,HC5.out⟩
 | true=>
  have HT:=hid ha
  have HQ3:=hid (HRIS.out w5 HC5.out)
  clear ha
  go_wp2_with fail
  refine HQ3.out.mono ?_
  rintro e w7 ⟨⟨bo,rfl,hbo⟩,hc7⟩
  have HE:=hid (aI (HA1.out HT.out bo hbo) (HC5.out.trans hc7 (fun _ _ h=>h)))
  clear hc7 HQ3 hbo
  go_wp2
  go_ret
  exact⟨⟨bo,rfl,HE.out.1⟩,HE.out.2⟩
set_option maxRecDepth 100000 in
theorem gg_rightAcks {D:Nat→Prop} (n:Nat) (po:Option Addr) (pc:Nat) (ls:List AkB) (w:World) (hst:AksAt D w n po ls) (hD:∀i,D i→i<w.heap.size) (hl:ls.length≤4000) (hN:∀x∈ls,nodesF x.rel≤4096∧x.clo.length≤4000) :
  Calls Tryz.prog 25 #[.slice po ls.length pc] w fun e w'=>(∃bo:Bool,e = .returned (.bool bo)∧(bo=true↔(∀x∈ls,okA x)∧RisingG ltR (ls.map (·.role))))∧Chg (fun _=>False) w w':=by
 have HALL:=hid (fun(W:World) (hW:Chg (fun _=>False) w W)=>gg_eachA n po pc ls 52 #[] okAb W (enters Tryz.func52 rfl rfl) (hst.keep hW (fun _ _=>id)) hl (fun r f cl m fo fc co cc W2 hmem hW2 hfk hok _ hcr _=>gg_rightAck r f cl m fo fc co cc W2 hfk (fun i hi=>by have:=hD i hi;have:=hW.size;have:=hW2.size;omega) hok (hN _ hmem).1 hcr (hN _ hmem).2))
 have HRIS:=hid (fun(W:World) (hW:Chg (fun _=>False) w W)=>gg_riseA n po pc ls W (hst.keep hW (fun _ _=>id)) hl trivial)
 have hkey:(ls.all okAb=true)↔∀x∈ls,okA x:=by
  rw[List.all_eq_true]
  refine forall_congr' fun x=>forall_congr' fun _=>?_
  unfold okAb
  exact @decide_eq_true_iff _ (Classical.propDecidable _)
 have HA0:Hid (ls.all okAb=false→¬((∀x∈ls,okA x)∧RisingG ltR (ls.map (·.role)))):=hid (fun h h2=>by rw[hkey.2 h2.1]at h;cases h)
 have HA1:Hid (ls.all okAb=true→∀bo:Bool,(bo=true↔AdjP (fun x y=>cmpR x.role y.role<0) ls)→(bo=true↔(∀x∈ls,okA x)∧RisingG ltR (ls.map (·.role)))):=hid (fun h bo hb=>by
  have h1:=hkey.1 h
  rw[hb,←rises_roles,adj_map]
  exact⟨fun h=>⟨h1,h⟩,fun h=>h.2⟩)
 clear hst hD hl hN hkey
 go_enter Tryz.func25,Tryz.ntmps25
 go_wp2_with fail
 refine(HALL.out w R0).mono ?_
 rintro e w5 ⟨rfl,hc5⟩
 have HC5:=hid hc5
 clear hc5
 cases ha:ls.all okAb with
 | false=>
  have HN:=hid (HA0.out ha)
  clear ha
  go_wp2
  go_ret
  exact⟨⟨false,rfl,⟨fun h=>(by cases h),fun h=>absurd h HN.out⟩⟩,HC5.out⟩
 | true=>
  have HT:=hid ha
  have HQ3:=hid (HRIS.out w5 HC5.out)
  clear ha
  go_wp2_with fail
  refine HQ3.out.mono ?_
  rintro e w7 ⟨⟨bo,rfl,hbo⟩,hc7⟩
  have HE:=hid (aI (HA1.out HT.out bo hbo) (HC5.out.trans hc7 (fun _ _ h=>h)))
  clear hc7 HQ3 hbo
  go_wp2
  go_ret
  exact⟨⟨bo,rfl,HE.out.1⟩,HE.out.2⟩
/-- Is its guard right? -/
def gdOk (p:PartyB) (x:GdB):Prop:=∃y,GuardR x p.acks 0 y
open Classical in
noncomputable def gdOkb (p:PartyB) (x:GdB):Bool:=decide (gdOk p x)
theorem gdOkb_of {p:PartyB} {x:GdB} {k:Int} {y:FmB} (h:GuardR x p.acks k y):gdOkb p x=(k==0):=by
 unfold gdOkb
 by_cases hk:k=0
 ·subst hk
  rw[show ((0:Int)==0)=true from rfl]
  exact(@decide_eq_true_iff _ (Classical.propDecidable _)).2 ⟨y,h⟩
 ·rw[beq_eq_false_iff_ne.2 hk]
  refine(@decide_eq_false_iff_not _ (Classical.propDecidable _)).2 fun⟨y2,h2⟩=>hk ?_
  exact(h.det h2).1
set_option maxRecDepth 100000 in
set_option maxHeartbeats 4000000 in
theorem gg_guards1 {D:Nat→Prop} (n:Nat) (p:PartyB) (po:Option Addr) (pc:Nat) (ao:Option Addr) (ac:Nat) (d:CredB) (tg:List UInt8) (f:FmB) (ta:Option Addr) (tl tc m:Nat) (fo:Option Addr) (fc:Nat) (bp:Nat) (w:World) (hp:PartyAt D w n p po pc ao ac) (hg:greatP p≤4000) (hb:w.heap[bp]? = some (.cells #[.string ⟨p.name.toArray⟩,.slice po p.creds.length pc,.slice ao p.acks.length ac] 25 (0,0))) (hc:credShort d 20000) (hfk:FmsAt D w m fo f.kids) (hok:FmOk f) (hN:nodesF f≤200) :
  Calls Tryz.prog 55 #[.agg #[.int .i64 d.kind,.string ⟨d.head.1.toArray⟩,.string ⟨d.head.2.toArray⟩,.string ⟨d.who.toArray⟩,.string ⟨d.b.1.toArray⟩,.string ⟨d.b.2.toArray⟩,.string ⟨d.c.1.toArray⟩,.string ⟨d.c.2.toArray⟩,.string ⟨d.w2.toArray⟩,.slice ta tl tc,.int .i64 f.op,.int .i64 f.k,.string ⟨f.r.1.toArray⟩,.string ⟨f.r.2.toArray⟩,.slice fo f.kids.length fc],.pointer (some ⟨bp,0,none⟩)] w fun e w'=>e = .returned (.bool (gdOkb p ⟨d,tg,f⟩))∧Chg (fun _=>False) w w':=by
 have hcA:=alc w (.cells #[.int .i64 d.kind,.string ⟨d.head.1.toArray⟩,.string ⟨d.head.2.toArray⟩,.string ⟨d.who.toArray⟩,.string ⟨d.b.1.toArray⟩,.string ⟨d.b.2.toArray⟩,.string ⟨d.c.1.toArray⟩,.string ⟨d.c.2.toArray⟩,.string ⟨d.w2.toArray⟩,.slice ta tl tc,.int .i64 f.op,.int .i64 f.k,.string ⟨f.r.1.toArray⟩,.string ⟨f.r.2.toArray⟩,.slice fo f.kids.length fc] 48)
 have hX:=heap_alloc_new w (.cells #[.int .i64 d.kind,.string ⟨d.head.1.toArray⟩,.string ⟨d.head.2.toArray⟩,.string ⟨d.who.toArray⟩,.string ⟨d.b.1.toArray⟩,.string ⟨d.b.2.toArray⟩,.string ⟨d.c.1.toArray⟩,.string ⟨d.c.2.toArray⟩,.string ⟨d.w2.toArray⟩,.slice ta tl tc,.int .i64 f.op,.int .i64 f.k,.string ⟨f.r.1.toArray⟩,.string ⟨f.r.2.toArray⟩,.slice fo f.kids.length fc] 48)
 have z0:=bC (hX) 0
 have z1:=bC (hX) 1
 have z2:=bC (hX) 2
 have z3:=bC (hX) 3
 have z4:=bC (hX) 4
 have z5:=bC (hX) 5
 have z6:=bC (hX) 6
 have z7:=bC (hX) 7
 have z8:=bC (hX) 8
 have z9:=bC (hX) 9
 have z10:=bC (hX) 10
 have z11:=bC (hX) 11
 have z12:=bC (hX) 12
 have z13:=bC (hX) 13
 have z14:=bC (hX) 14
 simp only[lA,lZ,lS]at z0 z1 z2 z3 z4 z5 z6 z7 z8 z9 z10 z11 z12 z13 z14
 have hB:=bE hb hcA id
 have y0:=bC (hB) 0
 have y1:=bC (hB) 1
 have y2:=bC (hB) 2
 simp only[lA,lZ,lS]at y0 y1 y2
 have HQ:=hid (gg_guard (E:=D) n p po pc ao ac d tg ta tl tc f m fo fc (w.alloc (.cells #[.int .i64 d.kind,.string ⟨d.head.1.toArray⟩,.string ⟨d.head.2.toArray⟩,.string ⟨d.who.toArray⟩,.string ⟨d.b.1.toArray⟩,.string ⟨d.b.2.toArray⟩,.string ⟨d.c.1.toArray⟩,.string ⟨d.c.2.toArray⟩,.string ⟨d.w2.toArray⟩,.slice ta tl tc,.int .i64 f.op,.int .i64 f.k,.string ⟨f.r.1.toArray⟩,.string ⟨f.r.2.toArray⟩,.slice fo f.kids.length fc] 48)) (hp.keep hcA (fun _ _=>id)) hg hc (hfk.keep hcA (fun _ _=>id)) (fun i hi=>by have:=hp.lt i hi;have:=hcA.size;omega) hok hN)
 have HC:=hid hcA
 clear hcA hX hB hb hp hg hc hfk hok hN
 go_enter Tryz.func55,Tryz.ntmps55
 go_wp2_with fail
 refine HQ.out.mono ?_
 rintro e w5 ⟨y,kk,rfl,ho5,hnd5,hgr5,hc5⟩
 obtain⟨yo,yc,g1,g5,g2,g3,g4⟩:=own_val ho5
 have hfy:fmV y = .agg #[.int .i64 (eraseA y).op,.int .i64 (eraseA y).k,.string ⟨(eraseA y).r.1.toArray⟩,.string ⟨(eraseA y).r.2.toArray⟩,.slice yo (eraseA y).kids.length yc]:=by rw[←g1];rfl
 rw[hfy]
 have hcF:=alc w5 (.cells #[.int .i64 (eraseA y).op,.int .i64 (eraseA y).k,.string ⟨(eraseA y).r.1.toArray⟩,.string ⟨(eraseA y).r.2.toArray⟩,.slice yo (eraseA y).kids.length yc] 46)
 have HE:=hid (aI (gdOkb_of hgr5) ((HC.out.trans hc5 (fun _ _ h=>h)).trans hcF (fun _ _ h=>h)))
 clear ho5 hnd5 hgr5 hc5 g1 g2 g3 g4 g5 hfy hcF HQ
 go_wp2
 go_ret
 exact⟨by rw[HE.out.1];rfl,HE.out.2⟩
set_option maxRecDepth 100000 in
set_option maxHeartbeats 4000000 in
theorem gg_rightGuards {D:Nat→Prop} (n:Nat) (p:PartyB) (po:Option Addr) (pc:Nat) (ao:Option Addr) (ac:Nat) (w:World) (hp:PartyAt D w n p po pc ao ac) (hg:greatP p≤4000) :
  Calls Tryz.prog 26 #[.agg #[.string ⟨p.name.toArray⟩,.slice po p.creds.length pc,.slice ao p.acks.length ac]] w fun e w'=>e = .returned (.bool (p.creds.all (gdOkb p)))∧Chg (fun _=>False) w w':=by
 have hmf:∀(fn:Fn) (first cap:Array Value) (w:World),(Instr.makeFunc fn first cap).run Tryz.prog w = .ok (.func fn first cap) w:=fun _ _ _ _=>rfl
 have k1:=alc w (.cells #[.string ⟨p.name.toArray⟩,.slice po p.creds.length pc,.slice ao p.acks.length ac] 25)
 have hP:=heap_alloc_new w (.cells #[.string ⟨p.name.toArray⟩,.slice po p.creds.length pc,.slice ao p.acks.length ac] 25)
 have y0:=bC (hP) 0
 have y1:=bC (hP) 1
 have y2:=bC (hP) 2
 simp only[lA,lZ,lS]at y0 y1 y2
 have HGS:=hid (gp_short hg)
 have hpk:=hp.keep k1 (fun _ _=>id)
 have hQ:=gg_eachG n po pc p.creds 55 #[.pointer (some ⟨w.heap.size,0,none⟩)] (gdOkb p) (w.alloc (.cells #[.string ⟨p.name.toArray⟩,.slice po p.creds.length pc,.slice ao p.acks.length ac] 25)) (enters Tryz.func55 rfl rfl) hpk.gds (gp_acks hg).2.1 (fun d tg f ta tl tc m fo fc W hmem hW htl hsh hfk hok _=>gg_guards1 n p po pc ao ac d tg f ta tl tc m fo fc w.heap.size W (hpk.keep hW (fun _ _=>id)) hg (bE hP hW id) (HGS.out _ hmem).1 hfk hok (HGS.out _ hmem).2)
 have HQ:=hid hQ
 have HC:=hid k1
 clear hQ hpk k1 hP hp hg
 go_enter Tryz.func26,Tryz.ntmps26
 go_wp2_with fail
 refine HQ.out.mono ?_
 rintro e w5 ⟨rfl,hc5⟩
 have HE:=hid (HC.out.trans hc5 (fun _ _ h=>h))
 clear hc5 HQ
 go_wp2
 go_ret
 exact⟨rfl,HE.out⟩
end
end Go.Proofs.YtkfinhpfdcjoeaaGreat
