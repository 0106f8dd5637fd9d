/- Texts that the proof leans on, in one: GgRise, GgRiseA. -/
import Derived.Test.YtkfinhpfdcjoeaaGreatNa29
import Derived.Test.YtkfinhpfdcjoeaaGreatNa28
import Derived.Test.YtkfinhpfdcjoeaaGreatNa7
/- guard's rising and what it compares by. -/
namespace Go.Proofs.YtkfinhpfdcjoeaaGreat
section
open Go.RowKit
set_option maxRecDepth 100000 in
set_option maxHeartbeats 4000000 in
theorem gg_cmpCreds (d:CredB) (ta:Option Addr) (tl tc:Nat) (f:FmB) (fo:Option Addr) (fc:Nat) (d9:CredB) (ta9:Option Addr) (tl9 tc9:Nat) (f9:FmB) (fo9:Option Addr) (fc9:Nat) (w:World) (h1:credShort d 9223372036854775807) (h2:credShort d9 9223372036854775807) :
  Calls Tryz.prog 50 #[.agg #[.int .i64 d.kind,.string ⟨d.head.1.toArray⟩,.string ⟨d.head.2.toArray⟩,.string ⟨d.who.toArray⟩,.string ⟨d.b.1.toArray⟩,.string ⟨d.b.2.toArray⟩,.string ⟨d.c.1.toArray⟩,.string ⟨d.c.2.toArray⟩,.string ⟨d.w2.toArray⟩,.slice ta tl tc,.int .i64 f.op,.int .i64 f.k,.string ⟨f.r.1.toArray⟩,.string ⟨f.r.2.toArray⟩,.slice fo f.kids.length fc],.agg #[.int .i64 d9.kind,.string ⟨d9.head.1.toArray⟩,.string ⟨d9.head.2.toArray⟩,.string ⟨d9.who.toArray⟩,.string ⟨d9.b.1.toArray⟩,.string ⟨d9.b.2.toArray⟩,.string ⟨d9.c.1.toArray⟩,.string ⟨d9.c.2.toArray⟩,.string ⟨d9.w2.toArray⟩,.slice ta9 tl9 tc9,.int .i64 f9.op,.int .i64 f9.k,.string ⟨f9.r.1.toArray⟩,.string ⟨f9.r.2.toArray⟩,.slice fo9 f9.kids.length fc9]] w fun e w'=>e = .returned (.int .i64 (cmpC d d9))∧Chg (fun _=>False) w w':=by
 have hs1:(w.alloc (.cells #[.int .i64 d.kind,.string ⟨d.head.1.toArray⟩,.string ⟨d.head.2.toArray⟩,.string ⟨d.who.toArray⟩,.string ⟨d.b.1.toArray⟩,.string ⟨d.b.2.toArray⟩,.string ⟨d.c.1.toArray⟩,.string ⟨d.c.2.toArray⟩,.string ⟨d.w2.toArray⟩,.slice ta tl tc,.int .i64 f.op,.int .i64 f.k,.string ⟨f.r.1.toArray⟩,.string ⟨f.r.2.toArray⟩,.slice fo f.kids.length fc] 48)).heap.size=w.heap.size+1:=by simp
 have k1:=alc w (.cells #[.int .i64 d.kind,.string ⟨d.head.1.toArray⟩,.string ⟨d.head.2.toArray⟩,.string ⟨d.who.toArray⟩,.string ⟨d.b.1.toArray⟩,.string ⟨d.b.2.toArray⟩,.string ⟨d.c.1.toArray⟩,.string ⟨d.c.2.toArray⟩,.string ⟨d.w2.toArray⟩,.slice ta tl tc,.int .i64 f.op,.int .i64 f.k,.string ⟨f.r.1.toArray⟩,.string ⟨f.r.2.toArray⟩,.slice fo f.kids.length fc] 48)
 have k2:=alc (w.alloc (.cells #[.int .i64 d.kind,.string ⟨d.head.1.toArray⟩,.string ⟨d.head.2.toArray⟩,.string ⟨d.who.toArray⟩,.string ⟨d.b.1.toArray⟩,.string ⟨d.b.2.toArray⟩,.string ⟨d.c.1.toArray⟩,.string ⟨d.c.2.toArray⟩,.string ⟨d.w2.toArray⟩,.slice ta tl tc,.int .i64 f.op,.int .i64 f.k,.string ⟨f.r.1.toArray⟩,.string ⟨f.r.2.toArray⟩,.slice fo f.kids.length fc] 48)) (.cells #[.int .i64 d9.kind,.string ⟨d9.head.1.toArray⟩,.string ⟨d9.head.2.toArray⟩,.string ⟨d9.who.toArray⟩,.string ⟨d9.b.1.toArray⟩,.string ⟨d9.b.2.toArray⟩,.string ⟨d9.c.1.toArray⟩,.string ⟨d9.c.2.toArray⟩,.string ⟨d9.w2.toArray⟩,.slice ta9 tl9 tc9,.int .i64 f9.op,.int .i64 f9.k,.string ⟨f9.r.1.toArray⟩,.string ⟨f9.r.2.toArray⟩,.slice fo9 f9.kids.length fc9] 48)
 have hA:=bE (heap_alloc_new w (.cells #[.int .i64 d.kind,.string ⟨d.head.1.toArray⟩,.string ⟨d.head.2.toArray⟩,.string ⟨d.who.toArray⟩,.string ⟨d.b.1.toArray⟩,.string ⟨d.b.2.toArray⟩,.string ⟨d.c.1.toArray⟩,.string ⟨d.c.2.toArray⟩,.string ⟨d.w2.toArray⟩,.slice ta tl tc,.int .i64 f.op,.int .i64 f.k,.string ⟨f.r.1.toArray⟩,.string ⟨f.r.2.toArray⟩,.slice fo f.kids.length fc] 48)) k2 id
 have hB:=heap_alloc_new (w.alloc (.cells #[.int .i64 d.kind,.string ⟨d.head.1.toArray⟩,.string ⟨d.head.2.toArray⟩,.string ⟨d.who.toArray⟩,.string ⟨d.b.1.toArray⟩,.string ⟨d.b.2.toArray⟩,.string ⟨d.c.1.toArray⟩,.string ⟨d.c.2.toArray⟩,.string ⟨d.w2.toArray⟩,.slice ta tl tc,.int .i64 f.op,.int .i64 f.k,.string ⟨f.r.1.toArray⟩,.string ⟨f.r.2.toArray⟩,.slice fo f.kids.length fc] 48)) (.cells #[.int .i64 d9.kind,.string ⟨d9.head.1.toArray⟩,.string ⟨d9.head.2.toArray⟩,.string ⟨d9.who.toArray⟩,.string ⟨d9.b.1.toArray⟩,.string ⟨d9.b.2.toArray⟩,.string ⟨d9.c.1.toArray⟩,.string ⟨d9.c.2.toArray⟩,.string ⟨d9.w2.toArray⟩,.slice ta9 tl9 tc9,.int .i64 f9.op,.int .i64 f9.k,.string ⟨f9.r.1.toArray⟩,.string ⟨f9.r.2.toArray⟩,.slice fo9 f9.kids.length fc9] 48)
 rw[hs1]at hB
 have y0:=bC (hA) 0
 have y1:=bC (hA) 1
 have y2:=bC (hA) 2
 have y3:=bC (hA) 3
 have y4:=bC (hA) 4
 have y5:=bC (hA) 5
 have y6:=bC (hA) 6
 have y7:=bC (hA) 7
 have y8:=bC (hA) 8
 simp only[lA,lZ,lS]at y0 y1 y2 y3 y4 y5 y6 y7 y8
 have z0:=bC (hB) 0
 have z1:=bC (hB) 1
 have z2:=bC (hB) 2
 have z3:=bC (hB) 3
 have z4:=bC (hB) 4
 have z5:=bC (hB) 5
 have z6:=bC (hB) 6
 have z7:=bC (hB) 7
 have z8:=bC (hB) 8
 simp only[lA,lZ,lS]at z0 z1 z2 z3 z4 z5 z6 z7 z8
 have HQ:=hid (pccompare d d9 ((w.alloc (.cells #[.int .i64 d.kind,.string ⟨d.head.1.toArray⟩,.string ⟨d.head.2.toArray⟩,.string ⟨d.who.toArray⟩,.string ⟨d.b.1.toArray⟩,.string ⟨d.b.2.toArray⟩,.string ⟨d.c.1.toArray⟩,.string ⟨d.c.2.toArray⟩,.string ⟨d.w2.toArray⟩,.slice ta tl tc,.int .i64 f.op,.int .i64 f.k,.string ⟨f.r.1.toArray⟩,.string ⟨f.r.2.toArray⟩,.slice fo f.kids.length fc] 48)).alloc (.cells #[.int .i64 d9.kind,.string ⟨d9.head.1.toArray⟩,.string ⟨d9.head.2.toArray⟩,.string ⟨d9.who.toArray⟩,.string ⟨d9.b.1.toArray⟩,.string ⟨d9.b.2.toArray⟩,.string ⟨d9.c.1.toArray⟩,.string ⟨d9.c.2.toArray⟩,.string ⟨d9.w2.toArray⟩,.slice ta9 tl9 tc9,.int .i64 f9.op,.int .i64 f9.k,.string ⟨f9.r.1.toArray⟩,.string ⟨f9.r.2.toArray⟩,.slice fo9 f9.kids.length fc9] 48)) h1 h2)
 unfold credV credBox at HQ
 have HK:=hid (k1.trans k2 (fun _ _ h=>h))
 clear hs1 k1 k2 hA hB h1 h2
 go_enter Tryz.func50,Tryz.ntmps50
 go_wp2_with fail
 refine HQ.out.mono ?_
 rintro e w5 ⟨rfl,hc5⟩
 have HC:=hid (HK.out.trans hc5 (fun _ _ h=>h))
 clear hc5 HQ
 go_wp2
 go_ret
 exact⟨rfl,HC.out⟩
set_option maxRecDepth 100000 in
set_option maxHeartbeats 4000000 in
theorem gg_cmpAcks (r:RoleB) (f:FmB) (cl:List CredB) (fo:Option Addr) (fc:Nat) (co:Option Addr) (cc:Nat) (r9:RoleB) (f9:FmB) (cl9:List CredB) (fo9:Option Addr) (fc9:Nat) (co9:Option Addr) (cc9:Nat) (w:World) :
  Calls Tryz.prog 54 #[.agg #[.string ⟨r.1.toArray⟩,.string ⟨r.2.toArray⟩,.int .i64 f.op,.int .i64 f.k,.string ⟨f.r.1.toArray⟩,.string ⟨f.r.2.toArray⟩,.slice fo f.kids.length fc,.slice co cl.length cc],.agg #[.string ⟨r9.1.toArray⟩,.string ⟨r9.2.toArray⟩,.int .i64 f9.op,.int .i64 f9.k,.string ⟨f9.r.1.toArray⟩,.string ⟨f9.r.2.toArray⟩,.slice fo9 f9.kids.length fc9,.slice co9 cl9.length cc9]] w fun e w'=>e = .returned (.int .i64 (cmpR r r9))∧Chg (fun _=>False) w w':=by
 have hs1:(w.alloc (.cells #[.string ⟨r.1.toArray⟩,.string ⟨r.2.toArray⟩,.int .i64 f.op,.int .i64 f.k,.string ⟨f.r.1.toArray⟩,.string ⟨f.r.2.toArray⟩,.slice fo f.kids.length fc,.slice co cl.length cc] 54)).heap.size=w.heap.size+1:=by simp
 have k1:=alc w (.cells #[.string ⟨r.1.toArray⟩,.string ⟨r.2.toArray⟩,.int .i64 f.op,.int .i64 f.k,.string ⟨f.r.1.toArray⟩,.string ⟨f.r.2.toArray⟩,.slice fo f.kids.length fc,.slice co cl.length cc] 54)
 have k2:=alc (w.alloc (.cells #[.string ⟨r.1.toArray⟩,.string ⟨r.2.toArray⟩,.int .i64 f.op,.int .i64 f.k,.string ⟨f.r.1.toArray⟩,.string ⟨f.r.2.toArray⟩,.slice fo f.kids.length fc,.slice co cl.length cc] 54)) (.cells #[.string ⟨r9.1.toArray⟩,.string ⟨r9.2.toArray⟩,.int .i64 f9.op,.int .i64 f9.k,.string ⟨f9.r.1.toArray⟩,.string ⟨f9.r.2.toArray⟩,.slice fo9 f9.kids.length fc9,.slice co9 cl9.length cc9] 54)
 have hA:=bE (heap_alloc_new w (.cells #[.string ⟨r.1.toArray⟩,.string ⟨r.2.toArray⟩,.int .i64 f.op,.int .i64 f.k,.string ⟨f.r.1.toArray⟩,.string ⟨f.r.2.toArray⟩,.slice fo f.kids.length fc,.slice co cl.length cc] 54)) k2 id
 have hB:=heap_alloc_new (w.alloc (.cells #[.string ⟨r.1.toArray⟩,.string ⟨r.2.toArray⟩,.int .i64 f.op,.int .i64 f.k,.string ⟨f.r.1.toArray⟩,.string ⟨f.r.2.toArray⟩,.slice fo f.kids.length fc,.slice co cl.length cc] 54)) (.cells #[.string ⟨r9.1.toArray⟩,.string ⟨r9.2.toArray⟩,.int .i64 f9.op,.int .i64 f9.k,.string ⟨f9.r.1.toArray⟩,.string ⟨f9.r.2.toArray⟩,.slice fo9 f9.kids.length fc9,.slice co9 cl9.length cc9] 54)
 rw[hs1]at hB
 have y0:=bC (hA) 0
 have y1:=bC (hA) 1
 simp only[lA,lZ,lS]at y0 y1
 have z0:=bC (hB) 0
 have z1:=bC (hB) 1
 simp only[lA,lZ,lS]at z0 z1
 have HQ:=hid (pcompare r r9 ((w.alloc (.cells #[.string ⟨r.1.toArray⟩,.string ⟨r.2.toArray⟩,.int .i64 f.op,.int .i64 f.k,.string ⟨f.r.1.toArray⟩,.string ⟨f.r.2.toArray⟩,.slice fo f.kids.length fc,.slice co cl.length cc] 54)).alloc (.cells #[.string ⟨r9.1.toArray⟩,.string ⟨r9.2.toArray⟩,.int .i64 f9.op,.int .i64 f9.k,.string ⟨f9.r.1.toArray⟩,.string ⟨f9.r.2.toArray⟩,.slice fo9 f9.kids.length fc9,.slice co9 cl9.length cc9] 54)))
 unfold roleV at HQ
 have HK:=hid (k1.trans k2 (fun _ _ h=>h))
 clear hs1 k1 k2 hA hB
 go_enter Tryz.func54,Tryz.ntmps54
 go_wp2_with fail
 refine HQ.out.mono ?_
 rintro e w5 ⟨rfl,hc5⟩
 have HC:=hid (HK.out.trans hc5 (fun _ _ h=>h))
 clear hc5 HQ
 go_wp2
 go_ret
 exact⟨rfl,HC.out⟩
set_option maxRecDepth 100000 in
set_option maxHeartbeats 8000000 in
theorem gg_riseC {D:Nat→Prop} (ao:Option Addr) (cp:Nat) (ls:List CredB) (w:World) (hst:CredsAt D w ao ls) (hl:ls.length≤4000) (hsh:∀x∈ls,credShort x 9223372036854775807) :
  Calls Tryz.prog 75 #[.slice ao ls.length cp,.func (.func 73) #[] #[]] w fun e w'=>(∃bo:Bool,e = .returned (.bool bo)∧(bo=true↔AdjP (fun x y=>cmpC x y<0) ls))∧Chg (fun _=>False) w w':=by
 have HST:=hid hst
 have HSH:=hid hsh
 obtain⟨ln,hln⟩:∃ln,ln=ls.length:=⟨_,rfl⟩
 rw[←hln]at hl ⊢
 have HLN:=hid hln
 clear hst hsh hln
 go_enter Tryz.func75,Tryz.ntmps75
 go_wp2
 go_loopw [5] (fun i wr=>∃j:Nat,1≤j∧(j≤ln∨j=1)∧i = .int .i64 j∧Hid ((∀i (h:i+1<ls.length),i+1<j→(fun x y=>cmpC x y<0) (ls[i]'(by omega)) ls[i+1])∧Chg (fun _=>False) w wr)) (fun i _=>ln-(intOf i).toNat)
 case atStart=>exact⟨1,Nat.le_refl _,.inr rfl,rfl,hid ⟨fun i _ h=>absurd h (by omega),Chg.refl _ _⟩⟩
 case round=>
  obtain⟨j,hj1,hj2,rfl,hrel⟩:=hrel
  by_cases hlj:j<ln
  ·have hlt:j<ls.length:=by rw[←HLN.out];exact hlj
   obtain⟨m,hm⟩:∃m,j=m+1:=⟨j-1,by omega⟩
   have hm2:m<ls.length:=by omega
   have hcw:=HST.out.keep hrel.out.2 (fun _ _=>id)
   have HAD:Hid (((fun x y=>cmpC x y<0) (ls[m]'hm2) (ls[j]'hlt)→∀i (h:i+1<ls.length),i+1<j+1→(fun x y=>cmpC x y<0) (ls[i]'(by omega)) ls[i+1])∧(¬(fun x y=>cmpC x y<0) (ls[m]'hm2) (ls[j]'hlt)→¬AdjP (fun x y=>cmpC x y<0) ls)):=hid ⟨fun h i hi hij=>by
    by_cases e:i=m
    ·subst hm
     subst e
     exact h
    ·exact hrel.out.1 i hi (by omega),fun h ha=>h (by
     subst hm
     exact ha m (by omega))⟩
   have hshx:=(HSH.out _ (List.getElem_mem hm2))
   have hshy:=(HSH.out _ (List.getElem_mem hlt))
   have HWR:Hid (IntKind.i64.wrap ((j:Int)-1)=(m:Int)):=hid (by rw[IntKind.wrap_i64];omega)
   have HJ:Hid (m<ln∧j<ln):=hid ⟨by omega,hlj⟩
   obtain⟨b,off,hao,hD,⟨a0,a1,a2,a3,a4,a5,a6,a7,a8⟩,hsh⟩:=hcw m hm2
   obtain⟨b9,off9,hao9,hD9,⟨a90,a91,a92,a93,a94,a95,a96,a97,a98⟩,hsh9⟩:=hcw j hlt
   generalize ls[m]=x at *
   generalize ls[j]=y at *
   obtain⟨d,hd⟩:∃d,d=x:=⟨_,rfl⟩
   obtain⟨d9,hd9⟩:∃d,d=y:=⟨_,rfl⟩
   subst hd hd9
   skip
   skip
   skip
   have hC1:=hrel.out.2
   have HCM:=hid (fun(W2:World) (_:Chg (fun _=>False) wr W2)=>pccompare d d9 W2 hshx hshy)
   obtain⟨cv,hcv⟩:∃cv,cv=cmpC d d9:=⟨_,rfl⟩
   simp only[credV,credBox,←hcv]at HCM HAD
   have HC1:=hid hC1
   obtain⟨gq,hgq⟩:∃g,g=decide (cv≥0):=⟨_,rfl⟩
   have HGQ:=hid hgq
   clear hgq hcv hC1 hrel hcw hm hm2 hlt hshx hshy   
   subst hao
   have hao9:=hao9
   simp only[Option.some.injEq,Addr.mk.injEq,and_true]at hao9
   obtain⟨rfl,rfl⟩:=hao9
   go_wp2_with fail
   refine wp_region_specs [.eq (.slice (some ⟨b,off,none⟩) ln cp),.eq (.func (.func 73) #[] #[]),.any,.any,.any,.eq (.int .i64 j),.any,.any,.any,.any,.any,.any,.eq (.func (.func 73) #[] #[]),.eq (.slice (some ⟨b,off,none⟩) ln cp),.eq (.int .i64 j),.eq (.int .i64 m),.eq (.pointer (some ⟨b,off+m*9,none⟩)),.eq (.agg #[.int .i64 d.kind,.string ⟨d.head.1.toArray⟩,.string ⟨d.head.2.toArray⟩,.string ⟨d.who.toArray⟩,.string ⟨d.b.1.toArray⟩,.string ⟨d.b.2.toArray⟩,.string ⟨d.c.1.toArray⟩,.string ⟨d.c.2.toArray⟩,.string ⟨d.w2.toArray⟩]),.eq (.slice (some ⟨b,off,none⟩) ln cp),.eq (.int .i64 j),.eq (.pointer (some ⟨b,off+j*9,none⟩)),.eq (.agg #[.int .i64 d9.kind,.string ⟨d9.head.1.toArray⟩,.string ⟨d9.head.2.toArray⟩,.string ⟨d9.who.toArray⟩,.string ⟨d9.b.1.toArray⟩,.string ⟨d9.b.2.toArray⟩,.string ⟨d9.c.1.toArray⟩,.string ⟨d9.c.2.toArray⟩,.string ⟨d9.w2.toArray⟩]),.eq (.int .i64 cv),.eq (.bool gq)] [12,13,14,15,16,17,18,19,20,21,22,23] [0,1,5] (by kernel_rfl) (by kernel_rfl) (by rfl) (by kernel_rfl) ?start ?obs ?fin
   case start=>
    simp only[List.forall_mem_cons];exact⟨⟨_,rfl,rfl⟩,⟨_,rfl,rfl⟩,⟨_,rfl,rfl⟩,fun _ h=>by cases h⟩
   case obs=>
    clear HAD HC1
    refine Obs.cons none (by kernel_rfl) ?_ ?_
    ·refine Ob.plain fun a w hR hk K k9=>?_
     obtain⟨_,e1,f1⟩:=hk 1 (by decide)
     clear hk
     go_simp
     exact k9 _ _ R0 f1
    refine Obs.cons none (by kernel_rfl) ?_ ?_
    ·refine Ob.plain fun a w hR hk K k9=>?_
     obtain⟨_,e0,f0⟩:=hk 0 (by decide)
     clear hk
     go_simp
     exact k9 _ _ R0 f0
    refine Obs.cons none (by kernel_rfl) ?_ ?_
    ·refine Ob.plain fun a w hR hk K k9=>?_
     obtain⟨_,e5,f5⟩:=hk 5 (by decide)
     clear hk
     go_simp
     exact k9 _ _ R0 f5
    refine Obs.cons none (by kernel_rfl) ?_ ?_
    ·refine Ob.plain fun a w hR hk K k9=>?_
     obtain⟨_,e14,rfl⟩:=hk 14 (by decide)
     clear hk
     clear HJ
     go_simp
     exact k9 _ _ R0 (congrArg (Value.int .i64) HWR.out)
    refine Obs.cons none (by kernel_rfl) ?_ ?_
    ·refine Ob.plain fun a w hR hk K k9=>?_
     obtain⟨_,e13,rfl⟩:=hk 13 (by decide)
     obtain⟨_,e15,rfl⟩:=hk 15 (by decide)
     clear hk
     have hb1:=HJ.out.1
     go_simp
     exact k9 _ _ R0 rfl
    refine Obs.cons none (by kernel_rfl) ?_ ?_
    ·refine Ob.plain fun a w hR hk K k9=>?_
     obtain⟨_,e16,rfl⟩:=hk 16 (by decide)
     clear hk
     have c0:=hR.cell a0 id
     have c1:=hR.cell a1 id
     have c2:=hR.cell a2 id
     have c3:=hR.cell a3 id
     have c4:=hR.cell a4 id
     have c5:=hR.cell a5 id
     have c6:=hR.cell a6 id
     have c7:=hR.cell a7 id
     have c8:=hR.cell a8 id
     go_simp
     exact k9 _ _ R0 rfl
    refine Obs.cons none (by kernel_rfl) ?_ ?_
    ·refine Ob.plain fun a w hR hk K k9=>?_
     obtain⟨_,e0,f0⟩:=hk 0 (by decide)
     clear hk
     go_simp
     exact k9 _ _ R0 f0
    refine Obs.cons none (by kernel_rfl) ?_ ?_
    ·refine Ob.plain fun a w hR hk K k9=>?_
     obtain⟨_,e5,f5⟩:=hk 5 (by decide)
     clear hk
     go_simp
     exact k9 _ _ R0 f5
    refine Obs.cons none (by kernel_rfl) ?_ ?_
    ·refine Ob.plain fun a w hR hk K k9=>?_
     obtain⟨_,e18,rfl⟩:=hk 18 (by decide)
     obtain⟨_,e19,rfl⟩:=hk 19 (by decide)
     clear hk
     have hb2:=HJ.out.2
     go_simp
     exact k9 _ _ R0 rfl
    refine Obs.cons none (by kernel_rfl) ?_ ?_
    ·refine Ob.plain fun a w hR hk K k9=>?_
     obtain⟨_,e20,rfl⟩:=hk 20 (by decide)
     clear hk
     have c90:=hR.cell a90 id
     have c91:=hR.cell a91 id
     have c92:=hR.cell a92 id
     have c93:=hR.cell a93 id
     have c94:=hR.cell a94 id
     have c95:=hR.cell a95 id
     have c96:=hR.cell a96 id
     have c97:=hR.cell a97 id
     have c98:=hR.cell a98 id
     go_simp
     exact k9 _ _ R0 rfl
    refine Obs.cons none (by kernel_rfl) ?_ ?_
    ·refine Ob.plain fun a w hR hk K k9=>?_
     obtain⟨_,e12,rfl⟩:=hk 12 (by decide)
     obtain⟨_,e17,rfl⟩:=hk 17 (by decide)
     obtain⟨_,e21,rfl⟩:=hk 21 (by decide)
     clear hk
     have HQ:=hid (HCM.out w hR)
     go_simp
     refine HQ.out.mono ?_
     rintro e w7 ⟨rfl,hc7⟩
     exact k9 _ _ hc7 rfl
    refine Obs.cons none (by kernel_rfl) ?_ ?_
    ·refine Ob.plain fun a w hR hk K k9=>?_
     obtain⟨_,e22,rfl⟩:=hk 22 (by decide)
     clear hk
     go_simp
     exact k9 _ _ R0 (congrArg Value.bool HGQ.out.symm)
    exact Obs.nil
   case fin=>
    intro vals w9 hc9 hv
    have h23:vals 23 = .bool gq:=hv 23 (by decide)
    simp only[putAll,List.setIfInBounds_toArray,List.set_cons_zero,List.set_cons_succ,h23]
    have HC9:=hid (HC1.out.trans hc9 (fun _ _ h=>h))
    clear hc9 hv h23 HCM HC1
    by_cases hneg:cv<0
    ·have e1:gq=false:=by rw[HGQ.out];exact decide_eq_false (by omega)
     clear HGQ
     subst e1
     have HNX:=hid (HAD.out.1 hneg)
     clear hneg HAD
     go_wp2
     refine⟨⟨j+1,by omega,.inl (by omega),by first|rfl|go_num,hid ⟨HNX.out,HC9.out⟩⟩,?_⟩
     simp [intOf]
     omega
    ·have e1:gq=true:=by rw[HGQ.out];exact decide_eq_true (by omega)
     clear HGQ
     subst e1
     have HNX:=hid (HAD.out.2 (by omega))
     clear hneg HAD
     go_wp2
     go_ret
     exact⟨⟨false,rfl,⟨fun h=>(by cases h),fun h=>absurd h HNX.out⟩⟩,HC9.out⟩
  ·have HE:=hid (aI (show AdjP (fun x y=>cmpC x y<0) ls from fun i hi=>hrel.out.1 i hi (by rw[←HLN.out]at hi;omega)) hrel.out.2)
   clear hrel
   go_wp2
   go_ret
   exact⟨⟨true,rfl,⟨fun _=>HE.out.1,fun _=>rfl⟩⟩,HE.out.2⟩
end
section
open Go.RowKit
set_option maxRecDepth 100000 in
set_option maxHeartbeats 8000000 in
theorem gg_riseA {D:Nat→Prop} (n:Nat) (ao:Option Addr) (cp:Nat) (ls:List AkB) (w:World) (hst:AksAt D w n ao ls) (hl:ls.length≤4000) (hsh:True) :
  Calls Tryz.prog 53 #[.slice ao ls.length cp,.func (.func 54) #[] #[]] w fun e w'=>(∃bo:Bool,e = .returned (.bool bo)∧(bo=true↔AdjP (fun x y=>cmpR x.role y.role<0) ls))∧Chg (fun _=>False) w w':=by
 have HST:=hid hst
 have HSH:=hid hsh
 obtain⟨ln,hln⟩:∃ln,ln=ls.length:=⟨_,rfl⟩
 rw[←hln]at hl ⊢
 have HLN:=hid hln
 clear hst hsh hln
 go_enter Tryz.func53,Tryz.ntmps53
 go_wp2
 go_loopw [5] (fun i wr=>∃j:Nat,1≤j∧(j≤ln∨j=1)∧i = .int .i64 j∧Hid ((∀i (h:i+1<ls.length),i+1<j→(fun x y=>cmpR x.role y.role<0) (ls[i]'(by omega)) ls[i+1])∧Chg (fun _=>False) w wr)) (fun i _=>ln-(intOf i).toNat)
 case atStart=>exact⟨1,Nat.le_refl _,.inr rfl,rfl,hid ⟨fun i _ h=>absurd h (by omega),Chg.refl _ _⟩⟩
 case round=>
  obtain⟨j,hj1,hj2,rfl,hrel⟩:=hrel
  by_cases hlj:j<ln
  ·have hlt:j<ls.length:=by rw[←HLN.out];exact hlj
   obtain⟨m,hm⟩:∃m,j=m+1:=⟨j-1,by omega⟩
   have hm2:m<ls.length:=by omega
   have hcw:=HST.out.keep hrel.out.2 (fun _ _=>id)
   have HAD:Hid (((fun x y=>cmpR x.role y.role<0) (ls[m]'hm2) (ls[j]'hlt)→∀i (h:i+1<ls.length),i+1<j+1→(fun x y=>cmpR x.role y.role<0) (ls[i]'(by omega)) ls[i+1])∧(¬(fun x y=>cmpR x.role y.role<0) (ls[m]'hm2) (ls[j]'hlt)→¬AdjP (fun x y=>cmpR x.role y.role<0) ls)):=hid ⟨fun h i hi hij=>by
    by_cases e:i=m
    ·subst hm
     subst e
     exact h
    ·exact hrel.out.1 i hi (by omega),fun h ha=>h (by
     subst hm
     exact ha m (by omega))⟩
   have hshx:=trivial
   have hshy:=trivial
   have HWR:Hid (IntKind.i64.wrap ((j:Int)-1)=(m:Int)):=hid (by rw[IntKind.wrap_i64];omega)
   have HJ:Hid (m<ln∧j<ln):=hid ⟨by omega,hlj⟩
   obtain⟨b,off,hao,hD,⟨⟨a0,a1,hr1,hr2⟩,hfm,⟨co,cc,a7,hcz,hcr⟩⟩⟩:=hcw m hm2
   obtain⟨b9,off9,hao9,hD9,⟨⟨a90,a91,hr19,hr29⟩,hfm9,⟨co9,cc9,a97,hcz9,hcr9⟩⟩⟩:=hcw j hlt
   generalize ls[m]=x at *
   generalize ls[j]=y at *
   obtain⟨r,f,cl⟩:=x
   obtain⟨r9,f9,cl9⟩:=y
   skip
   obtain⟨n1,fo,fc,hn1,⟨a2,a3,a4,a5,a6⟩,hfo,hfz,hfk⟩:=hfm.open_
   change _=some (Value.int .i64 f.op) at a2
   change wr.cell? ⟨b,off+m*8+3,none⟩=some (.int .i64 f.k) at a3
   change wr.cell? ⟨b,off+m*8+4,none⟩=some (.string ⟨f.r.1.toArray⟩) at a4
   change wr.cell? ⟨b,off+m*8+5,none⟩=some (.string ⟨f.r.2.toArray⟩) at a5
   change wr.cell? ⟨b,off+m*8+6,none⟩=some (.slice fo f.kids.length fc) at a6
   simp only[]at a0 a1 a7 hr1 hr2 hcr hfo hfk hfz
   obtain⟨n19,fo9,fc9,hn19,⟨a92,a93,a94,a95,a96⟩,hfo9,hfz9,hfk9⟩:=hfm9.open_
   change _=some (Value.int .i64 f9.op) at a92
   change wr.cell? ⟨b9,off9+j*8+3,none⟩=some (.int .i64 f9.k) at a93
   change wr.cell? ⟨b9,off9+j*8+4,none⟩=some (.string ⟨f9.r.1.toArray⟩) at a94
   change wr.cell? ⟨b9,off9+j*8+5,none⟩=some (.string ⟨f9.r.2.toArray⟩) at a95
   change wr.cell? ⟨b9,off9+j*8+6,none⟩=some (.slice fo9 f9.kids.length fc9) at a96
   simp only[]at a90 a91 a97 hr19 hr29 hcr9 hfo9 hfk9 hfz9
   simp only[]at HAD
   have hC1:=hrel.out.2
   have HCM:=hid (fun(W2:World) (_:Chg (fun _=>False) wr W2)=>gg_cmpAcks r f cl fo fc co cc r9 f9 cl9 fo9 fc9 co9 cc9 W2)
   obtain⟨cv,hcv⟩:∃cv,cv=cmpR r r9:=⟨_,rfl⟩
   simp only[←hcv]at HCM HAD
   have HC1:=hid hC1
   obtain⟨gq,hgq⟩:∃g,g=decide (cv≥0):=⟨_,rfl⟩
   have HGQ:=hid hgq
   clear hgq hcv hC1 hrel hcw hm hm2 hlt hshx hshy hfm hfz hn1 hcz hr1 hr2 hfm9 hfz9 hn19 hcz9 hr19 hr29 
   subst hao
   have hao9:=hao9
   simp only[Option.some.injEq,Addr.mk.injEq,and_true]at hao9
   obtain⟨rfl,rfl⟩:=hao9
   go_wp2_with fail
   refine wp_region_specs [.eq (.slice (some ⟨b,off,none⟩) ln cp),.eq (.func (.func 54) #[] #[]),.any,.any,.any,.eq (.int .i64 j),.any,.any,.any,.any,.any,.any,.eq (.func (.func 54) #[] #[]),.eq (.slice (some ⟨b,off,none⟩) ln cp),.eq (.int .i64 j),.eq (.int .i64 m),.eq (.pointer (some ⟨b,off+m*8,none⟩)),.eq (.agg #[.string ⟨r.1.toArray⟩,.string ⟨r.2.toArray⟩,.int .i64 f.op,.int .i64 f.k,.string ⟨f.r.1.toArray⟩,.string ⟨f.r.2.toArray⟩,.slice fo f.kids.length fc,.slice co cl.length cc]),.eq (.slice (some ⟨b,off,none⟩) ln cp),.eq (.int .i64 j),.eq (.pointer (some ⟨b,off+j*8,none⟩)),.eq (.agg #[.string ⟨r9.1.toArray⟩,.string ⟨r9.2.toArray⟩,.int .i64 f9.op,.int .i64 f9.k,.string ⟨f9.r.1.toArray⟩,.string ⟨f9.r.2.toArray⟩,.slice fo9 f9.kids.length fc9,.slice co9 cl9.length cc9]),.eq (.int .i64 cv),.eq (.bool gq)] [12,13,14,15,16,17,18,19,20,21,22,23] [0,1,5] (by kernel_rfl) (by kernel_rfl) (by rfl) (by kernel_rfl) ?start ?obs ?fin
   case start=>
    simp only[List.forall_mem_cons];exact⟨⟨_,rfl,rfl⟩,⟨_,rfl,rfl⟩,⟨_,rfl,rfl⟩,fun _ h=>by cases h⟩
   case obs=>
    clear HAD HC1
    refine Obs.cons none (by kernel_rfl) ?_ ?_
    ·refine Ob.plain fun a w hR hk K k9=>?_
     obtain⟨_,e1,f1⟩:=hk 1 (by decide)
     clear hk
     go_simp
     exact k9 _ _ R0 f1
    refine Obs.cons none (by kernel_rfl) ?_ ?_
    ·refine Ob.plain fun a w hR hk K k9=>?_
     obtain⟨_,e0,f0⟩:=hk 0 (by decide)
     clear hk
     go_simp
     exact k9 _ _ R0 f0
    refine Obs.cons none (by kernel_rfl) ?_ ?_
    ·refine Ob.plain fun a w hR hk K k9=>?_
     obtain⟨_,e5,f5⟩:=hk 5 (by decide)
     clear hk
     go_simp
     exact k9 _ _ R0 f5
    refine Obs.cons none (by kernel_rfl) ?_ ?_
    ·refine Ob.plain fun a w hR hk K k9=>?_
     obtain⟨_,e14,rfl⟩:=hk 14 (by decide)
     clear hk
     clear HJ
     go_simp
     exact k9 _ _ R0 (congrArg (Value.int .i64) HWR.out)
    refine Obs.cons none (by kernel_rfl) ?_ ?_
    ·refine Ob.plain fun a w hR hk K k9=>?_
     obtain⟨_,e13,rfl⟩:=hk 13 (by decide)
     obtain⟨_,e15,rfl⟩:=hk 15 (by decide)
     clear hk
     have hb1:=HJ.out.1
     go_simp
     exact k9 _ _ R0 rfl
    refine Obs.cons none (by kernel_rfl) ?_ ?_
    ·refine Ob.plain fun a w hR hk K k9=>?_
     obtain⟨_,e16,rfl⟩:=hk 16 (by decide)
     clear hk
     have c0:=hR.cell a0 id
     have c1:=hR.cell a1 id
     have c2:=hR.cell a2 id
     have c3:=hR.cell a3 id
     have c4:=hR.cell a4 id
     have c5:=hR.cell a5 id
     have c6:=hR.cell a6 id
     have c7:=hR.cell a7 id
     go_simp
     exact k9 _ _ R0 rfl
    refine Obs.cons none (by kernel_rfl) ?_ ?_
    ·refine Ob.plain fun a w hR hk K k9=>?_
     obtain⟨_,e0,f0⟩:=hk 0 (by decide)
     clear hk
     go_simp
     exact k9 _ _ R0 f0
    refine Obs.cons none (by kernel_rfl) ?_ ?_
    ·refine Ob.plain fun a w hR hk K k9=>?_
     obtain⟨_,e5,f5⟩:=hk 5 (by decide)
     clear hk
     go_simp
     exact k9 _ _ R0 f5
    refine Obs.cons none (by kernel_rfl) ?_ ?_
    ·refine Ob.plain fun a w hR hk K k9=>?_
     obtain⟨_,e18,rfl⟩:=hk 18 (by decide)
     obtain⟨_,e19,rfl⟩:=hk 19 (by decide)
     clear hk
     have hb2:=HJ.out.2
     go_simp
     exact k9 _ _ R0 rfl
    refine Obs.cons none (by kernel_rfl) ?_ ?_
    ·refine Ob.plain fun a w hR hk K k9=>?_
     obtain⟨_,e20,rfl⟩:=hk 20 (by decide)
     clear hk
     have c90:=hR.cell a90 id
     have c91:=hR.cell a91 id
     have c92:=hR.cell a92 id
     have c93:=hR.cell a93 id
     have c94:=hR.cell a94 id
     have c95:=hR.cell a95 id
     have c96:=hR.cell a96 id
     have c97:=hR.cell a97 id
     go_simp
     exact k9 _ _ R0 rfl
    refine Obs.cons none (by kernel_rfl) ?_ ?_
    ·refine Ob.plain fun a w hR hk K k9=>?_
     obtain⟨_,e12,rfl⟩:=hk 12 (by decide)
     obtain⟨_,e17,rfl⟩:=hk 17 (by decide)
     obtain⟨_,e21,rfl⟩:=hk 21 (by decide)
     clear hk
     have HQ:=hid (HCM.out w hR)
     go_simp
     refine HQ.out.mono ?_
     rintro e w7 ⟨rfl,hc7⟩
     exact k9 _ _ hc7 rfl
    refine Obs.cons none (by kernel_rfl) ?_ ?_
    ·refine Ob.plain fun a w hR hk K k9=>?_
     obtain⟨_,e22,rfl⟩:=hk 22 (by decide)
     clear hk
     go_simp
     exact k9 _ _ R0 (congrArg Value.bool HGQ.out.symm)
    exact Obs.nil
   case fin=>
    intro vals w9 hc9 hv
    have h23:vals 23 = .bool gq:=hv 23 (by decide)
    simp only[putAll,List.setIfInBounds_toArray,List.set_cons_zero,List.set_cons_succ,h23]
    have HC9:=hid (HC1.out.trans hc9 (fun _ _ h=>h))
    clear hc9 hv h23 HCM HC1
    by_cases hneg:cv<0
    ·have e1:gq=false:=by rw[HGQ.out];exact decide_eq_false (by omega)
     clear HGQ
     subst e1
     have HNX:=hid (HAD.out.1 hneg)
     clear hneg HAD
     go_wp2
     refine⟨⟨j+1,by omega,.inl (by omega),by first|rfl|go_num,hid ⟨HNX.out,HC9.out⟩⟩,?_⟩
     simp [intOf]
     omega
    ·have e1:gq=true:=by rw[HGQ.out];exact decide_eq_true (by omega)
     clear HGQ
     subst e1
     have HNX:=hid (HAD.out.2 (by omega))
     clear hneg HAD
     go_wp2
     go_ret
     exact⟨⟨false,rfl,⟨fun h=>(by cases h),fun h=>absurd h HNX.out⟩⟩,HC9.out⟩
  ·have HE:=hid (aI (show AdjP (fun x y=>cmpR x.role y.role<0) ls from fun i hi=>hrel.out.1 i hi (by rw[←HLN.out]at hi;omega)) hrel.out.2)
   clear hrel
   go_wp2
   go_ret
   exact⟨⟨true,rfl,⟨fun _=>HE.out.1,fun _=>rfl⟩⟩,HE.out.2⟩
end
end Go.Proofs.YtkfinhpfdcjoeaaGreat
