/- A credential of kind 2 is taken. -/
import Derived.Test.YtkfinhpfdcjoeaaGreatNa44
import Derived.Test.YtkfinhpfdcjoeaaGreatNa4
namespace Go.Proofs.YtkfinhpfdcjoeaaGreat
open Go.RowKit Go.Maps
set_option maxRecDepth 100000 in
set_option maxHeartbeats 4000000 in
theorem ptake2 {K O:Nat→Prop} (ls:List CredB) (g:Nat) (F:List FactB) (T:List CredB) (c:CredB) (w:World) (h:MS K O w g F (2*T.length) (leanR T) T.length (linkR T)) (hl:ls.length≤1000) (hnd:F.Nodup) (hF:∀f∈F,Der ls f) (hc:isCred c=true) (hcl:c∈ls) (hT:T.length≤1000) (hk:c.kind=2) :
  Calls Tryz.prog 82 #[.pointer (some ⟨g,0,none⟩),.agg #[.int .i64 c.kind,.string ⟨c.head.1.toArray⟩,.string ⟨c.head.2.toArray⟩,.string ⟨c.who.toArray⟩,.string ⟨c.b.1.toArray⟩,.string ⟨c.b.2.toArray⟩,.string ⟨c.c.1.toArray⟩,.string ⟨c.c.2.toArray⟩,.string ⟨c.w2.toArray⟩]] w (TakePost ls O g F T c w):=by
 have hc1:=alc w (.cells #[.int .i64 c.kind,.string ⟨c.head.1.toArray⟩,.string ⟨c.head.2.toArray⟩,.string ⟨c.who.toArray⟩,.string ⟨c.b.1.toArray⟩,.string ⟨c.b.2.toArray⟩,.string ⟨c.c.1.toArray⟩,.string ⟨c.c.2.toArray⟩,.string ⟨c.w2.toArray⟩] 34)
 have hb1:(w.alloc (.cells #[.int .i64 c.kind,.string ⟨c.head.1.toArray⟩,.string ⟨c.head.2.toArray⟩,.string ⟨c.who.toArray⟩,.string ⟨c.b.1.toArray⟩,.string ⟨c.b.2.toArray⟩,.string ⟨c.c.1.toArray⟩,.string ⟨c.c.2.toArray⟩,.string ⟨c.w2.toArray⟩] 34)).heap[w.heap.size]? = some (.cells (credBox c) 34 (0,0)):=heap_alloc_new w _
 obtain⟨c0,c1,c2,c3,c4,c5,c6,c7,c8⟩:=cred_at_blk hb1
 simp only[Nat.zero_add]at c0 c1 c2 c3 c4 c5 c6 c7 c8
 have HMS:=hid (h.quiet hc1)
 have HB:=hid (aI hl (aI hnd (aI hF (aI hc (aI hcl hT)))))
 have HBX0:=hid hb1
 have HC1:=hid hc1
 have HAO0:Hid (¬O w.heap.size):=hid (fun e=>by have:=h.lo _ e;omega)
 have HKK:=hid hk
 have d1:(c.kind==1)=false:=by rw[hk];rfl
 have d3:(c.kind==3)=false:=by rw[hk];rfl
 have d4:(c.kind==4)=false:=by rw[hk];rfl
 clear hb1 hc1 h hl hnd hF hc hcl hT hk
 by_cases hT:c∈T
 ·have HT:=hid hT
  have HR2:Hid (leanR T c.b c):=hid ⟨hT,HB.out.2.2.2.1,by have:=HKK.out;omega,.inl rfl⟩
  clear hT
  go_enter Tryz.func82,Tryz.ntmps82
  go_wp2_with fail
  clear c0 c1 c2 c3 c4 c5 c6 c7 c8
  generalize (w.alloc (.cells #[.int .i64 c.kind,.string ⟨c.head.1.toArray⟩,.string ⟨c.head.2.toArray⟩,.string ⟨c.who.toArray⟩,.string ⟨c.b.1.toArray⟩,.string ⟨c.b.2.toArray⟩,.string ⟨c.c.1.toArray⟩,.string ⟨c.c.2.toArray⟩,.string ⟨c.w2.toArray⟩] 34))=w1 at *
  obtain⟨A,hAe⟩:∃A,w.heap.size=A:=⟨_,rfl⟩
  rw[hAe]at HBX0 HAO0
  have HBX:=hid HBX0.out
  have HAO:=hid HAO0.out
  have HCW:Hid (Grew O O w∧Chg O w w1):=hid ⟨Grew.refl _ _,HC1.out.none⟩
  simp only[hAe]
  clear hAe HBX0 HAO0 HC1
  obtain⟨m,z0,hcall⟩:=HMS.out.lean_no c.b c (by have h:=isCred_short HB.out.2.2.2.1;unfold credShort at h;exact⟨by omega,by omega⟩) HB.out.2.2.2.1 (by have:=HB.out.2.2.2.2.2;omega) (by first|exact HR2.out|simpa using HR2.out)
  have HX:=hid (aI z0 HBX.out)
  have HE:=hid hcall
  clear z0 hcall
  go_wp2_with fail
  clear d1 d3 d4
  refine wp_region_stateD (Chg O) (LastW 7 7 w1 (fun w'=>Chg (fun _=>False) w1 w')) (specAtR [.eq (.pointer (some ⟨g,0,none⟩)),.any,.any,.eq (.pointer (some ⟨A,0,none⟩)),.any,.any,.any,.any,.any,.any,.any,.any,.any,.any,.any,.any,.any,.any,.any,.any,.any,.any,.any,.any,.any,.any,.any,.any,.any,.any,.any,.any,.any,.any,.any,.any,.any,.any,.any,.any,.eq (.pointer (some ⟨g,0,none⟩)),.eq (.pointer (some ⟨g,0,none⟩)),.eq (.pointer (some ⟨g,1,none⟩)),.eq (.map (some m)),.eq (.pointer (some ⟨A,4,none⟩)),.eq (.agg #[.string ⟨c.b.1.toArray⟩,.string ⟨c.b.2.toArray⟩]),.eq (.agg #[.int .i64 c.kind,.string ⟨c.head.1.toArray⟩,.string ⟨c.head.2.toArray⟩,.string ⟨c.who.toArray⟩,.string ⟨c.b.1.toArray⟩,.string ⟨c.b.2.toArray⟩,.string ⟨c.c.1.toArray⟩,.string ⟨c.c.2.toArray⟩,.string ⟨c.w2.toArray⟩]),.eq (.bool false),.eq (.bool true),.any,.any,.any,.any,.any,.any,.any,.any,.any,.any,.any,.any,.any,.any,.any,.any,.any,.any,.any]) [40,41,42,43,44,45,46,47,48] [0,3] (by kernel_rfl) (by kernel_rfl) (LastW.start _ _ _ _ R0.drew) (fun t v w w' hc h=>specAtR_st _ t v w w' hc h) (by rfl) (by kernel_rfl) ?start8 ?obs8 ?fin8
  case start8=>
   simp only[List.forall_mem_cons];exact⟨⟨_,rfl,rfl⟩,⟨_,rfl,rfl⟩,fun _ h=>by cases h⟩
  case obs8=>
   clear HMS HBX HCW HAO HB HT HR2
   refine ObsD.cons none (by kernel_rfl) ?_ ?_
   ·refine ObD.plain fun L a w hi he hD hW hk K k=>?_
    obtain⟨_,e0,rfl⟩:=hk 0 (by decide)
    clear hk
    have hR:=hW.early (by decide) hi
    have hS:=hW.step (by decide) hi R0
    clear hi he hW hD
    go_simp
    exact k _ _ R0 hS rfl
   refine ObsD.cons none (by kernel_rfl) ?_ ?_
   ·refine ObD.plain fun L a w hi he hD hW hk K k=>?_
    obtain⟨_,e40,rfl⟩:=hk 40 (by decide)
    clear hk
    have hR:=hW.early (by decide) hi
    have hS:=hW.step (by decide) hi R0
    clear hi he hW hD
    go_simp
    exact k _ _ R0 hS rfl
   refine ObsD.cons none (by kernel_rfl) ?_ ?_
   ·refine ObD.plain fun L a w hi he hD hW hk K k=>?_
    obtain⟨_,e41,rfl⟩:=hk 41 (by decide)
    clear hk
    have hR:=hW.early (by decide) hi
    have hS:=hW.step (by decide) hi R0
    clear hi he hW hD
    go_simp
    exact k _ _ R0 hS rfl
   refine ObsD.cons none (by kernel_rfl) ?_ ?_
   ·refine ObD.plain fun L a w hi he hD hW hk K k=>?_
    obtain⟨_,e42,rfl⟩:=hk 42 (by decide)
    clear hk
    have hR:=hW.early (by decide) hi
    have hS:=hW.step (by decide) hi R0
    have zz:=hR.cell HX.out.1 id
    clear hi he hW hD
    go_simp
    exact k _ _ R0 hS rfl
   refine ObsD.cons none (by kernel_rfl) ?_ ?_
   ·refine ObD.plain fun L a w hi he hD hW hk K k=>?_
    obtain⟨_,e3,rfl⟩:=hk 3 (by decide)
    clear hk
    have hR:=hW.early (by decide) hi
    have hS:=hW.step (by decide) hi R0
    clear hi he hW hD
    go_simp
    exact k _ _ R0 hS rfl
   refine ObsD.cons none (by kernel_rfl) ?_ ?_
   ·refine ObD.plain fun L a w hi he hD hW hk K k=>?_
    obtain⟨_,e44,rfl⟩:=hk 44 (by decide)
    clear hk
    have hR:=hW.early (by decide) hi
    have hS:=hW.step (by decide) hi R0
    obtain⟨c0,c1,c2,c3,c4,c5,c6,c7,c8⟩:=cred_at_blk (bE HX.out.2 hR id)
    simp only[Nat.zero_add]at c0 c1 c2 c3 c4 c5 c6 c7 c8
    clear hi he hW hD
    go_simp
    exact k _ _ R0 hS rfl
   refine ObsD.cons none (by kernel_rfl) ?_ ?_
   ·refine ObD.plain fun L a w hi he hD hW hk K k=>?_
    obtain⟨_,e3,rfl⟩:=hk 3 (by decide)
    clear hk
    have hR:=hW.early (by decide) hi
    have hS:=hW.step (by decide) hi R0
    obtain⟨c0,c1,c2,c3,c4,c5,c6,c7,c8⟩:=cred_at_blk (bE HX.out.2 hR id)
    simp only[Nat.zero_add]at c0 c1 c2 c3 c4 c5 c6 c7 c8
    clear hi he hW hD
    go_simp
    exact k _ _ R0 hS rfl
   refine ObsD.cons none (by kernel_rfl) ?_ ?_
   ·refine ObD.plain fun L a w hi he hD hW hk K k=>?_
    obtain⟨_,e43,rfl⟩:=hk 43 (by decide)
    obtain⟨_,e45,rfl⟩:=hk 45 (by decide)
    obtain⟨_,e46,rfl⟩:=hk 46 (by decide)
    clear hk
    have hR:=hW.pre hi
    have hall:=behind_all (n:=7) hD rfl he (by kernel_rfl)
    clear he hD
    have hq:=HE.out w hR
    have HS:=hid (aI hW hall)
    have HR:=hid hR
    clear hi hW hall hR
    simp only[credV,credBox]at hq
    go_simp
    refine hq.mono ?_
    rintro e w5 ⟨rfl,hC⟩
    exact k _ _ hC.none (HS.out.1.last (w':=w5) HS.out.2 (HR.out.trans hC (fun _ _ h=>h))) rfl
   refine ObsD.cons none (by kernel_rfl) ?_ ?_
   ·refine ObD.plain fun L a w hi he hD hW hk K k=>?_
    obtain⟨_,e47,rfl⟩:=hk 47 (by decide)
    clear hk
    have hS:=hW.stay (j:=8) (by decide)
    clear hi he hW hD
    go_simp
    exact k _ _ R0 hS rfl
   exact ObsD.nil
  case fin8=>
   intro L vals w10 hL hWL hv
   have HEND:=hid (hWL.post (hL 7 (by decide)))
   clear hL hWL
   have h48:vals 48 = .bool true:=hv 48 (by decide)
   simp only[putAll,List.setIfInBounds_toArray,List.set_cons_zero,List.set_cons_succ,h48]
   clear hv h48 HX HE
   go_wp2
   go_ret
   exact TakePost.nil (HMS.out.quiet HEND.out) (leanR_in HT.out) (linkR_not (by have:=HKK.out;omega)) (by simp;omega) (by simp) HCW.out.1 (HCW.out.2.step HCW.out.1 HEND.out.none) HB.out.2.1 HB.out.2.2.1 HT.out
 ·have HT:=hid hT
  have HR2:Hid (¬leanR T c.b c):=hid (fun e=>hT e.1)
  have HKN:Hid (c.kind≠1):=hid (by have:=HKK.out;omega)
  clear hT
  go_enter Tryz.func82,Tryz.ntmps82
  go_wp2_with fail
  clear c0 c1 c2 c3 c4 c5 c6 c7 c8
  generalize (w.alloc (.cells #[.int .i64 c.kind,.string ⟨c.head.1.toArray⟩,.string ⟨c.head.2.toArray⟩,.string ⟨c.who.toArray⟩,.string ⟨c.b.1.toArray⟩,.string ⟨c.b.2.toArray⟩,.string ⟨c.c.1.toArray⟩,.string ⟨c.c.2.toArray⟩,.string ⟨c.w2.toArray⟩] 34))=w1 at *
  obtain⟨A,hAe⟩:∃A,w.heap.size=A:=⟨_,rfl⟩
  rw[hAe]at HBX0 HAO0
  have HBX:=hid HBX0.out
  have HAO:=hid HAO0.out
  have HCW:Hid (Grew O O w∧Chg O w w1):=hid ⟨Grew.refl _ _,HC1.out.none⟩
  simp only[hAe]
  clear hAe HBX0 HAO0 HC1
  obtain⟨m,z0,hcall⟩:=HMS.out.lean_yes c.b c (by have h:=isCred_short HB.out.2.2.2.1;unfold credShort at h;exact⟨by omega,by omega⟩) HB.out.2.2.2.1 (by have:=HB.out.2.2.2.2.2;omega) (by first|exact HR2.out|simpa using HR2.out)
  have HX:=hid (aI z0 HBX.out)
  have HE:=hid hcall
  clear z0 hcall
  go_wp2_with fail
  clear d1 d3 d4
  refine wp_region_stateD (Chg O) (LastW 7 7 w1 (fun w'=>∃w8,Chg (fun _=>False) w1 w8∧LeanPost O g F ((2*T.length)+1) (fun a x=>(leanR T) a x∨(a=c.b∧x=c)) T.length (linkR T) w8 w')) (specAtR [.eq (.pointer (some ⟨g,0,none⟩)),.any,.any,.eq (.pointer (some ⟨A,0,none⟩)),.any,.any,.any,.any,.any,.any,.any,.any,.any,.any,.any,.any,.any,.any,.any,.any,.any,.any,.any,.any,.any,.any,.any,.any,.any,.any,.any,.any,.any,.any,.any,.any,.any,.any,.any,.any,.eq (.pointer (some ⟨g,0,none⟩)),.eq (.pointer (some ⟨g,0,none⟩)),.eq (.pointer (some ⟨g,1,none⟩)),.eq (.map (some m)),.eq (.pointer (some ⟨A,4,none⟩)),.eq (.agg #[.string ⟨c.b.1.toArray⟩,.string ⟨c.b.2.toArray⟩]),.eq (.agg #[.int .i64 c.kind,.string ⟨c.head.1.toArray⟩,.string ⟨c.head.2.toArray⟩,.string ⟨c.who.toArray⟩,.string ⟨c.b.1.toArray⟩,.string ⟨c.b.2.toArray⟩,.string ⟨c.c.1.toArray⟩,.string ⟨c.c.2.toArray⟩,.string ⟨c.w2.toArray⟩]),.eq (.bool true),.eq (.bool false),.any,.any,.any,.any,.any,.any,.any,.any,.any,.any,.any,.any,.any,.any,.any,.any,.any,.any,.any]) [40,41,42,43,44,45,46,47,48] [0,3] (by kernel_rfl) (by kernel_rfl) (LastW.start _ _ _ _ R0.drew) (fun t v w w' hc h=>specAtR_st _ t v w w' hc h) (by rfl) (by kernel_rfl) ?start8 ?obs8 ?fin8
  case start8=>
   simp only[List.forall_mem_cons];exact⟨⟨_,rfl,rfl⟩,⟨_,rfl,rfl⟩,fun _ h=>by cases h⟩
  case obs8=>
   clear HMS HBX HCW HAO HB HT HR2 HKN
   refine ObsD.cons none (by kernel_rfl) ?_ ?_
   ·refine ObD.plain fun L a w hi he hD hW hk K k=>?_
    obtain⟨_,e0,rfl⟩:=hk 0 (by decide)
    clear hk
    have hR:=hW.early (by decide) hi
    have hS:=hW.step (by decide) hi R0
    clear hi he hW hD
    go_simp
    exact k _ _ R0 hS rfl
   refine ObsD.cons none (by kernel_rfl) ?_ ?_
   ·refine ObD.plain fun L a w hi he hD hW hk K k=>?_
    obtain⟨_,e40,rfl⟩:=hk 40 (by decide)
    clear hk
    have hR:=hW.early (by decide) hi
    have hS:=hW.step (by decide) hi R0
    clear hi he hW hD
    go_simp
    exact k _ _ R0 hS rfl
   refine ObsD.cons none (by kernel_rfl) ?_ ?_
   ·refine ObD.plain fun L a w hi he hD hW hk K k=>?_
    obtain⟨_,e41,rfl⟩:=hk 41 (by decide)
    clear hk
    have hR:=hW.early (by decide) hi
    have hS:=hW.step (by decide) hi R0
    clear hi he hW hD
    go_simp
    exact k _ _ R0 hS rfl
   refine ObsD.cons none (by kernel_rfl) ?_ ?_
   ·refine ObD.plain fun L a w hi he hD hW hk K k=>?_
    obtain⟨_,e42,rfl⟩:=hk 42 (by decide)
    clear hk
    have hR:=hW.early (by decide) hi
    have hS:=hW.step (by decide) hi R0
    have zz:=hR.cell HX.out.1 id
    clear hi he hW hD
    go_simp
    exact k _ _ R0 hS rfl
   refine ObsD.cons none (by kernel_rfl) ?_ ?_
   ·refine ObD.plain fun L a w hi he hD hW hk K k=>?_
    obtain⟨_,e3,rfl⟩:=hk 3 (by decide)
    clear hk
    have hR:=hW.early (by decide) hi
    have hS:=hW.step (by decide) hi R0
    clear hi he hW hD
    go_simp
    exact k _ _ R0 hS rfl
   refine ObsD.cons none (by kernel_rfl) ?_ ?_
   ·refine ObD.plain fun L a w hi he hD hW hk K k=>?_
    obtain⟨_,e44,rfl⟩:=hk 44 (by decide)
    clear hk
    have hR:=hW.early (by decide) hi
    have hS:=hW.step (by decide) hi R0
    obtain⟨c0,c1,c2,c3,c4,c5,c6,c7,c8⟩:=cred_at_blk (bE HX.out.2 hR id)
    simp only[Nat.zero_add]at c0 c1 c2 c3 c4 c5 c6 c7 c8
    clear hi he hW hD
    go_simp
    exact k _ _ R0 hS rfl
   refine ObsD.cons none (by kernel_rfl) ?_ ?_
   ·refine ObD.plain fun L a w hi he hD hW hk K k=>?_
    obtain⟨_,e3,rfl⟩:=hk 3 (by decide)
    clear hk
    have hR:=hW.early (by decide) hi
    have hS:=hW.step (by decide) hi R0
    obtain⟨c0,c1,c2,c3,c4,c5,c6,c7,c8⟩:=cred_at_blk (bE HX.out.2 hR id)
    simp only[Nat.zero_add]at c0 c1 c2 c3 c4 c5 c6 c7 c8
    clear hi he hW hD
    go_simp
    exact k _ _ R0 hS rfl
   refine ObsD.cons none (by kernel_rfl) ?_ ?_
   ·refine ObD.plain fun L a w hi he hD hW hk K k=>?_
    obtain⟨_,e43,rfl⟩:=hk 43 (by decide)
    obtain⟨_,e45,rfl⟩:=hk 45 (by decide)
    obtain⟨_,e46,rfl⟩:=hk 46 (by decide)
    clear hk
    have hR:=hW.pre hi
    have hall:=behind_all (n:=7) hD rfl he (by kernel_rfl)
    clear he hD
    have hq:=HE.out w hR
    have HS:=hid (aI hW hall)
    have HR:=hid hR
    clear hi hW hall hR
    simp only[credV,credBox]at hq
    go_simp
    refine hq.mono ?_
    rintro e w5 ⟨rfl,hP,hC⟩
    exact k _ _ hC (HS.out.1.last (w':=w5) HS.out.2 ⟨w,HR.out,hP⟩) rfl
   refine ObsD.cons none (by kernel_rfl) ?_ ?_
   ·refine ObD.plain fun L a w hi he hD hW hk K k=>?_
    obtain⟨_,e47,rfl⟩:=hk 47 (by decide)
    clear hk
    have hS:=hW.stay (j:=8) (by decide)
    clear hi he hW hD
    go_simp
    exact k _ _ R0 hS rfl
   exact ObsD.nil
  case fin8=>
   intro L vals w10 hL hWL hv
   have HEND:=hid (hWL.post (hL 7 (by decide)))
   clear hL hWL
   have h48:vals 48 = .bool false:=hv 48 (by decide)
   simp only[putAll,List.setIfInBounds_toArray,List.set_cons_zero,List.set_cons_succ,h48]
   obtain⟨w8,hc8,Kb,Ob,hms,hgr,hch⟩:=HEND.out
   have HMB:=hid hms
   have hca:=hc8.none.trans hch (fun _ _ h=>h)
   have HCB:=hid (aI (HCW.out.1.trans (fun i hi=>(hgr i hi).imp id (fun h=>Nat.le_trans hc8.size h)) HCW.out.2.size) (HCW.out.2.step HCW.out.1 hca))
   have HBB:=hid (bE HBX.out hca HAO.out)
   have HAB:Hid (¬Ob A):=hid (hgr.not (Nat.lt_of_lt_of_le (lt_blk HBX.out) hc8.size) HAO.out)
   clear hv h48 HX HE HEND hc8 hms hgr hch hca HMS HBX HAO HCW HR2
   have h48:True:=trivial
   obtain⟨c0,c1,c2,c3,c4,c5,c6,c7,c8⟩:=cred_at_blk HBB.out
   simp only[Nat.zero_add]at c0 c1 c2 c3 c4 c5 c6 c7 c8
   have HQ:=hid (pmem g F c.b w10 HMB.out (by have h:=isCred_short HB.out.2.2.2.1;unfold credShort at h;exact⟨by omega,by omega⟩) (der_few HB.out.2.1 HB.out.2.2.1 HB.out.1))
   clear h48
   go_wp2_with fail
   refine HQ.out.mono ?_
   rintro e w11 ⟨xs,ao,cap,rfl,hxs,hxn,hst,hc11,h0⟩
   have hss:(sortS xs).length=xs.length:=sortS_length xs
   have hsm:∀s,s∈sortS xs↔(c.b,s)∈F:=fun s=>by rw[sortS_mem,hxs]
   have hlen:xs.length≤4000000:=by
    have h1:=nodup_lengthG (xs.map (fun s=>(c.b,s))) F (List.pairwise_map.2 (List.Pairwise.imp (fun h e=>h (Prod.mk.inj e).2) hxn)) (fun q hq=>by
     obtain⟨s,hs,rfl⟩:=List.mem_map.1 hq
     exact(hxs s).1 hs)
    rw[List.length_map]at h1
    exact Nat.le_trans h1 (der_few HB.out.2.1 HB.out.2.2.1 HB.out.1)
   rw[←hss]at hlen
   rw[←hss]
   generalize sortS xs=ss at *
   have HS:=hid (aI hsm hst)
   have HC11:=hid hc11
   have HB11:=hid (bE HBB.out hc11 id)
   have HG0:=hid (GrowI.start (ls:=ls) (HMB.out.quiet hc11) HB.out.2.1 HB.out.2.2.1)
   clear c0 c1 c2 c3 c4 c5 c6 c7 c8 HQ hss hsm hst hc11 hxs hxn h0 HBB
   go_wp2
   go_loopw [5,54] (fun v i wr=>∃(k:Nat) (cs:List FactB) (O1:Nat→Prop),k≤ss.length∧i = .int .i64 k∧GrowI ls Kb Ob g F ((2*T.length)+1) (fun a x=>(leanR T) a x∨(a=c.b∧x=c)) T.length (linkR T) w11 wr v cs O1∧(∀s∈ss.take k,∀q,StepOf F c s q→q∈F++cs)) (fun _ i _=>ss.length-(intOf i).toNat)
   case atStart=>exact⟨0,[],Ob,Nat.zero_le _,rfl,HG0.out,fun s hs=>(by simp at hs)⟩
   case round=>
    clear HG0
    obtain⟨k,cs,O1,hk,rfl,hg,hdone⟩:=hrel
    by_cases hlt:k<ss.length
    ·obtain⟨b,off,rfl,hDb,a0,hls⟩:=(HS.out.2.keep hg.chg (fun i hi e=>by have:=HMB.out.lo i e.1;omega)) k hlt
     have hmem:=(HS.out.1 ss[k]).1 (List.getElem_mem hlt)
     have htk:=List.take_succ_eq_append_getElem hlt
     generalize ss[k]=s at *
     have hbA:=hg.blk HB11.out HAB.out
     obtain⟨c0,c1,c2,c3,c4,c5,c6,c7,c8⟩:=cred_at_blk hbA
     simp only[Nat.zero_add]at c0 c1 c2 c3 c4 c5 c6 c7 c8
     have hfew:=hg.few HB.out.1
     have q1:=pstep g (F++cs) c s wr hg.ms HB.out.2.2.2.1 hls (by rw[List.length_append];exact hfew)
     have HQ1:=hid q1
     have HI:=hid (aI hg (aI hdone (aI hmem htk)))
     clear hg hdone hmem htk hbA hfew q1 hDb hls
     go_wp2_with fail
     refine HQ1.out.mono ?_
     rintro e w7 ⟨ao3,cap3,hs,rfl,hst,hc7,hmem,hsl⟩
     clear c0 c1 c2 c3 c4 c5 c6 c7 c8 a0 HQ1
     have HP:Hid (Calls Tryz.prog 102 #[.pointer (some ⟨g,0,none⟩),.slice ao3 hs.length cap3] w7 fun e w8=>∃v9,e = .returned v9∧GrowPut ls Kb Ob g F ((2*T.length)+1) (fun a x=>(leanR T) a x∨(a=c.b∧x=c)) T.length (linkR T) w11 u5 cs O1 hs w7 w8 v9):=hid (by
      obtain⟨hg,hdone,hm,htk⟩:=HI.out
      have hg7:=hg.quiet hc7
      have hH:∀q∈hs,Der ls q:=fun q hq=>(((hmem q).1 hq).brings (fun _=>List.mem_append_left _ hm)).der HB.out.2.2.2.2.1 HB.out.2.2.2.1 (fun q hq=>hg.der q hq)
      refine(pput ls g (F++cs) ao3 cap3 hs w7 hg7.ms HB.out.1 hg7.nd hg7.der hH hst (fun i hi=>⟨fun h=>by have:=hg.ms.lo i h;omega,hi.2⟩) hsl).mono ?_
      rintro e w8 ⟨v9,rfl,hp⟩
      exact⟨v9,rfl,hg7.put HB.out.1 hH hp⟩)
     have HK7:=hid hmem
     clear hst hc7 hmem hsl
     go_wp2_with fail
     refine HP.out.mono ?_
     rintro e w8 ⟨v9,rfl,hp⟩
     obtain⟨ao2,cap2,cs2,O2,rfl,h0,hf2,hcm,hlo,hsz,hfew,hg2,hc8,hnext⟩:=hp
     have HF2:=hid (aI h0 (aI hf2 (aI hcm (aI hlo (aI hsz (aI hfew hnext))))))
     clear h0 hf2 hcm hlo hsz hfew hg2 hc8 hnext HP
     go_wp2_with (at_builtin;refine wpList_append_facts (O:=O2) rfl (.tmp 58) (.tmp 64) rfl w11.heap.size u5 cs rfl HF2.out.2.2.1 HF2.out.2.2.2.1 ao2 cap2 cs2 rfl HF2.out.2.1 HF2.out.1 ?c1 ?c2 ?_)
     case c1=>have:=HF2.out.2.2.2.2.2.1;omega
     case c2=>exact HF2.out.2.2.2.2.1
     intro v' w3 hown hc3
     have HY:=hid (HF2.out.2.2.2.2.2.2 v' w3 hown hc3)
     clear hown hc3
     go_wp2
     go_roundw
     case rel=>
      obtain⟨hg,hdone,hm,htk⟩:=HI.out
      refine⟨k+1,_,O2,by omega,by go_num,HY.out.1,fun s2 hs2 q hq=>?_⟩
      rw[HY.out.2 q]
      rw[htk,List.mem_append,List.mem_singleton]at hs2
      rcases hs2 with hs2|rfl
      ·exact .inl (hdone s2 hs2 q hq)
      ·refine .inr ((HK7.out q).2 ⟨hq.1,?_⟩)
       rcases hq.2 with ⟨k,h⟩|⟨k,h⟩|⟨k,h1,h2,h3⟩
       ·exact .inl ⟨k,h⟩
       ·exact .inr (.inl ⟨k,List.mem_append_left _ h⟩)
       ·exact .inr (.inr ⟨k,h1,List.mem_append_left _ h2,List.mem_append_left _ h3⟩)
     case measure=>simp [intOf];omega
    ·have HF2:=hid (aI hg (show ∀s∈ss,∀q,StepOf F c s q→q∈F++cs from fun s hs=>hdone s (by rw[List.take_of_length_le (by omega)];exact hs)))
     clear hg hdone
     go_wp2
     go_ret
     exact HF2.out.1.taken (leanR_new HB.out.2.2.2.1 HKN.out (by have:=HKK.out;omega)) (linkR_not (by have:=HKK.out;omega)) (by simp;omega) (by simp) HCB.out.1 (HCB.out.2.step HCB.out.1 HC11.out.none) (fun _=>taken_of_steps HB.out.2.2.2.1 HKN.out (fun s hs=>HF2.out.2 s ((HS.out.1 s).2 hs)))
end Go.Proofs.YtkfinhpfdcjoeaaGreat
