/- Texts that the proof leans on, in one: PmEnterC, PmEnterL, PmRow. -/
import Derived.Test.YtkfinhpfdcjoeaaGreatNa35
import Derived.Test.YtkfinhpfdcjoeaaGreatNa4
import Derived.Test.YtkfinhpfdcjoeaaGreatNa40
/- The contract of enter at what leans. -/
namespace Go.Proofs.YtkfinhpfdcjoeaaGreat
section
open Go.RowKit Go.Maps
theorem role_at_blk2 {w:World} {b:Nat} {r:RoleB} {ty:TypeId} {f:Nat×Nat} (h:w.heap[b]? = some (.cells #[.string ⟨r.1.toArray⟩,.string ⟨r.2.toArray⟩] ty f)):w.cell? ⟨b,0,none⟩=some (.string ⟨r.1.toArray⟩)∧w.cell? ⟨b,1,none⟩=some (.string ⟨r.2.toArray⟩):=⟨bC h 0,bC h 1⟩
def entcSpecs (A m:Nat) (r:RoleB) (c:CredB) (y:Option Nat) (b:Bool):List Spec:=[.eq (.map (some m)),.any,.any,.any,.eq (.pointer (some ⟨A,0,none⟩)),.eq (.pointer (some ⟨A+1,0,none⟩)),.any,.ptrE,.eq (.bool b),.eq (.tuple #[.agg #[],.bool b]),.eq (.map (some m)),.eq (.agg #[.string ⟨r.1.toArray⟩,.string ⟨r.2.toArray⟩]),.eq (.map y),.eq (.agg #[.int .i64 c.kind,.string ⟨c.head.1.toArray⟩,.string ⟨c.head.2.toArray⟩,.string ⟨c.who.toArray⟩,.string ⟨c.b.1.toArray⟩,.string ⟨c.b.2.toArray⟩,.string ⟨c.c.1.toArray⟩,.string ⟨c.c.2.toArray⟩,.string ⟨c.w2.toArray⟩]),.eq (.tuple #[.agg #[],.bool b]),.eq (.agg #[]),.eq (.bool b),.any,.any,.any,.any,.any,.any,.any,.any,.any,.any,.any,.any,.any]
set_option maxRecDepth 100000 in
set_option maxHeartbeats 2000000 in
theorem enter_c {O:Nat→Prop} (m n:Nat) (rel:RoleB→CredB→Prop) (r:RoleB) (c:CredB) (w:World) (h:Sets ktR ktC O w m n rel) (hO:∀i,O i→i<w.heap.size) (hr:ktR.ok r) (hs:ktC.ok c) (hn:n<4611686018427387904) :
  Calls Tryz.prog 104 #[.map (some m),.agg #[.string ⟨r.1.toArray⟩,.string ⟨r.2.toArray⟩],.agg #[.int .i64 c.kind,.string ⟨c.head.1.toArray⟩,.string ⟨c.head.2.toArray⟩,.string ⟨c.who.toArray⟩,.string ⟨c.b.1.toArray⟩,.string ⟨c.b.2.toArray⟩,.string ⟨c.c.1.toArray⟩,.string ⟨c.c.2.toArray⟩,.string ⟨c.w2.toArray⟩]] w (EntPost ktR ktC O m n rel r c w):=by
 have hc2:Chg (fun _=>False) w ((w.alloc (.cells #[.string ⟨r.1.toArray⟩,.string ⟨r.2.toArray⟩] 32)).alloc (.cells #[.int .i64 c.kind,.string ⟨c.head.1.toArray⟩,.string ⟨c.head.2.toArray⟩,.string ⟨c.who.toArray⟩,.string ⟨c.b.1.toArray⟩,.string ⟨c.b.2.toArray⟩,.string ⟨c.c.1.toArray⟩,.string ⟨c.c.2.toArray⟩,.string ⟨c.w2.toArray⟩] 34)):=((Chg.refl _ w).alloc _).alloc _
 have hbR:((w.alloc (.cells #[.string ⟨r.1.toArray⟩,.string ⟨r.2.toArray⟩] 32)).alloc (.cells #[.int .i64 c.kind,.string ⟨c.head.1.toArray⟩,.string ⟨c.head.2.toArray⟩,.string ⟨c.who.toArray⟩,.string ⟨c.b.1.toArray⟩,.string ⟨c.b.2.toArray⟩,.string ⟨c.c.1.toArray⟩,.string ⟨c.c.2.toArray⟩,.string ⟨c.w2.toArray⟩] 34)).heap[w.heap.size]? = some (.cells #[.string ⟨r.1.toArray⟩,.string ⟨r.2.toArray⟩] 32 (0,0)):=bE (heap_alloc_new w (.cells #[.string ⟨r.1.toArray⟩,.string ⟨r.2.toArray⟩] 32)) ((Chg.refl (fun _=>False) _).alloc _) id
 have hbC:((w.alloc (.cells #[.string ⟨r.1.toArray⟩,.string ⟨r.2.toArray⟩] 32)).alloc (.cells #[.int .i64 c.kind,.string ⟨c.head.1.toArray⟩,.string ⟨c.head.2.toArray⟩,.string ⟨c.who.toArray⟩,.string ⟨c.b.1.toArray⟩,.string ⟨c.b.2.toArray⟩,.string ⟨c.c.1.toArray⟩,.string ⟨c.c.2.toArray⟩,.string ⟨c.w2.toArray⟩] 34)).heap[w.heap.size+1]? = some (.cells (credBox c) 34 (0,0)):=by
  have:=heap_alloc_new (w.alloc (.cells #[.string ⟨r.1.toArray⟩,.string ⟨r.2.toArray⟩] 32)) (.cells #[.int .i64 c.kind,.string ⟨c.head.1.toArray⟩,.string ⟨c.head.2.toArray⟩,.string ⟨c.who.toArray⟩,.string ⟨c.b.1.toArray⟩,.string ⟨c.b.2.toArray⟩,.string ⟨c.c.1.toArray⟩,.string ⟨c.c.2.toArray⟩,.string ⟨c.w2.toArray⟩] 34)
  have e:(w.alloc (.cells #[.string ⟨r.1.toArray⟩,.string ⟨r.2.toArray⟩] 32)).heap.size=w.heap.size+1:=by simp
  rw[e]at this
  exact this
 have HH:=hid (aI hc2 (aI hbR hbC))
 clear hc2 hbR hbC
 go_enter Tryz.func104,Tryz.ntmps104
 go_wp2_with fail
 obtain⟨hc2,hbR,hbC⟩:=HH.out
 clear HH
 generalize ((w.alloc (.cells #[.string ⟨r.1.toArray⟩,.string ⟨r.2.toArray⟩] 32)).alloc (.cells #[.int .i64 c.kind,.string ⟨c.head.1.toArray⟩,.string ⟨c.head.2.toArray⟩,.string ⟨c.who.toArray⟩,.string ⟨c.b.1.toArray⟩,.string ⟨c.b.2.toArray⟩,.string ⟨c.c.1.toArray⟩,.string ⟨c.c.2.toArray⟩,.string ⟨c.w2.toArray⟩] 34))=w2 at *
 have hmO:=h.top
 have hmw:=hO _ hmO
 obtain⟨A,hAe⟩:∃A,w.heap.size=A:=⟨_,rfl⟩
 simp only[hAe]at hbR hbC ⊢
 have HX:=hid (aI hbR hbC)
 have HC:=hid hc2
 have HA:=hid hAe
 have h2:=h.keep hc2 (fun _ _=>id)
 have HO:=hid (aI hO (aI hmO hmw))
 clear hbR hbC hc2 hAe h hO hmO hmw
 rcases h2.here (t:=109) (e:=61) Tryz.underlying109 mZeroIc hr with ⟨B,xs,h1,hBm,h3,h4,h5,h6⟩|⟨h1,h6⟩
 ·obtain⟨y,hy⟩:∃y,some B=y:=⟨_,rfl⟩
  obtain⟨b,hb⟩:∃b,decide (c∈xs)=b:=⟨_,rfl⟩
  have HL:Hid (∀w',Chg (fun _=>False) w2 w'→(Instr.lookup 109 (.map (some m)) (.agg #[.string ⟨r.1.toArray⟩,.string ⟨r.2.toArray⟩]) false).run Tryz.prog w' = .ok (.map y) w'∧(Instr.lookup 61 (.map y) (.agg #[.int .i64 c.kind,.string ⟨c.head.1.toArray⟩,.string ⟨c.head.2.toArray⟩,.string ⟨c.who.toArray⟩,.string ⟨c.b.1.toArray⟩,.string ⟨c.b.2.toArray⟩,.string ⟨c.c.1.toArray⟩,.string ⟨c.c.2.toArray⟩,.string ⟨c.w2.toArray⟩]) true).run Tryz.prog w' = .ok (.tuple #[.agg #[],.bool b]) w'):=hid (fun w' hc=>by
   rw[←hy,←hb]
   exact⟨h6 w' hc.none,(h3.keep hc id).look (t:=61) (e:=62) Tryz.underlying61 (mZeroUn _) hs⟩)
  have HB:=hid hb
  have HS:=hid (aI h2 (aI h1 (aI hBm (aI h3 (aI h4 (aI h5 h6))))))
  clear h2 h1 hBm h3 h4 h5 h6 hy hb
  refine wp_region_specs (entcSpecs A m r c y b) [10,11,12,13,14,9,15,16,7,8] [0,4,5] (by kernel_rfl) (by kernel_rfl) (by rfl) (by kernel_rfl) ?start ?obs ?fin
  case start=>
   simp only[List.forall_mem_cons];exact⟨⟨_,rfl,rfl⟩,⟨_,rfl,rfl⟩,⟨_,rfl,rfl⟩,fun _ h=>by cases h⟩
  case obs=>
   clear HC HB HS HO HA
   refine Obs.cons none (by kernel_rfl) ?_ ?_
   ·refine Ob.plain fun a w hR hk K k=>?_
    obtain⟨_,e0,f0⟩:=hk 0 (by decide)
    clear hk
    go_simp
    exact k _ _ R0 f0
   refine Obs.cons none (by kernel_rfl) ?_ ?_
   ·refine Ob.plain fun a w hR hk K k=>?_
    obtain⟨_,e4,rfl⟩:=hk 4 (by decide)
    clear hk
    have zR:=role_at_blk2 (bE HX.out.1 hR id)
    have z0:=zR.1
    have z1:=zR.2
    clear zR
    go_simp
    exact k _ _ R0 rfl
   refine Obs.cons none (by kernel_rfl) ?_ ?_
   ·refine Ob.plain fun a w hR hk K k=>?_
    obtain⟨_,e10,rfl⟩:=hk 10 (by decide)
    obtain⟨_,e11,rfl⟩:=hk 11 (by decide)
    clear hk
    have q:=(HL.out w hR).1
    go_simp
    exact k _ _ R0 rfl
   refine Obs.cons none (by kernel_rfl) ?_ ?_
   ·refine Ob.plain fun a w hR hk K k=>?_
    obtain⟨_,e5,rfl⟩:=hk 5 (by decide)
    clear hk
    obtain⟨c0,c1,c2,c3,c4,c5,c6,c7,c8⟩:=cred_at_blk (bE HX.out.2 hR id)
    go_simp
    exact k _ _ R0 rfl
   refine Obs.cons none (by kernel_rfl) ?_ ?_
   ·refine Ob.plain fun a w hR hk K k=>?_
    obtain⟨_,e12,rfl⟩:=hk 12 (by decide)
    obtain⟨_,e13,rfl⟩:=hk 13 (by decide)
    clear hk
    have q:=(HL.out w hR).2
    go_simp
    exact k _ _ R0 rfl
   refine Obs.cons none (by kernel_rfl) ?_ ?_
   ·refine Ob.plain fun a w hR hk K k=>?_
    obtain⟨_,e14,f14⟩:=hk 14 (by decide)
    clear hk
    go_simp
    exact k _ _ R0 f14
   refine Obs.cons none (by kernel_rfl) ?_ ?_
   ·refine Ob.plain fun a w hR hk K k=>?_
    obtain⟨_,e9,rfl⟩:=hk 9 (by decide)
    clear hk
    go_simp
    exact k _ _ R0 rfl
   refine Obs.cons none (by kernel_rfl) ?_ ?_
   ·refine Ob.plain fun a w hR hk K k=>?_
    obtain⟨_,e9,rfl⟩:=hk 9 (by decide)
    clear hk
    go_simp
    exact k _ _ R0 rfl
   refine Obs.cons none (by kernel_rfl) ?_ ?_
   ·refine Ob.plain fun a w hR hk K k=>?_
    clear hk
    go_simp
    exact k _ _ (R0.alloc _) ⟨_,rfl⟩
   refine Obs.cons none (by kernel_rfl) ?_ ?_
   ·refine Ob.plain fun a w hR hk K k=>?_
    obtain⟨_,e7,f7⟩:=hk 7 (by decide)
    obtain⟨_,e15,rfl⟩:=hk 15 (by decide)
    clear hk
    obtain⟨bb,rfl⟩:=f7
    go_simp
    exact k undef _ R0 trivial
   refine Obs.cons none (by kernel_rfl) ?_ ?_
   ·refine Ob.plain fun a w hR hk K k=>?_
    obtain⟨_,e16,f16⟩:=hk 16 (by decide)
    clear hk
    go_simp
    exact k _ _ R0 f16
   exact Obs.nil
  case fin=>
   intro vals w9 hc9 hv
   have h8:vals 8 = .bool b:=hv 8 (by decide)
   simp only[putAll,List.setIfInBounds_toArray,List.set_cons_zero,List.set_cons_succ,h8]
   clear h8 hv
   rw[←HB.out]
   obtain⟨h2,h1,hBm,h3,h4,h5,h6⟩:=HS.out
   have hc29:=HC.out.trans hc9 (fun _ _ h=>h)
   have HX9:=hid (aI (bE HX.out.1 hc9 id) (bE HX.out.2 hc9 id))
   by_cases hx:c∈xs
   ·have HE:=hid (aI ((h5 c).1 hx) hc29)
    simp only[hx,decide_true]
    clear HX9 HX HL HB HS HC hc9 h2 h1 hBm h3 h4 h5 h6 hx hc29
    go_wp2
    go_ret
    exact .inl ⟨HE.out.1,rfl,HE.out.2⟩
   ·simp only[hx,decide_false]
    have z3:=h6 w9 hc9.none
    have q1:∀w:World,(binOp .eql 61 (.map (some B)) (.map none)).run Tryz.prog w = .ok (.bool false) w:=fun w=>run_eql_map_nil w _ _ _ _ Tryz.underlying61
    have zR:=role_at_blk2 HX9.out.1
    have z0:=zR.1
    have z1:=zR.2
    have HL2:Hid (∀w',Chg (fun _=>False) w9 w'→(Instr.lookup 109 (.map (some m)) (.agg #[.string ⟨r.1.toArray⟩,.string ⟨r.2.toArray⟩]) false).run Tryz.prog w' = .ok (.map (some B)) w'):=hid (fun w' hc=>h6 w' (hc9.trans hc (fun _ _ h=>h)).none)
    have HADD:Hid (∀w',Chg (fun _=>False) w9 w'→∃w7,(Instr.mapUpdate 61 (.map (some B)) (.agg #[.int .i64 c.kind,.string ⟨c.head.1.toArray⟩,.string ⟨c.head.2.toArray⟩,.string ⟨c.who.toArray⟩,.string ⟨c.b.1.toArray⟩,.string ⟨c.b.2.toArray⟩,.string ⟨c.c.1.toArray⟩,.string ⟨c.c.2.toArray⟩,.string ⟨c.w2.toArray⟩]) (.agg #[])).run Tryz.prog w' = .ok () w7∧SMap ktC w7 B (xs++[c])∧Chg (· = B) w' w7):=hid (fun w' hc=>(h3.keep (hc9.trans hc (fun _ _ h=>h)) id).add (t:=61) (e:=62) Tryz.underlying61 (by omega) hs hx)
    have HE:=hid (aI hc29 (aI hx (aI h1 (aI (h2.keep hc9 (fun _ _=>id)) (aI h5 (aI h4 (fun w' (hc:Chg (fun i=>i≠m) w9 w')=>h6 w' (hc9.none.trans hc (fun _ _ h=>h))))))))) 
    clear HX HL HB HS HC hc9 h2 h1 hBm h3 h4 h5 h6 hx hc29 zR
    simp only[ktR]at z3
    go_wp2_with fail
    have HX:=HX9
    clear HX9 z3 q1 z0 z1
    refine wp_region_state (Chg (· = B)) (LastW 5 5 w9 (fun w'=>∃w8,Chg (fun _=>False) w9 w8∧SMap ktC w' B (xs++[c])∧Chg (· = B) w8 w')) (specAtR [.eq (.map (some m)),.any,.any,.any,.eq (.pointer (some ⟨A,0,none⟩)),.eq (.pointer (some ⟨A+1,0,none⟩)),.any,.any,.any,.any,.any,.any,.any,.any,.any,.any,.any,.any,.any,.any,.any,.any,.any,.any,.any,.eq (.map (some m)),.eq (.agg #[.string ⟨r.1.toArray⟩,.string ⟨r.2.toArray⟩]),.eq (.map (some B)),.eq (.agg #[.int .i64 c.kind,.string ⟨c.head.1.toArray⟩,.string ⟨c.head.2.toArray⟩,.string ⟨c.who.toArray⟩,.string ⟨c.b.1.toArray⟩,.string ⟨c.b.2.toArray⟩,.string ⟨c.c.1.toArray⟩,.string ⟨c.c.2.toArray⟩,.string ⟨c.w2.toArray⟩]),.eq (.agg #[])]) [25,26,27,28,29] [0,4,5] (by kernel_rfl) (by kernel_rfl) (LastW.start _ _ _ _ R0.drew) (fun t v w w' hc h=>specAtR_st _ t v w w' hc h) (by rfl) (by kernel_rfl) ?start3 ?obs3 ?fin3
    case start3=>
     simp only[List.forall_mem_cons];exact⟨⟨_,rfl,rfl⟩,⟨_,rfl,rfl⟩,⟨_,rfl,rfl⟩,fun _ h=>by cases h⟩
    case obs3=>
     clear HE HO HA
     refine ObsL.cons none (by kernel_rfl) ?_ ?_
     ·refine ObL.plain fun L a w hi he hW hk K k=>?_
      obtain⟨_,e0,rfl⟩:=hk 0 (by decide)
      clear hk
      have hR:=hW.early (by decide) hi
      have hS:=hW.step (by decide) hi R0
      clear hi he hW
      go_simp
      exact k _ _ R0 hS rfl
     refine ObsL.cons none (by kernel_rfl) ?_ ?_
     ·refine ObL.plain fun L a w hi he hW hk K k=>?_
      obtain⟨_,e4,rfl⟩:=hk 4 (by decide)
      clear hk
      have hR:=hW.early (by decide) hi
      have hS:=hW.step (by decide) hi R0
      have zR:=role_at_blk2 (bE HX.out.1 hR id)
      have z0:=zR.1
      have z1:=zR.2
      clear zR
      clear hi he hW
      go_simp
      exact k _ _ R0 hS rfl
     refine ObsL.cons none (by kernel_rfl) ?_ ?_
     ·refine ObL.plain fun L a w hi he hW hk K k=>?_
      obtain⟨_,e25,rfl⟩:=hk 25 (by decide)
      obtain⟨_,e26,rfl⟩:=hk 26 (by decide)
      clear hk
      have hR:=hW.early (by decide) hi
      have hS:=hW.step (by decide) hi R0
      have q:=HL2.out w hR
      clear hi he hW
      go_simp
      exact k _ _ R0 hS rfl
     refine ObsL.cons none (by kernel_rfl) ?_ ?_
     ·refine ObL.plain fun L a w hi he hW hk K k=>?_
      obtain⟨_,e5,rfl⟩:=hk 5 (by decide)
      clear hk
      have hR:=hW.early (by decide) hi
      have hS:=hW.step (by decide) hi R0
      obtain⟨c0,c1,c2,c3,c4,c5,c6,c7,c8⟩:=cred_at_blk (bE HX.out.2 hR id)
      clear hi he hW
      go_simp
      exact k _ _ R0 hS rfl
     refine ObsL.cons none (by kernel_rfl) ?_ ?_
     ·refine ObL.plain fun L a w hi he hW hk K k=>?_
      clear hk
      have hR:=hW.early (by decide) hi
      have hS:=hW.step (by decide) hi R0
      clear hi he hW
      go_simp
      exact k _ _ R0 hS rfl
     refine ObsL.cons none (by kernel_rfl) ?_ ?_
     ·refine ObL.plain fun L a w hi he hW hk K k=>?_
      obtain⟨_,e27,rfl⟩:=hk 27 (by decide)
      obtain⟨_,e28,rfl⟩:=hk 28 (by decide)
      obtain⟨_,e29,rfl⟩:=hk 29 (by decide)
      clear hk
      have hR:=hW.pre hi
      have hall:∀j,j<5→L j=true:=fun j hj=>by
       rcases (show j=0∨j=1∨j=2∨j=3∨j=4 by omega) with rfl|rfl|rfl|rfl|rfl
       ·exact he ⟨0,Ground.phase⟩ (by simp) (by decide)
       ·exact he ⟨1,Ground.phase⟩ (by simp) (by decide)
       ·exact he ⟨2,Ground.phase⟩ (by simp) (by decide)
       ·exact he ⟨3,Ground.phase⟩ (by simp) (by decide)
       ·exact he ⟨4,Ground.phase⟩ (by simp) (by decide)
      obtain⟨w7,hrun,hs7,hc7⟩:=HADD.out w hR
      have HS:=hid (hW.last (w':=w7) hall ⟨w,hR,hs7,hc7⟩)
      clear hi he hW hR hall
      go_simp
      exact k undef _ hc7 HS.out trivial
     exact ObsL.nil
    case fin3=>
     intro L vals w10 hL hWL hv
     have HEND:=hid (hWL.post (hL 5 (by decide)))
     clear hL hWL
     simp only[putAll,List.setIfInBounds_toArray,List.set_cons_zero,List.set_cons_succ]
     clear hv HX HL2 HADD
     go_wp2
     go_ret
     obtain⟨w8,hR,hs7,hc7⟩:=HEND.out
     obtain⟨hc29,hx,hBO,h2,h5,h4,h6⟩:=HE.out
     have s1:=hR.size
     have s2:=hc7.size
     have s3:=hc29.size
     have hw8:=hc29.trans hR (fun _ _ h=>h)
     refine .inr ⟨fun e=>hx ((h5 c).2 e),rfl,_,(h2.keep hR (fun _ _=>id)).grow (t:=109) (e:=61) Tryz.underlying109 mZeroIc hr (b:=B) (fun w2 hc=>h6 w2 (hR.none.trans hc (fun _ _ h=>h))) hc7 hs7 (fun z=>by simp [h5 z]) (by simp;omega),Grew.refl _ _,hw8.none.trans hc7 (fun i _ hi=>by subst hi;exact hBO),fun i hi=>?_⟩
     have:=HO.out.1 i hi
     have:=hc29.size
     omega
 ·obtain⟨y,hy⟩:∃y:Option Nat,none=y:=⟨_,rfl⟩
  obtain⟨b,hb⟩:∃b,false=b:=⟨_,rfl⟩
  have HL:Hid (∀w',Chg (fun _=>False) w2 w'→(Instr.lookup 109 (.map (some m)) (.agg #[.string ⟨r.1.toArray⟩,.string ⟨r.2.toArray⟩]) false).run Tryz.prog w' = .ok (.map y) w'∧(Instr.lookup 61 (.map y) (.agg #[.int .i64 c.kind,.string ⟨c.head.1.toArray⟩,.string ⟨c.head.2.toArray⟩,.string ⟨c.who.toArray⟩,.string ⟨c.b.1.toArray⟩,.string ⟨c.b.2.toArray⟩,.string ⟨c.c.1.toArray⟩,.string ⟨c.c.2.toArray⟩,.string ⟨c.w2.toArray⟩]) true).run Tryz.prog w' = .ok (.tuple #[.agg #[],.bool b]) w'):=hid (fun w' hc=>by
   rw[←hy,←hb]
   refine⟨h6 w' hc.none,?_⟩
   have:=Maps.look_nil (w:=w') true ktC.keyed (t:=61) (e:=62) Tryz.underlying61 (mZeroUn _) (ktC.reads c hs)
   exact this)
  have HB:=hid hb
  have HS:=hid (aI h2 (aI h1 h6))
  clear h2 h1 h6 hy hb
  refine wp_region_specs (entcSpecs A m r c y b) [10,11,12,13,14,9,15,16,7,8] [0,4,5] (by kernel_rfl) (by kernel_rfl) (by rfl) (by kernel_rfl) ?start2 ?obs2 ?fin2
  case start2=>
   simp only[List.forall_mem_cons];exact⟨⟨_,rfl,rfl⟩,⟨_,rfl,rfl⟩,⟨_,rfl,rfl⟩,fun _ h=>by cases h⟩
  case obs2=>
   clear HC HB HS HO HA
   refine Obs.cons none (by kernel_rfl) ?_ ?_
   ·refine Ob.plain fun a w hR hk K k=>?_
    obtain⟨_,e0,f0⟩:=hk 0 (by decide)
    clear hk
    go_simp
    exact k _ _ R0 f0
   refine Obs.cons none (by kernel_rfl) ?_ ?_
   ·refine Ob.plain fun a w hR hk K k=>?_
    obtain⟨_,e4,rfl⟩:=hk 4 (by decide)
    clear hk
    have zR:=role_at_blk2 (bE HX.out.1 hR id)
    have z0:=zR.1
    have z1:=zR.2
    clear zR
    go_simp
    exact k _ _ R0 rfl
   refine Obs.cons none (by kernel_rfl) ?_ ?_
   ·refine Ob.plain fun a w hR hk K k=>?_
    obtain⟨_,e10,rfl⟩:=hk 10 (by decide)
    obtain⟨_,e11,rfl⟩:=hk 11 (by decide)
    clear hk
    have q:=(HL.out w hR).1
    go_simp
    exact k _ _ R0 rfl
   refine Obs.cons none (by kernel_rfl) ?_ ?_
   ·refine Ob.plain fun a w hR hk K k=>?_
    obtain⟨_,e5,rfl⟩:=hk 5 (by decide)
    clear hk
    obtain⟨c0,c1,c2,c3,c4,c5,c6,c7,c8⟩:=cred_at_blk (bE HX.out.2 hR id)
    go_simp
    exact k _ _ R0 rfl
   refine Obs.cons none (by kernel_rfl) ?_ ?_
   ·refine Ob.plain fun a w hR hk K k=>?_
    obtain⟨_,e12,rfl⟩:=hk 12 (by decide)
    obtain⟨_,e13,rfl⟩:=hk 13 (by decide)
    clear hk
    have q:=(HL.out w hR).2
    go_simp
    exact k _ _ R0 rfl
   refine Obs.cons none (by kernel_rfl) ?_ ?_
   ·refine Ob.plain fun a w hR hk K k=>?_
    obtain⟨_,e14,f14⟩:=hk 14 (by decide)
    clear hk
    go_simp
    exact k _ _ R0 f14
   refine Obs.cons none (by kernel_rfl) ?_ ?_
   ·refine Ob.plain fun a w hR hk K k=>?_
    obtain⟨_,e9,rfl⟩:=hk 9 (by decide)
    clear hk
    go_simp
    exact k _ _ R0 rfl
   refine Obs.cons none (by kernel_rfl) ?_ ?_
   ·refine Ob.plain fun a w hR hk K k=>?_
    obtain⟨_,e9,rfl⟩:=hk 9 (by decide)
    clear hk
    go_simp
    exact k _ _ R0 rfl
   refine Obs.cons none (by kernel_rfl) ?_ ?_
   ·refine Ob.plain fun a w hR hk K k=>?_
    clear hk
    go_simp
    exact k _ _ (R0.alloc _) ⟨_,rfl⟩
   refine Obs.cons none (by kernel_rfl) ?_ ?_
   ·refine Ob.plain fun a w hR hk K k=>?_
    obtain⟨_,e7,f7⟩:=hk 7 (by decide)
    obtain⟨_,e15,rfl⟩:=hk 15 (by decide)
    clear hk
    obtain⟨bb,rfl⟩:=f7
    go_simp
    exact k undef _ R0 trivial
   refine Obs.cons none (by kernel_rfl) ?_ ?_
   ·refine Ob.plain fun a w hR hk K k=>?_
    obtain⟨_,e16,f16⟩:=hk 16 (by decide)
    clear hk
    go_simp
    exact k _ _ R0 f16
   exact Obs.nil
  case fin2=>
   intro vals w9 hc9 hv
   have h8:vals 8 = .bool b:=hv 8 (by decide)
   simp only[putAll,List.setIfInBounds_toArray,List.set_cons_zero,List.set_cons_succ,h8]
   clear h8 hv
   rw[←HB.out]
   obtain⟨h2,h1,h6⟩:=HS.out
   have hc29:=HC.out.trans hc9 (fun _ _ h=>h)
   have HX9:=hid (aI (bE HX.out.1 hc9 id) (bE HX.out.2 hc9 id))
   have z3:=h6 w9 hc9.none
   have q1:∀w:World,(binOp .eql 61 (.map none) (.map none)).run Tryz.prog w = .ok (.bool true) w:=fun w=>run_eql_map_nil w _ _ _ _ Tryz.underlying61
   have zR:=role_at_blk2 HX9.out.1
   have z0:=zR.1
   have z1:=zR.2
   have hmm:=@run_makeMap Tryz.prog
   have hn9:=(h2.keep hc9 (fun _ _=>id))
   have hO9:∀i,O i→i<w9.heap.size:=fun i hi=>Nat.lt_of_lt_of_le (HO.out.1 i hi) hc29.size
   have hm3:=alc w9 (.map #[] 0)
   obtain⟨w4,z4,k1,k2,k3⟩:=hn9.new (ki:=ktC) (t:=109) (e:=61) Tryz.underlying109 mZeroIc hr (by omega) (h6 w9 hc9.none) hO9 hm3 (b:=w9.heap.size) (Nat.le_refl _)
   have hm9:=hO9 m HO.out.2.1
   have hsm4:=(smap_made ktC w9).keep k1 (by omega)
   have hAm:A≠m:=by have:=HO.out.2.2;have:=HA.out;omega
   have HX4:=hid (aI (bE (bE HX9.out.1 hm3 id) k1 hAm) (bE (bE HX9.out.2 hm3 id) k1 (by have:=HO.out.2.2;have:=HA.out;omega)))
   have HL2:Hid (∀w',Chg (fun _=>False) w4 w'→(Instr.lookup 109 (.map (some m)) (.agg #[.string ⟨r.1.toArray⟩,.string ⟨r.2.toArray⟩]) false).run Tryz.prog w' = .ok (.map (some w9.heap.size)) w'):=hid (fun w' hc=>k2 w' hc.none)
   have HADD:Hid (∀w',Chg (fun _=>False) w4 w'→∃w7,(Instr.mapUpdate 61 (.map (some w9.heap.size)) (.agg #[.int .i64 c.kind,.string ⟨c.head.1.toArray⟩,.string ⟨c.head.2.toArray⟩,.string ⟨c.who.toArray⟩,.string ⟨c.b.1.toArray⟩,.string ⟨c.b.2.toArray⟩,.string ⟨c.c.1.toArray⟩,.string ⟨c.c.2.toArray⟩,.string ⟨c.w2.toArray⟩]) (.agg #[])).run Tryz.prog w' = .ok () w7∧SMap ktC w7 w9.heap.size ([]++[c])∧Chg (· = w9.heap.size) w' w7):=hid (fun w' hc=>(hsm4.keep hc id).add (t:=61) (e:=62) Tryz.underlying61 (by simp) hs (by simp))
   have HE:=hid (aI hc29 (aI h1 (aI k1 (aI k3 (aI hm3 hO9)))))
   clear HX HL HB HS HC hc9 h2 h1 h6 hc29 zR hn9 hO9 hm3 k1 k2 k3 hm9 hsm4 hAm HX9
   simp only[ktR]at z3 z4
   go_wp2_with fail
   have HX:=HX4
   clear HX4 z3 q1 z0 z1 hmm z4
   refine wp_region_state (Chg (· = w9.heap.size)) (LastW 5 5 w4 (fun w'=>∃w8,Chg (fun _=>False) w4 w8∧SMap ktC w' w9.heap.size ([]++[c])∧Chg (· = w9.heap.size) w8 w')) (specAtR [.eq (.map (some m)),.any,.any,.any,.eq (.pointer (some ⟨A,0,none⟩)),.eq (.pointer (some ⟨A+1,0,none⟩)),.any,.any,.any,.any,.any,.any,.any,.any,.any,.any,.any,.any,.any,.any,.any,.any,.any,.any,.any,.eq (.map (some m)),.eq (.agg #[.string ⟨r.1.toArray⟩,.string ⟨r.2.toArray⟩]),.eq (.map (some w9.heap.size)),.eq (.agg #[.int .i64 c.kind,.string ⟨c.head.1.toArray⟩,.string ⟨c.head.2.toArray⟩,.string ⟨c.who.toArray⟩,.string ⟨c.b.1.toArray⟩,.string ⟨c.b.2.toArray⟩,.string ⟨c.c.1.toArray⟩,.string ⟨c.c.2.toArray⟩,.string ⟨c.w2.toArray⟩]),.eq (.agg #[])]) [25,26,27,28,29] [0,4,5] (by kernel_rfl) (by kernel_rfl) (LastW.start _ _ _ _ R0.drew) (fun t v w w' hc h=>specAtR_st _ t v w w' hc h) (by rfl) (by kernel_rfl) ?start4 ?obs4 ?fin4
   case start4=>
    simp only[List.forall_mem_cons];exact⟨⟨_,rfl,rfl⟩,⟨_,rfl,rfl⟩,⟨_,rfl,rfl⟩,fun _ h=>by cases h⟩
   case obs4=>
    clear HE HO HA
    refine ObsL.cons none (by kernel_rfl) ?_ ?_
    ·refine ObL.plain fun L a w hi he hW hk K k=>?_
     obtain⟨_,e0,rfl⟩:=hk 0 (by decide)
     clear hk
     have hR:=hW.early (by decide) hi
     have hS:=hW.step (by decide) hi R0
     clear hi he hW
     go_simp
     exact k _ _ R0 hS rfl
    refine ObsL.cons none (by kernel_rfl) ?_ ?_
    ·refine ObL.plain fun L a w hi he hW hk K k=>?_
     obtain⟨_,e4,rfl⟩:=hk 4 (by decide)
     clear hk
     have hR:=hW.early (by decide) hi
     have hS:=hW.step (by decide) hi R0
     have zR:=role_at_blk2 (bE HX.out.1 hR id)
     have z0:=zR.1
     have z1:=zR.2
     clear zR
     clear hi he hW
     go_simp
     exact k _ _ R0 hS rfl
    refine ObsL.cons none (by kernel_rfl) ?_ ?_
    ·refine ObL.plain fun L a w hi he hW hk K k=>?_
     obtain⟨_,e25,rfl⟩:=hk 25 (by decide)
     obtain⟨_,e26,rfl⟩:=hk 26 (by decide)
     clear hk
     have hR:=hW.early (by decide) hi
     have hS:=hW.step (by decide) hi R0
     have q:=HL2.out w hR
     clear hi he hW
     go_simp
     exact k _ _ R0 hS rfl
    refine ObsL.cons none (by kernel_rfl) ?_ ?_
    ·refine ObL.plain fun L a w hi he hW hk K k=>?_
     obtain⟨_,e5,rfl⟩:=hk 5 (by decide)
     clear hk
     have hR:=hW.early (by decide) hi
     have hS:=hW.step (by decide) hi R0
     obtain⟨c0,c1,c2,c3,c4,c5,c6,c7,c8⟩:=cred_at_blk (bE HX.out.2 hR id)
     clear hi he hW
     go_simp
     exact k _ _ R0 hS rfl
    refine ObsL.cons none (by kernel_rfl) ?_ ?_
    ·refine ObL.plain fun L a w hi he hW hk K k=>?_
     clear hk
     have hR:=hW.early (by decide) hi
     have hS:=hW.step (by decide) hi R0
     clear hi he hW
     go_simp
     exact k _ _ R0 hS rfl
    refine ObsL.cons none (by kernel_rfl) ?_ ?_
    ·refine ObL.plain fun L a w hi he hW hk K k=>?_
     obtain⟨_,e27,rfl⟩:=hk 27 (by decide)
     obtain⟨_,e28,rfl⟩:=hk 28 (by decide)
     obtain⟨_,e29,rfl⟩:=hk 29 (by decide)
     clear hk
     have hR:=hW.pre hi
     have hall:∀j,j<5→L j=true:=fun j hj=>by
      rcases (show j=0∨j=1∨j=2∨j=3∨j=4 by omega) with rfl|rfl|rfl|rfl|rfl
      ·exact he ⟨0,Ground.phase⟩ (by simp) (by decide)
      ·exact he ⟨1,Ground.phase⟩ (by simp) (by decide)
      ·exact he ⟨2,Ground.phase⟩ (by simp) (by decide)
      ·exact he ⟨3,Ground.phase⟩ (by simp) (by decide)
      ·exact he ⟨4,Ground.phase⟩ (by simp) (by decide)
     obtain⟨w7,hrun,hs7,hc7⟩:=HADD.out w hR
     have HS:=hid (hW.last (w':=w7) hall ⟨w,hR,hs7,hc7⟩)
     clear hi he hW hR hall
     go_simp
     exact k undef _ hc7 HS.out trivial
    exact ObsL.nil
   case fin4=>
    intro L vals w10 hL hWL hv
    have HEND:=hid (hWL.post (hL 5 (by decide)))
    clear hL hWL
    simp only[putAll,List.setIfInBounds_toArray,List.set_cons_zero,List.set_cons_succ]
    clear hv HX HL2 HADD
    go_wp2
    go_ret
    obtain⟨w8,hR,hs7,hc7⟩:=HEND.out
    obtain⟨hc29,h1,k1,k3,hm3,hO9⟩:=HE.out
    have s1:=hR.size
    have s2:=hc7.size
    have s3:=hc29.size
    have s4:=k1.size
    have s5:=hm3.size
    have hw7:=k3 _ c ((hR.none (S:=(· = w9.heap.size))).trans hc7 (fun _ _ h=>h)) (by simpa using hs7)
    have hmO:=HO.out.2.1
    have hmw:=HO.out.2.2
    have hAe:=HA.out
    refine .inr ⟨h1 c,rfl,_,hw7,fun i hi=>?_,?_,fun i hi=>?_⟩
    ·rcases hi with hi|hi
     ·exact .inl hi
     ·exact .inr (by omega)
    ·exact(((hc29.trans hm3 (fun _ _ h=>h)).none.trans k1 (fun i _ hi=>by subst hi;exact hmO)).trans hR (fun _ _ h=>h.elim)).trans hc7 (fun i hi e=>by omega)
    ·rcases hi with hi|hi
     ·have:=hO9 i hi;omega
     ·have:=hs7.lt;omega
end
section
open Go.RowKit Go.Maps
set_option maxRecDepth 100000 in
set_option maxHeartbeats 1000000 in
theorem enter_l {O:Nat→Prop} (m n:Nat) (rel:List UInt8→CredB→Prop) (s:List UInt8) (c:CredB) (w:World) (h:Sets ktS ktC O w m n rel) (hO:∀i,O i→i<w.heap.size) (hr:ktS.ok s) (hs:ktC.ok c) (hn:n<4611686018427387904) :
  Calls Tryz.prog 103 #[.map (some m),.string ⟨s.toArray⟩,.agg #[.int .i64 c.kind,.string ⟨c.head.1.toArray⟩,.string ⟨c.head.2.toArray⟩,.string ⟨c.who.toArray⟩,.string ⟨c.b.1.toArray⟩,.string ⟨c.b.2.toArray⟩,.string ⟨c.c.1.toArray⟩,.string ⟨c.c.2.toArray⟩,.string ⟨c.w2.toArray⟩]] w (EntPost ktS ktC O m n rel s c w):=by
 have hc1:=alc w (.cells #[.int .i64 c.kind,.string ⟨c.head.1.toArray⟩,.string ⟨c.head.2.toArray⟩,.string ⟨c.who.toArray⟩,.string ⟨c.b.1.toArray⟩,.string ⟨c.b.2.toArray⟩,.string ⟨c.c.1.toArray⟩,.string ⟨c.c.2.toArray⟩,.string ⟨c.w2.toArray⟩] 34)
 rcases h.here (t:=110) (e:=61) Tryz.underlying110 mZeroIc hr with ⟨b,xs,h1,h2,h3,h4,h5,h6⟩|⟨h1,h2⟩
 ·have z1:=h6 _ hc1.none
  have z2:=(h3.keep hc1 id).look (t:=61) (e:=62) Tryz.underlying61 (mZeroUn _) hs
  simp only[ktS,ktC,credV,credBox]at z1 z2
  by_cases hx:c∈xs
  ·simp only[hx,decide_true]at z2
   have HH:=hid (aI ((h5 c).1 hx) hc1)
   clear h h1 h2 h3 h4 h5 h6 hx hc1
   go_enter Tryz.func103,Tryz.ntmps103
   go_wp2
   go_ret
   exact .inl ⟨HH.out.1,rfl,HH.out.2.alloc _⟩
  ·simp only[hx,decide_false]at z2
   have hc2:Chg (fun _=>False) w ((w.alloc (.cells #[.int .i64 c.kind,.string ⟨c.head.1.toArray⟩,.string ⟨c.head.2.toArray⟩,.string ⟨c.who.toArray⟩,.string ⟨c.b.1.toArray⟩,.string ⟨c.b.2.toArray⟩,.string ⟨c.c.1.toArray⟩,.string ⟨c.c.2.toArray⟩,.string ⟨c.w2.toArray⟩] 34)).alloc (.cells #[] 62)):=hc1.alloc _
   have z3:=h6 _ hc2.none
   have h3':=h3.keep hc2 id
   have q1:∀w:World,(binOp .eql 61 (.map (some b)) (.map none)).run Tryz.prog w = .ok (.bool false) w:=fun w=>run_eql_map_nil w _ _ _ _ Tryz.underlying61
   obtain⟨w',z4,k1,k2⟩:=h3'.add (t:=61) (e:=62) Tryz.underlying61 (by omega) hs hx
   simp only[ktS,ktC,credV,credBox]at z3 z4
   have HH:=hid (aI hc2 (aI k1 k2))
   have HX:=hid (aI h (aI h1 (aI h2 (aI h5 h6))))
   have HL:=hid (aI h4 hx)
   clear h h1 h2 h3 h4 h5 h6 hx hc1 hc2 h3' k1 k2
   go_enter Tryz.func103,Tryz.ntmps103
   go_wp2
   go_ret
   obtain⟨hc2,k1,k2⟩:=HH.out
   obtain⟨h,h1,h2,h5,h6⟩:=HX.out
   obtain⟨h4,hx⟩:=HL.out
   refine .inr ⟨fun e=>hx ((h5 c).2 e),rfl,O,?_,Grew.refl _ _,(hc2.none).trans k2 (fun i _ hi=>by subst hi;exact h1),fun i hi=>Nat.lt_of_lt_of_le (hO i hi) (Nat.le_trans hc2.size k2.size)⟩
   exact(h.keep hc2 (fun _ _=>id)).grow (t:=110) (e:=61) Tryz.underlying110 mZeroIc hr (fun w2 hc=>h6 w2 (hc2.none.trans hc (fun _ _ h=>h))) k2 k1 (fun z=>by simp [h5 z]) (by simp;omega)
 ·have z1:=h2 _ hc1.none
  have z2:=Maps.look_nil (w:=w.alloc (.cells #[.int .i64 c.kind,.string ⟨c.head.1.toArray⟩,.string ⟨c.head.2.toArray⟩,.string ⟨c.who.toArray⟩,.string ⟨c.b.1.toArray⟩,.string ⟨c.b.2.toArray⟩,.string ⟨c.c.1.toArray⟩,.string ⟨c.c.2.toArray⟩,.string ⟨c.w2.toArray⟩] 34)) true ktC.keyed (t:=61) (e:=62) Tryz.underlying61 (mZeroUn _) (ktC.reads c hs)
  have hc2:Chg (fun _=>False) w ((w.alloc (.cells #[.int .i64 c.kind,.string ⟨c.head.1.toArray⟩,.string ⟨c.head.2.toArray⟩,.string ⟨c.who.toArray⟩,.string ⟨c.b.1.toArray⟩,.string ⟨c.b.2.toArray⟩,.string ⟨c.c.1.toArray⟩,.string ⟨c.c.2.toArray⟩,.string ⟨c.w2.toArray⟩] 34)).alloc (.cells #[] 62)):=hc1.alloc _
  have hc3:Chg (fun _=>False) w (((w.alloc (.cells #[.int .i64 c.kind,.string ⟨c.head.1.toArray⟩,.string ⟨c.head.2.toArray⟩,.string ⟨c.who.toArray⟩,.string ⟨c.b.1.toArray⟩,.string ⟨c.b.2.toArray⟩,.string ⟨c.c.1.toArray⟩,.string ⟨c.c.2.toArray⟩,.string ⟨c.w2.toArray⟩] 34)).alloc (.cells #[] 62)).alloc (.map #[] 0)):=hc2.alloc _
  have z3:=h2 _ hc2.none
  have q1:∀w:World,(binOp .eql 61 (.map none) (.map none)).run Tryz.prog w = .ok (.bool true) w:=fun w=>run_eql_map_nil w _ _ _ _ Tryz.underlying61
  have hmm:=@run_makeMap Tryz.prog
  obtain⟨w4,z4,k1,k2,k3⟩:=h.new (ki:=ktC) (t:=110) (e:=61) Tryz.underlying110 mZeroIc hr (by omega) (h2 w R0) hO hc3 (b:=w.heap.size+1+1) (by omega)
  have hmO:=h.top
  have hm:=hO _ hmO
  have z5:=k2 w4 R0
  have hsm:=(smap_made ktC ((w.alloc (.cells #[.int .i64 c.kind,.string ⟨c.head.1.toArray⟩,.string ⟨c.head.2.toArray⟩,.string ⟨c.who.toArray⟩,.string ⟨c.b.1.toArray⟩,.string ⟨c.b.2.toArray⟩,.string ⟨c.c.1.toArray⟩,.string ⟨c.c.2.toArray⟩,.string ⟨c.w2.toArray⟩] 34)).alloc (.cells #[] 62)))
  have e9:((w.alloc (.cells #[.int .i64 c.kind,.string ⟨c.head.1.toArray⟩,.string ⟨c.head.2.toArray⟩,.string ⟨c.who.toArray⟩,.string ⟨c.b.1.toArray⟩,.string ⟨c.b.2.toArray⟩,.string ⟨c.c.1.toArray⟩,.string ⟨c.c.2.toArray⟩,.string ⟨c.w2.toArray⟩] 34)).alloc (.cells #[] 62)).heap.size=w.heap.size+1+1:=by simp
  rw[e9]at hsm
  have hsm4:=hsm.keep k1 (by omega)
  obtain⟨w5,z6,k4,k5⟩:=hsm4.add (t:=61) (e:=62) Tryz.underlying61 (by simp) hs (by simp)
  have hb1:(w.alloc (.cells #[.int .i64 c.kind,.string ⟨c.head.1.toArray⟩,.string ⟨c.head.2.toArray⟩,.string ⟨c.who.toArray⟩,.string ⟨c.b.1.toArray⟩,.string ⟨c.b.2.toArray⟩,.string ⟨c.c.1.toArray⟩,.string ⟨c.c.2.toArray⟩,.string ⟨c.w2.toArray⟩] 34)).heap[w.heap.size]? = some (.cells (credBox c) 34 (0,0)):=heap_alloc_new w _
  have hb3:=bE hb1 (((Chg.refl (fun _=>False) _).alloc (.cells #[] 62)).alloc (.map #[] 0)) id
  have hb4:=bE hb3 k1 (by omega)
  obtain⟨c0,c1,c2,c3,c4,c5,c6,c7,c8⟩:=cred_at_blk hb4
  simp only[ktS,ktC,credV,credBox]at z1 z2 z3 z4 z5 z6
  have HH:=hid (aI hc3 (aI k1 (aI k3 (aI k4 k5))))
  have HX:=hid h1
  clear h h1 h2 hc1 hc2 hc3 k1 k2 k3 k4 k5 hsm hsm4 e9 hb1 hb3 hb4
  go_enter Tryz.func103,Tryz.ntmps103
  go_wp2
  go_ret
  obtain⟨hc3,k1,k3,k4,k5⟩:=HH.out
  have s1:=hc3.size
  have s2:=k1.size
  have s3:=k5.size
  refine .inr ⟨HX.out c,rfl,_,k3 w5 c k5 (by simpa using k4),fun i hi=>?_,?_,fun i hi=>?_⟩
  ·rcases hi with hi|hi
   ·exact .inl hi
   ·exact .inr (by omega)
  ·refine(hc3.none.trans k1 (fun i _ hi=>by subst hi;assumption)).trans k5 (fun i hi e=>by omega)
  ·rcases hi with hi|hi
   ·have:=hO i hi;omega
   ·have:=k4.lt;omega
end
section
open Go.RowKit Go.Maps
theorem Sets.row {α β:Type} [DecidableEq α] {ko:KT α} {ki:KT β} {O:Nat→Prop} {w:World} {mb n:Nat} {rel:α→β→Prop} {t e t2 e2:TypeId} (h:Sets ko ki O w mb n rel) (ht:Tryz.prog.underlying t=some (.map ko.ty e)) (hz:∀w,(zeroValue e).run Tryz.prog w = .ok (.map none) w)
  (ht2:Tryz.prog.underlying t2=some (.map ki.ty e2)) {a:α} (ha:ko.ok a) :
  ∃(y:Option Nat) (xs:List β),(∀x,x∈xs↔rel a x)∧xs.Nodup∧xs.length≤n∧(∀x∈xs,ki.ok x)∧(∀b,y=some b→O b)∧(∀w',Chg (fun _=>False) w w'→(Instr.lookup t (.map (some mb)) (ko.val a) false).run Tryz.prog w' = .ok (.map y) w')∧
   ∀w',Chg (fun _=>False) w w'→∃w'' cnt,(Instr.range t2 (.map y)).run Tryz.prog w' = .ok (.pointer (some ⟨w'.heap.size,0,none⟩)) w''∧KRange ki unitElem w'' y w'.heap.size xs cnt∧Chg (fun _=>False) w' w'':=by
 rcases h.here ht hz ha with ⟨b,xs,h1,h2,h3,h4,h5,h6⟩|⟨h1,h2⟩
 ·refine⟨some b,xs,h5,h3.nd,h4,h3.ok,fun b' e=>by cases e;exact h1,fun w' hc=>h6 w' hc.none,fun w' hc=>?_⟩
  obtain⟨M,hM⟩:=h3
  obtain⟨w'',q1,q2,q3,_⟩:=(hM.keep hc id).range ht2
  exact⟨w'',_,q1,q2,q3⟩
 ·refine⟨none,[],fun x=>⟨fun h=>(by cases h),fun h=>absurd h (h1 x)⟩,List.nodup_nil,Nat.zero_le _,fun _ h=>(by cases h),fun _ e=>(by cases e),fun w' hc=>h2 w' hc.none,fun w' hc=>?_⟩
  obtain⟨w'',q1,q2,q3,_⟩:=krange_nil ki unitElem w' ht2
  exact⟨w'',_,q1,q2,q3⟩
/-- A range under way, its block new. -/
def Spec.rng {α:Type} (k:KT α) (R:Value→Option (DataW Value×List MemPlace)) (lo:Nat) (y:Option Nat) (xs:List α):Spec:=
 ⟨fun v w=>∃r cnt,v = .pointer (some ⟨r,0,none⟩)∧lo≤r∧KRange k R w y r xs cnt,fun _ _ _ hc ⟨r,cnt,h1,h2,h3⟩=>⟨r,cnt,h1,h2,h3.keep hc (fun _ _=>id) id⟩⟩
/-- What one step tells. -/
def StepPost (F:List FactB) (c:CredB) (who:List UInt8) (w:World) (e:Ending) (w':World):Prop:=
 ∃ao cap hs,e = .returned (.slice ao hs.length cap)∧FactsAt (fun i=>w.heap.size≤i∧i<w'.heap.size) w' ao hs∧Chg (fun _=>False) w w'∧(∀f,f∈hs↔StepOf F c who f)∧hs.length≤4611686018427387904
theorem StepPost.of {F:List FactB} {c:CredB} {who:List UInt8} {w w':World} {v:Value} {hs:List FactB} {O:Nat→Prop} (hcm:Came w.heap.size O w' v hs) (hc:Chg (fun _=>False) w w') (hm:∀f,f∈hs↔StepOf F c who f) (hl:hs.length≤4611686018427387904):StepPost F c who w (.returned v) w':=by
 obtain⟨ao,cap,rfl,hf,_⟩:=hcm.facts
 exact⟨ao,cap,hs,rfl,hf.mono (fun i hi=>⟨hi.1,hi.2.1⟩),hc,hm,hl⟩
end
end Go.Proofs.YtkfinhpfdcjoeaaGreat
