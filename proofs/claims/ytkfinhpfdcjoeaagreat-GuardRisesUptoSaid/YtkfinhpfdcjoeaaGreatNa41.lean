/- Facts that are put in: those that weren't there are told. -/
import Derived.Test.YtkfinhpfdcjoeaaGreatNa40
import Derived.Test.YtkfinhpfdcjoeaaGreatNa4
namespace Go.Proofs.YtkfinhpfdcjoeaaGreat
open Go.RowKit Go.Maps
/-- What has been put in so far: v tells the new ones. -/
def PutI (K O:Nat→Prop) (g:Nat) (F:List FactB) (n2:Nat) (R2:RoleB→CredB→Prop) (n3:Nat) (R3:List UInt8→CredB→Prop) (hs:List FactB) (w w':World) (v:Value):Prop:=
 ∃cs O',Came w.heap.size O' w' v cs∧MS K O' w' g (F++cs) n2 R2 n3 R3∧Grew O O' w∧Chg (fun i=>O i∧¬K i) w w'∧(F++cs).Nodup∧∀f,f∈F++cs↔f∈F∨f∈hs
def PutPost (K O:Nat→Prop) (g:Nat) (F:List FactB) (n2:Nat) (R2:RoleB→CredB→Prop) (n3:Nat) (R3:List UInt8→CredB→Prop) (hs:List FactB) (w:World) (e:Ending) (w':World):Prop:=
 ∃v,e = .returned v∧PutI K O g F n2 R2 n3 R3 hs w w' v
set_option maxRecDepth 100000 in
set_option maxHeartbeats 2000000 in
theorem pput {K O D:Nat→Prop} (ls:List CredB) (g:Nat) (F:List FactB) {n2 n3:Nat} {R2:RoleB→CredB→Prop} {R3:List UInt8→CredB→Prop} (ao:Option Addr) (cp:Nat) (hs:List FactB) (w:World) (h:MS K O w g F n2 R2 n3 R3) (hl:ls.length≤1000) (hnd:F.Nodup) (hF:∀f∈F,Der ls f) (hH:∀f∈hs,Der ls f)
  (hst:FactsAt D w ao hs) (hD:∀i,D i→¬O i∧i<w.heap.size) (hn:hs.length≤4611686018427387904) :
  Calls Tryz.prog 102 #[.pointer (some ⟨g,0,none⟩),.slice ao hs.length cp] w (PutPost K O g F n2 R2 n3 R3 hs w):=by
 have HM:=hid (aI h (aI hnd (aI hF (aI hH (aI hst hD)))))
 have HLL:=hid hl
 clear h hnd hF hH hst hD hl
 go_enter Tryz.func102,Tryz.ntmps102
 go_wp2
 go_loopw [5,10] (fun v i wr=>∃(k:Nat),k≤hs.length∧i = .int .i64 k∧PutI K O g F n2 R2 n3 R3 (hs.take k) w wr v) (fun _ i _=>hs.length-(intOf i).toNat)
 case atStart=>exact⟨0,Nat.zero_le _,rfl,[],O,Came.nil _ _ _,by rw[List.append_nil];exact HM.out.1,Grew.refl _ _,Chg.refl _ _,by rw[List.append_nil];exact HM.out.2.1,fun f=>by simp⟩
 case round=>
  obtain⟨k,hk,rfl,hI⟩:=hrel
  by_cases hlt:k<hs.length
  ·obtain⟨cs,O1,hcm,hms,hgr,hch,hnd,hmem⟩:=hI
   obtain⟨hms0,hnd0,hF,hH,hst,hD⟩:=HM.out
   obtain⟨b,off,hao,hDb,⟨a0,a1,a2⟩⟩:=(hst.keep hch (fun i hi e=>(hD i hi).1 e.1)) k hlt
   have hdq:Der ls hs[k]:=hH _ (List.getElem_mem hlt)
   have hshort:=der_short hdq
   have hlo:=hms.lo
   have hder:∀f∈F++cs,Der ls f:=fun f hf=>by
    rcases (hmem f).1 hf with h|h
    ·exact hF f h
    ·exact hH f (List.mem_of_mem_take h)
   have hfew:=der_few hnd hder HLL.out
   have htk:hs.take (k+1)=hs.take k++[hs[k]]:=List.take_succ_eq_append_getElem hlt
   generalize hs[k]=q at *
   have hw1:=alc wr (.cells #[.string ⟨q.1.1.toArray⟩,.string ⟨q.1.2.toArray⟩,.string ⟨q.2.toArray⟩] 144)
   have hms1:=hms.quiet hw1
   have hbx:=heap_alloc_new wr (.cells #[.string ⟨q.1.1.toArray⟩,.string ⟨q.1.2.toArray⟩,.string ⟨q.2.toArray⟩] 144)
   have hbxO:¬O1 wr.heap.size:=fun e=>by have:=hlo _ e;omega
   have HL:=hid (show cs.length≤4000000 from by simp at hfew;omega)
   subst hao
   by_cases hq:q∈F++cs
   ·obtain⟨m,hm0,hcall⟩:=hms1.enter_no q ⟨by omega,by omega,by omega⟩ (by omega) hq
    have HN:Hid (∀w',Chg (fun _=>False) (wr.alloc (.cells #[.string ⟨q.1.1.toArray⟩,.string ⟨q.1.2.toArray⟩,.string ⟨q.2.toArray⟩] 144)) w'→PutI K O g F n2 R2 n3 R3 (hs.take (k+1)) w w' u5):=hid (fun w' hc=>by
     refine⟨cs,O1,(hcm.quiet hw1).quiet hc,hms1.quiet hc,hgr,(hch.stepK hgr hw1.none).stepK hgr hc.none,hnd,fun f=>?_⟩
     rw[hmem f,htk,List.mem_append,List.mem_singleton]
     refine⟨fun h=>h.elim .inl (fun h=>.inr (.inl h)),fun h=>?_⟩
     rcases h with h|h|h
     ·exact .inl h
     ·exact .inr h
     ·rw[h];exact(hmem q).1 hq)
    have x0:=bC hbx 0
    have x1:=bC hbx 1
    have x2:=bC hbx 2
    simp only[lA,lZ,lS]at x0 x1 x2
    have HX:=hid (aI hm0 (aI x0 (aI x1 x2)))
    have HE:=hid hcall
    clear hst hD hnd0 hF hH hms0 hcm hms hgr hch hnd hmem hdq hshort hlo hder hfew htk hw1 hms1 hbx hbxO hq hm0 hcall x0 x1 x2
    go_wp2_with fail
    clear a0 a1 a2
    generalize wr.alloc (.cells #[.string ⟨q.1.1.toArray⟩,.string ⟨q.1.2.toArray⟩,.string ⟨q.2.toArray⟩] 144)=w2 at *
    obtain⟨A,hA⟩:∃A,wr.heap.size=A:=⟨_,rfl⟩
    simp only[hA]at HX ⊢
    clear hA
    refine wp_region_stateD (Chg (fun i=>O1 i∧¬K i)) (LastW 8 8 w2 (fun w'=>Chg (fun _=>False) w2 w')) (specAtR [.eq (.pointer (some ⟨g,0,none⟩)),.any,.any,.any,.any,.any,.any,.eq (.pointer (some ⟨A,0,none⟩)),.any,.any,.any,.any,.any,.any,.eq (.pointer (some ⟨g,0,none⟩)),.eq (.pointer (some ⟨g,0,none⟩)),.eq (.pointer (some ⟨g,0,none⟩)),.eq (.map (some m)),.eq (.pointer (some ⟨A,0,none⟩)),.eq (.agg #[.string ⟨q.1.1.toArray⟩,.string ⟨q.1.2.toArray⟩]),.eq (.pointer (some ⟨A,2,none⟩)),.eq (.string ⟨q.2.toArray⟩),.eq (.bool false),.any,.any,.any,.any,.any,.any]) [14,15,16,17,18,19,20,21,22] [0,7] (by kernel_rfl) (by kernel_rfl) (LastW.start _ _ _ _ R0.drew) (fun t v w w' hc h=>specAtR_st _ t v w w' hc h) (by rfl) (by kernel_rfl) ?start ?obs ?fin
    case start=>
     simp only[List.forall_mem_cons];exact⟨⟨_,rfl,rfl⟩,⟨_,rfl,rfl⟩,fun _ h=>by cases h⟩
    case obs=>
     clear HN HM HL HLL
     refine ObsD.cons none (by kernel_rfl) ?_ ?_
     ·refine ObD.plain fun L a w hi he hD hW hk K k=>?_
      obtain⟨_,e0,rfl⟩:=hk 0 (by decide)
      clear hk
      have hR:=hW.early (by decide) hi
      have hS:=hW.step (by decide) hi R0
      clear hi he hW hD
      go_simp
      exact k _ _ R0 hS rfl
     refine ObsD.cons none (by kernel_rfl) ?_ ?_
     ·refine ObD.plain fun L a w hi he hD hW hk K k=>?_
      obtain⟨_,e14,rfl⟩:=hk 14 (by decide)
      clear hk
      have hR:=hW.early (by decide) hi
      have hS:=hW.step (by decide) hi R0
      clear hi he hW hD
      go_simp
      exact k _ _ R0 hS rfl
     refine ObsD.cons none (by kernel_rfl) ?_ ?_
     ·refine ObD.plain fun L a w hi he hD hW hk K k=>?_
      obtain⟨_,e15,rfl⟩:=hk 15 (by decide)
      clear hk
      have hR:=hW.early (by decide) hi
      have hS:=hW.step (by decide) hi R0
      clear hi he hW hD
      go_simp
      exact k _ _ R0 hS rfl
     refine ObsD.cons none (by kernel_rfl) ?_ ?_
     ·refine ObD.plain fun L a w hi he hD hW hk K k=>?_
      obtain⟨_,e16,rfl⟩:=hk 16 (by decide)
      clear hk
      have hR:=hW.early (by decide) hi
      have hS:=hW.step (by decide) hi R0
      have zz:=hR.cell HX.out.1 id
      clear hi he hW hD
      go_simp
      exact k _ _ R0 hS rfl
     refine ObsD.cons none (by kernel_rfl) ?_ ?_
     ·refine ObD.plain fun L a w hi he hD hW hk K k=>?_
      obtain⟨_,e7,rfl⟩:=hk 7 (by decide)
      clear hk
      have hR:=hW.early (by decide) hi
      have hS:=hW.step (by decide) hi R0
      clear hi he hW hD
      go_simp
      exact k _ _ R0 hS rfl
     refine ObsD.cons none (by kernel_rfl) ?_ ?_
     ·refine ObD.plain fun L a w hi he hD hW hk K k=>?_
      obtain⟨_,e18,rfl⟩:=hk 18 (by decide)
      clear hk
      have hR:=hW.early (by decide) hi
      have hS:=hW.step (by decide) hi R0
      have z0:=hR.cell HX.out.2.1 id
      have z1:=hR.cell HX.out.2.2.1 id
      clear hi he hW hD
      go_simp
      exact k _ _ R0 hS rfl
     refine ObsD.cons none (by kernel_rfl) ?_ ?_
     ·refine ObD.plain fun L a w hi he hD hW hk K k=>?_
      obtain⟨_,e7,rfl⟩:=hk 7 (by decide)
      clear hk
      have hR:=hW.early (by decide) hi
      have hS:=hW.step (by decide) hi R0
      clear hi he hW hD
      go_simp
      exact k _ _ R0 hS rfl
     refine ObsD.cons none (by kernel_rfl) ?_ ?_
     ·refine ObD.plain fun L a w hi he hD hW hk K k=>?_
      obtain⟨_,e20,rfl⟩:=hk 20 (by decide)
      clear hk
      have hR:=hW.early (by decide) hi
      have hS:=hW.step (by decide) hi R0
      have z2:=hR.cell HX.out.2.2.2 id
      clear hi he hW hD
      go_simp
      exact k _ _ R0 hS rfl
     refine ObsD.cons none (by kernel_rfl) ?_ ?_
     ·refine ObD.plain fun L a w hi he hD hW hk K k=>?_
      obtain⟨_,e17,rfl⟩:=hk 17 (by decide)
      obtain⟨_,e19,rfl⟩:=hk 19 (by decide)
      obtain⟨_,e21,rfl⟩:=hk 21 (by decide)
      clear hk
      have hR:=hW.pre hi
      have hall:=behind_all (n:=8) hD rfl he (by kernel_rfl)
      clear he hD
      have hq:=HE.out w hR
      have HS:=hid (aI hW hall)
      have HR:=hid hR
      clear hi hW hall hR
      go_simp
      refine hq.mono ?_
      rintro e w5 ⟨rfl,hC⟩
      exact k _ _ hC.none (HS.out.1.last (w':=w5) HS.out.2 (HR.out.trans hC (fun _ _ h=>h))) rfl
     exact ObsD.nil
    case fin=>
     intro L vals w9 hL hWL hv
     have HEND:=hid (hWL.post (hL 8 (by decide)))
     clear hL hWL
     have h22:vals 22 = .bool false:=hv 22 (by decide)
     simp only[putAll,List.setIfInBounds_toArray,List.set_cons_zero,List.set_cons_succ,h22]
     clear h22 hv HX HE
     go_wp2
     go_roundw
     case rel=>exact⟨k+1,by omega,by go_num,HN.out w9 HEND.out⟩
     case measure=>simp [intOf];omega
   ·obtain⟨m,hm0,hcall⟩:=hms1.enter_yes q ⟨by omega,by omega,by omega⟩ (by omega) hq
    have HN:Hid (∀w8 w9,Chg (fun _=>False) (wr.alloc (.cells #[.string ⟨q.1.1.toArray⟩,.string ⟨q.1.2.toArray⟩,.string ⟨q.2.toArray⟩] 144)) w8→MEntPost K O1 g (F++cs) n2 R2 n3 R3 q w8 w9→∃O2:Nat→Prop,w.heap.size≤w9.heap.size∧(∀i,O2 i→i<w9.heap.size)∧Came w.heap.size O2 w9 u5 cs∧w9.cell? ⟨wr.heap.size,0,none⟩=some (.string ⟨q.1.1.toArray⟩)∧w9.cell? ⟨wr.heap.size,1,none⟩=some (.string ⟨q.1.2.toArray⟩)∧w9.cell? ⟨wr.heap.size,2,none⟩=some (.string ⟨q.2.toArray⟩)∧
      ∀v' w3,Came w.heap.size O2 w3 v' (cs++[q])→Chg (fun i=>w.heap.size≤i∧¬O2 i) (w9.alloc (.cells #[.string ⟨q.1.1.toArray⟩,.string ⟨q.1.2.toArray⟩,.string ⟨q.2.toArray⟩] 144)) w3→PutI K O g F n2 R2 n3 R3 (hs.take (k+1)) w w3 v'):=hid (fun w8 w9 hc8 hP=>by
     obtain⟨O2,p1,p2,p3⟩:=hP
     have hc18:=hw1.trans hc8 (fun _ _ h=>h)
     have hc9:Chg (fun i=>O1 i∧¬K i) wr w9:=hc18.none.trans p3 (fun _ _ h=>h)
     have hg2:Grew O1 O2 wr:=fun i hi=>(p2 i hi).imp id (fun h=>Nat.le_trans hc18.size h)
     have hb9:=bE (bE hbx hc8 id) p3 (fun e=>hbxO e.1)
     refine⟨O2,Nat.le_trans hch.size hc9.size,p1.lo,hcm.keep hc9.up hg2,bC hb9 0,bC hb9 1,bC hb9 2,fun v' w3 hv' hc3=>?_⟩
     have hwa:=alc w9 (.cells #[.string ⟨q.1.1.toArray⟩,.string ⟨q.1.2.toArray⟩,.string ⟨q.2.toArray⟩] 144)
     refine⟨cs++[q],O2,hv',?_,hgr.trans hg2 hch.size,?_,?_,fun f=>?_⟩
     ·rw[←List.append_assoc]
      exact(p1.quiet hwa).keep hc3 (fun i hi e=>e.2 hi)
     ·exact((hch.stepK hgr hc9).trans hwa (fun _ _ h=>h.elim)).trans hc3 (fun i hi e=>by have:=e.1;omega)
     ·rw[←List.append_assoc,List.nodup_append]
      refine⟨hnd,by simp,fun a ha b hb e=>?_⟩
      rw[List.mem_singleton]at hb
      subst hb
      subst e
      exact hq ha
     ·rw[←List.append_assoc,List.mem_append,List.mem_singleton,hmem f,htk,List.mem_append,List.mem_singleton,or_assoc])
    have x0:=bC hbx 0
    have x1:=bC hbx 1
    have x2:=bC hbx 2
    simp only[lA,lZ,lS]at x0 x1 x2
    have HX:=hid (aI hm0 (aI x0 (aI x1 x2)))
    have HE:=hid hcall
    clear hst hD hnd0 hF hH hms0 hcm hms hgr hch hnd hmem hdq hshort hlo hder hfew htk hw1 hms1 hbx hbxO hq hm0 hcall x0 x1 x2
    go_wp2_with fail
    clear a0 a1 a2
    generalize wr.alloc (.cells #[.string ⟨q.1.1.toArray⟩,.string ⟨q.1.2.toArray⟩,.string ⟨q.2.toArray⟩] 144)=w2 at *
    obtain⟨A,hA⟩:∃A,wr.heap.size=A:=⟨_,rfl⟩
    simp only[hA]at HX HN ⊢
    clear hA
    refine wp_region_stateD (Chg (fun i=>O1 i∧¬K i)) (LastW 8 8 w2 (fun w'=>∃w8,Chg (fun _=>False) w2 w8∧MEntPost K O1 g (F++cs) n2 R2 n3 R3 q w8 w')) (specAtR [.eq (.pointer (some ⟨g,0,none⟩)),.any,.any,.any,.any,.any,.any,.eq (.pointer (some ⟨A,0,none⟩)),.any,.any,.any,.any,.any,.any,.eq (.pointer (some ⟨g,0,none⟩)),.eq (.pointer (some ⟨g,0,none⟩)),.eq (.pointer (some ⟨g,0,none⟩)),.eq (.map (some m)),.eq (.pointer (some ⟨A,0,none⟩)),.eq (.agg #[.string ⟨q.1.1.toArray⟩,.string ⟨q.1.2.toArray⟩]),.eq (.pointer (some ⟨A,2,none⟩)),.eq (.string ⟨q.2.toArray⟩),.eq (.bool true),.any,.any,.any,.any,.any,.any]) [14,15,16,17,18,19,20,21,22] [0,7] (by kernel_rfl) (by kernel_rfl) (LastW.start _ _ _ _ R0.drew) (fun t v w w' hc h=>specAtR_st _ t v w w' hc h) (by rfl) (by kernel_rfl) ?start2 ?obs2 ?fin2
    case start2=>
     simp only[List.forall_mem_cons];exact⟨⟨_,rfl,rfl⟩,⟨_,rfl,rfl⟩,fun _ h=>by cases h⟩
    case obs2=>
     clear HN HM HL HLL
     refine ObsD.cons none (by kernel_rfl) ?_ ?_
     ·refine ObD.plain fun L a w hi he hD hW hk K k=>?_
      obtain⟨_,e0,rfl⟩:=hk 0 (by decide)
      clear hk
      have hR:=hW.early (by decide) hi
      have hS:=hW.step (by decide) hi R0
      clear hi he hW hD
      go_simp
      exact k _ _ R0 hS rfl
     refine ObsD.cons none (by kernel_rfl) ?_ ?_
     ·refine ObD.plain fun L a w hi he hD hW hk K k=>?_
      obtain⟨_,e14,rfl⟩:=hk 14 (by decide)
      clear hk
      have hR:=hW.early (by decide) hi
      have hS:=hW.step (by decide) hi R0
      clear hi he hW hD
      go_simp
      exact k _ _ R0 hS rfl
     refine ObsD.cons none (by kernel_rfl) ?_ ?_
     ·refine ObD.plain fun L a w hi he hD hW hk K k=>?_
      obtain⟨_,e15,rfl⟩:=hk 15 (by decide)
      clear hk
      have hR:=hW.early (by decide) hi
      have hS:=hW.step (by decide) hi R0
      clear hi he hW hD
      go_simp
      exact k _ _ R0 hS rfl
     refine ObsD.cons none (by kernel_rfl) ?_ ?_
     ·refine ObD.plain fun L a w hi he hD hW hk K k=>?_
      obtain⟨_,e16,rfl⟩:=hk 16 (by decide)
      clear hk
      have hR:=hW.early (by decide) hi
      have hS:=hW.step (by decide) hi R0
      have zz:=hR.cell HX.out.1 id
      clear hi he hW hD
      go_simp
      exact k _ _ R0 hS rfl
     refine ObsD.cons none (by kernel_rfl) ?_ ?_
     ·refine ObD.plain fun L a w hi he hD hW hk K k=>?_
      obtain⟨_,e7,rfl⟩:=hk 7 (by decide)
      clear hk
      have hR:=hW.early (by decide) hi
      have hS:=hW.step (by decide) hi R0
      clear hi he hW hD
      go_simp
      exact k _ _ R0 hS rfl
     refine ObsD.cons none (by kernel_rfl) ?_ ?_
     ·refine ObD.plain fun L a w hi he hD hW hk K k=>?_
      obtain⟨_,e18,rfl⟩:=hk 18 (by decide)
      clear hk
      have hR:=hW.early (by decide) hi
      have hS:=hW.step (by decide) hi R0
      have z0:=hR.cell HX.out.2.1 id
      have z1:=hR.cell HX.out.2.2.1 id
      clear hi he hW hD
      go_simp
      exact k _ _ R0 hS rfl
     refine ObsD.cons none (by kernel_rfl) ?_ ?_
     ·refine ObD.plain fun L a w hi he hD hW hk K k=>?_
      obtain⟨_,e7,rfl⟩:=hk 7 (by decide)
      clear hk
      have hR:=hW.early (by decide) hi
      have hS:=hW.step (by decide) hi R0
      clear hi he hW hD
      go_simp
      exact k _ _ R0 hS rfl
     refine ObsD.cons none (by kernel_rfl) ?_ ?_
     ·refine ObD.plain fun L a w hi he hD hW hk K k=>?_
      obtain⟨_,e20,rfl⟩:=hk 20 (by decide)
      clear hk
      have hR:=hW.early (by decide) hi
      have hS:=hW.step (by decide) hi R0
      have z2:=hR.cell HX.out.2.2.2 id
      clear hi he hW hD
      go_simp
      exact k _ _ R0 hS rfl
     refine ObsD.cons none (by kernel_rfl) ?_ ?_
     ·refine ObD.plain fun L a w hi he hD hW hk K k=>?_
      obtain⟨_,e17,rfl⟩:=hk 17 (by decide)
      obtain⟨_,e19,rfl⟩:=hk 19 (by decide)
      obtain⟨_,e21,rfl⟩:=hk 21 (by decide)
      clear hk
      have hR:=hW.pre hi
      have hall:=behind_all (n:=8) hD rfl he (by kernel_rfl)
      clear he hD
      have hq:=HE.out w hR
      have HS:=hid (aI hW hall)
      have HR:=hid hR
      clear hi hW hall hR
      go_simp
      refine hq.mono ?_
      rintro e w5 ⟨rfl,hP,hC⟩
      exact k _ _ hC (HS.out.1.last (w':=w5) HS.out.2 ⟨w,HR.out,hP⟩) rfl
     exact ObsD.nil
    case fin2=>
     intro L vals w9 hL hWL hv
     have HEND:=hid (hWL.post (hL 8 (by decide)))
     clear hL hWL
     have h22:vals 22 = .bool true:=hv 22 (by decide)
     simp only[putAll,List.setIfInBounds_toArray,List.set_cons_zero,List.set_cons_succ,h22]
     obtain⟨w8,hc8,hP⟩:=HEND.out
     obtain⟨O2,hB,hO9,hcm,hz0,hz1,hz2,hnext⟩:=HN.out w8 w9 hc8 hP
     have HH:=hid (aI hB (aI hO9 (aI hcm hnext)))
     clear h22 hv HX HE HEND HN hP hc8 hB hO9 hcm hnext
     go_wp2_with (at_builtin;refine wpList_append_facts rfl (.tmp 23) (.tmp 25) rfl w.heap.size u5 cs rfl ((HH.out.2.2.1).quiet ((Chg.refl _ w9).alloc (.cells #[.string ⟨q.1.1.toArray⟩,.string ⟨q.1.2.toArray⟩,.string ⟨q.2.toArray⟩] 144))) (fun i hi=>Nat.lt_of_lt_of_le (HH.out.2.1 i hi) (by simp)) (some ⟨w9.heap.size,0,none⟩) 1 [q] rfl (fact_new w9 q) (fun e=>by cases e) ?c1 ?c2 ?_)
     case c1=>have:=HL.out;simp;omega
     case c2=>have:=HH.out.1;simp;omega
     intro v' w3 hown hc3
     have HY:=hid (HH.out.2.2.2 v' w3 hown hc3)
     clear hown hc3 HH hz0 hz1 hz2
     go_wp2
     go_roundw
     case rel=>exact⟨k+1,by omega,by go_num,HY.out⟩
     case measure=>simp [intOf];omega
  ·have hk2:k=hs.length:=by omega
   have HI:=hid (show PutI K O g F n2 R2 n3 R3 hs w wr u5 from by rwa [hk2,List.take_length]at hI)
   clear hI hk2
   go_wp2
   go_ret
   exact⟨_,rfl,HI.out⟩
end Go.Proofs.YtkfinhpfdcjoeaaGreat
