/- Texts that the proof leans on, in one: PmMA, PmAdd, PmOf. -/
import Derived.Test.YtkfinhpfdcjoeaaGreatNa48
import Derived.Test.YtkfinhpfdcjoeaaGreatNa45
import Derived.Test.YtkfinhpfdcjoeaaGreatNa13
import Derived.Test.YtkfinhpfdcjoeaaGreatNa8
/- The model of credentials as it lies in memory. -/
namespace Go.Proofs.YtkfinhpfdcjoeaaGreat
section
open Go.RowKit Go.Maps
/-- At the block g lies the model of the credentials ls, in blocks of O. -/
def MA (O:Nat→Prop) (w:World) (g:Nat) (ls:List CredB):Prop:=
 ∃K O0 F,(∀i,O0 i→O i)∧(∀i,O i→i<w.heap.size)∧MS K O0 w g F (2*(ls.filter isCred).length) (leanR (ls.filter isCred)) (ls.filter isCred).length (linkR (ls.filter isCred))∧F.Nodup∧∀f,f∈F↔Der ls f
theorem MA.keep {O S:Nat→Prop} {w w':World} {g:Nat} {ls:List CredB} (h:MA O w g ls) (hc:Chg S w w') (hs:∀i,O i→¬S i):MA O w' g ls:=by
 obtain⟨K,O0,F,h1,h2,h3,h4,h5⟩:=h
 exact⟨K,O0,F,h1,fun i hi=>Nat.lt_of_lt_of_le (h2 i hi) hc.size,h3.keep hc (fun i hi=>hs i (h1 i hi)),h4,h5⟩
/-- What Add leaves. -/
def AddPostM (O:Nat→Prop) (g:Nat) (ls ms:List CredB) (w:World) (e:Ending) (w':World):Prop:=
 ∃(O':Nat→Prop) (n:Nat),e = .returned (.int .i64 (n:Nat))∧(∀xs ys,ModelOf ls xs→ModelOf (ls++ms) ys→(n:Int)=(ys.length:Int)-(xs.length:Int))∧MA O' w' g (ls++ms)∧(∀i,O' i→O i∨w.heap.size≤i)∧Chg O w w'
theorem addI_start {ls ms:List CredB} {F:List FactB} (hnd:F.Nodup) (hF:∀f,f∈F↔Der ls f):AddI (ls++ms) ((ls++ms.take 0).filter isCred) (F++[]) F:=by
 rw[List.append_nil,List.take_zero,List.append_nil]
 exact⟨hnd,fun f hf=>((hF f).1 hf).mono (fun c hc _=>List.mem_append_left _ hc),fun _ h=>h,fun c hc hr g hg=>(hF g).2 (hg.der (List.mem_filter.1 hc).1 hr (fun f hf=>(hF f).1 hf))⟩
theorem addPost_of {O O0 K' O':Nat→Prop} {g:Nat} {ls ms:List CredB} {F cs:List FactB} {w w':World} (hnd:F.Nodup) (hF:∀f,f∈F↔Der ls f) (hO:∀i,O0 i→O i)
  (hm:MS K' O' w' g (F++cs) (2*((ls++ms).filter isCred).length) (leanR ((ls++ms).filter isCred)) ((ls++ms).filter isCred).length (linkR ((ls++ms).filter isCred))) (hg:Grew O0 O' w) (hc:Chg O0 w w')
  (hA:AddI (ls++ms) ((ls++ms).filter isCred) (F++cs) (F++cs)):AddPostM O g ls ms w (.returned (.int .i64 (cs.length:Nat))) w':=by
 have hall:=hA.done (fun _ h=>h) (fun c hc hr=>List.mem_filter.2 ⟨hc,hr⟩)
 refine⟨O',cs.length,rfl,fun xs ys hx hy=>?_,⟨K',O',F++cs,fun _ h=>h,hm.lo,hm,hA.nd,hall⟩,fun i hi=>(hg i hi).imp (hO i) id,hc.mono (fun i _ hi=>hO i hi)⟩
 have e1:xs.length=F.length:=Nat.le_antisymm (nodup_lengthG _ _ (hx.1.nodup ltF_ord) (fun f hf=>(hF f).2 ((hx.2 f).1 hf))) (nodup_lengthG _ _ hnd (fun f hf=>(hx.2 f).2 ((hF f).1 hf)))
 have e2:ys.length=(F++cs).length:=Nat.le_antisymm (nodup_lengthG _ _ (hy.1.nodup ltF_ord) (fun f hf=>(hall f).2 ((hy.2 f).1 hf))) (nodup_lengthG _ _ hA.nd (fun f hf=>(hy.2 f).2 ((hall f).1 hf)))
 rw[e1,e2,List.length_append]
 omega
theorem filter_take_yes {ls ms:List CredB} {k:Nat} (hk:k<ms.length) (hc:isCred ms[k]=true):(ls++ms.take (k+1)).filter isCred=(ls++ms.take k).filter isCred++[ms[k]]:=by
 rw[List.take_succ_eq_append_getElem hk,←List.append_assoc,List.filter_append]
 simp [hc]
theorem filter_take_no {ls ms:List CredB} {k:Nat} (hk:k<ms.length) (hc:isCred ms[k]=false):(ls++ms.take (k+1)).filter isCred=(ls++ms.take k).filter isCred:=by
 rw[List.take_succ_eq_append_getElem hk,←List.append_assoc,List.filter_append]
 simp [hc]
theorem filter_take_len {ls ms:List CredB} {k:Nat} (h:(ls++ms).length≤1000):((ls++ms.take k).filter isCred).length≤1000:=by
 refine Nat.le_trans (List.length_filter_le _ _) ?_
 rw[List.length_append]at h ⊢
 have:(ms.take k).length≤ms.length:=by rw[List.length_take];exact Nat.min_le_right _ _
 omega
end
section
open Go.RowKit Go.Maps
/-- Amid the taking. -/
def AddT (O:Nat→Prop) (g:Nat) (ls ms:List CredB) (F:List FactB) (w:World) (k:Nat) (wr:World) (v:Value) (cs:List FactB) (K1 O1:Nat→Prop):Prop:=
 Came w.heap.size O1 wr v cs∧MS K1 O1 wr g (F++cs) (2*((ls++ms.take k).filter isCred).length) (leanR ((ls++ms.take k).filter isCred)) ((ls++ms.take k).filter isCred).length (linkR ((ls++ms.take k).filter isCred))∧Grew O O1 w∧Chg O w wr∧AddI (ls++ms) ((ls++ms.take k).filter isCred) (F++cs) F
/-- Amid the following. -/
def AddF (O:Nat→Prop) (g:Nat) (ls ms:List CredB) (F:List FactB) (w:World) (j:Nat) (wr:World) (v:Value) (cs:List FactB) (K1 O1:Nat→Prop):Prop:=
 Came w.heap.size O1 wr v cs∧MS K1 O1 wr g (F++cs) (2*((ls++ms).filter isCred).length) (leanR ((ls++ms).filter isCred)) ((ls++ms).filter isCred).length (linkR ((ls++ms).filter isCred))∧Grew O O1 w∧Chg O w wr∧AddI (ls++ms) ((ls++ms).filter isCred) (F++cs) (F++cs.take j)
set_option maxRecDepth 100000 in
set_option maxHeartbeats 4000000 in
theorem padd {K O D:Nat→Prop} (g:Nat) (ao:Option Addr) (cp:Nat) (ls ms:List CredB) (F:List FactB) (w:World) (h:MS K O w g F (2*(ls.filter isCred).length) (leanR (ls.filter isCred)) (ls.filter isCred).length (linkR (ls.filter isCred))) (hl:(ls++ms).length≤1000) (hnd:F.Nodup) (hF:∀f,f∈F↔Der ls f)
  (hst:CredsAt D w ao ms) (hD:∀i,D i→¬O i) :
  Calls Tryz.prog 61 #[.pointer (some ⟨g,0,none⟩),.slice ao ms.length cp] w (AddPostM O g ls ms w):=by
 have HM:=hid (aI h (aI hl (aI hnd (aI hF (aI hst hD)))))
 have hlen:ms.length≤1000:=by rw[List.length_append]at hl;omega
 clear h hl hnd hF hst hD
 go_enter Tryz.func61,Tryz.ntmps61
 go_wp2
 go_loopw [5,13] (fun v i wr=>∃(k:Nat) (cs:List FactB) (K1 O1:Nat→Prop),k≤ms.length∧i = .int .i64 k∧AddT O g ls ms F w k wr v cs K1 O1) (fun _ i _=>ms.length-(intOf i).toNat)
 case atStart=>exact⟨0,[],K,O,Nat.zero_le _,rfl,Came.nil _ _ _,by rw[List.append_nil,List.take_zero,List.append_nil];exact HM.out.1,Grew.refl _ _,Chg.refl _ _,addI_start HM.out.2.2.1 HM.out.2.2.2.1⟩
 case round=>
  obtain⟨k,cs,K1,O1,hk,rfl,hI⟩:=hrel
  by_cases hlt:k<ms.length
  ·obtain⟨hcm,hms,hgr,hch,hA⟩:=hI
   obtain⟨b,off,hao,hDb,⟨a0,a1,a2,a3,a4,a5,a6,a7,a8⟩,hsh⟩:=(HM.out.2.2.2.2.1.keep hch (fun i hi=>HM.out.2.2.2.2.2 i hi)) k hlt
   have hyes:=filter_take_yes (ls:=ls) hlt
   have hno:=filter_take_no (ls:=ls) hlt
   have hcm':=List.getElem_mem hlt
   generalize ms[k]=c at *
   have hw3:=alc wr (.cells #[.int .i64 c.kind,.string ⟨c.head.1.toArray⟩,.string ⟨c.head.2.toArray⟩,.string ⟨c.who.toArray⟩,.string ⟨c.b.1.toArray⟩,.string ⟨c.b.2.toArray⟩,.string ⟨c.c.1.toArray⟩,.string ⟨c.c.2.toArray⟩,.string ⟨c.w2.toArray⟩] 34)
   have hb3:(wr.alloc (.cells #[.int .i64 c.kind,.string ⟨c.head.1.toArray⟩,.string ⟨c.head.2.toArray⟩,.string ⟨c.who.toArray⟩,.string ⟨c.b.1.toArray⟩,.string ⟨c.b.2.toArray⟩,.string ⟨c.c.1.toArray⟩,.string ⟨c.c.2.toArray⟩,.string ⟨c.w2.toArray⟩] 34)).heap[wr.heap.size]? = some (.cells (credBox c) 34 (0,0)):=heap_alloc_new wr _
   obtain⟨c0,c1,c2,c3,c4,c5,c6,c7,c8⟩:=cred_at_blk hb3
   simp only[Nat.zero_add]at c0 c1 c2 c3 c4 c5 c6 c7 c8
   have q1:=pcright c (wr.alloc (.cells #[.int .i64 c.kind,.string ⟨c.head.1.toArray⟩,.string ⟨c.head.2.toArray⟩,.string ⟨c.who.toArray⟩,.string ⟨c.b.1.toArray⟩,.string ⟨c.b.2.toArray⟩,.string ⟨c.c.1.toArray⟩,.string ⟨c.c.2.toArray⟩,.string ⟨c.w2.toArray⟩] 34)) hsh
   have HQ1:=hid q1
   have HI:=hid (aI hcm (aI hms (aI hgr (aI hch hA))))
   have HK:=hid (aI hyes (aI hno hcm'))
   have HW:=hid (aI hw3 hb3)
   subst hao
   clear hcm hms hgr hch hA hyes hno hcm' hw3 hb3 q1 hDb hsh
   go_wp2_with fail
   refine HQ1.out.mono ?_
   rintro e w4 ⟨rfl,hc4⟩
   have hb4:=bE HW.out.2 hc4 id
   have hw4:=HW.out.1.trans hc4 (fun _ _ h=>h)
   clear a0 a1 a2 a3 a4 a5 a6 a7 a8 c0 c1 c2 c3 c4 c5 c6 c7 c8 hc4 HQ1 HW
   obtain⟨c0,c1,c2,c3,c4,c5,c6,c7,c8⟩:=cred_at_blk hb4
   simp only[Nat.zero_add]at c0 c1 c2 c3 c4 c5 c6 c7 c8
   have HW4:=hid hw4
   clear hw4 hb4
   cases hc:isCred c with
   | false=>
    have HC:=hid hc
    clear hc c0 c1 c2 c3 c4 c5 c6 c7 c8
    go_wp2
    go_roundw
    case rel=>
     obtain⟨hcm,hms,hgr,hch,hA⟩:=HI.out
     refine⟨k+1,cs,K1,O1,by omega,by go_num,hcm.quiet HW4.out,?_,hgr,hch.trans HW4.out (fun _ _ h=>h.elim),?_⟩
     ·rw[HK.out.2.1 HC.out];exact hms.quiet HW4.out
     ·rw[HK.out.2.1 HC.out];exact hA
    case measure=>simp [intOf];omega
   | true=>
    have HC:=hid hc
    have HP:Hid (Calls Tryz.prog 82 #[.pointer (some ⟨g,0,none⟩),.agg #[.int .i64 c.kind,.string ⟨c.head.1.toArray⟩,.string ⟨c.head.2.toArray⟩,.string ⟨c.who.toArray⟩,.string ⟨c.b.1.toArray⟩,.string ⟨c.b.2.toArray⟩,.string ⟨c.c.1.toArray⟩,.string ⟨c.c.2.toArray⟩,.string ⟨c.w2.toArray⟩]] w4 (TakePost (ls++ms) O1 g (F++cs) ((ls++ms.take k).filter isCred) c w4)):=hid (by
     obtain⟨hcm,hms,hgr,hch,hA⟩:=HI.out
     exact ptake (ls++ms) g (F++cs) _ c w4 (hms.quiet HW4.out) HM.out.2.1 hA.nd hA.der HC.out (List.mem_append_right _ HK.out.2.2) (filter_take_len HM.out.2.1))
    clear hc
    go_wp2_with fail
    refine HP.out.mono ?_
    rintro e w5 hp
    clear c0 c1 c2 c3 c4 c5 c6 c7 c8
    obtain⟨v9,cs2,K2,O2,rfl,hcm2,hms2,hgr2,hch2,hnd2,hder2,htk2⟩:=hp
    obtain⟨ao2,cap2,rfl,hf2,h02⟩:=hcm2.facts
    have HF2:Hid (Came w.heap.size O2 w5 u5 cs∧(∀i,O2 i→i<w5.heap.size)∧w.heap.size≤w5.heap.size∧cs.length+cs2.length≤4000000∧FactsAt (fun k=>w4.heap.size≤k∧k<w5.heap.size∧¬O2 k) w5 ao2 cs2∧(ao2=none→cap2=0)∧
      ∀v' w3,Came w.heap.size O2 w3 v' (cs++cs2)→Chg (fun i=>w.heap.size≤i∧¬O2 i) w5 w3→AddT O g ls ms F w (k+1) w3 v' (cs++cs2) K2 O2):=hid (by
     obtain⟨hcm,hms,hgr,hch,hA⟩:=HI.out
     have hfew:=der_few hnd2 hder2 HM.out.2.1
     have hch4:Chg O w w4:=hch.trans HW4.out (fun _ _ h=>h.elim)
     have hch5:Chg O w w5:=hch4.step hgr hch2
     refine⟨(hcm.quiet HW4.out).keep hch2 hgr2,hms2.lo,hch5.size,by simp at hfew;omega,hf2,h02,fun v' w3 hv hc=>⟨hv,?_,hgr.trans hgr2 hch4.size,hch5.trans hc (fun i hi e=>by have:=e.1;omega),?_⟩⟩
     ·rw[HK.out.1 HC.out,←List.append_assoc]
      exact hms2.keep hc (fun i hi e=>e.2 hi)
     ·rw[HK.out.1 HC.out,←List.append_assoc]
      exact hA.take hnd2 hder2 (fun f hf=>List.mem_append_left _ hf) htk2)
    clear hcm2 hms2 hgr2 hch2 hnd2 hder2 htk2 hf2 h02 HP
    go_wp2_with (at_builtin;refine wpList_append_facts (O:=O2) rfl (.tmp 19) (.tmp 22) rfl w.heap.size u5 cs rfl HF2.out.1 HF2.out.2.1 ao2 cap2 cs2 rfl HF2.out.2.2.2.2.1 HF2.out.2.2.2.2.2.1 ?c1 ?c2 ?_)
    case c1=>have:=HF2.out.2.2.2.1;omega
    case c2=>exact HF2.out.2.2.1
    intro v' w3 hown hc3
    have HY:=hid (HF2.out.2.2.2.2.2.2 v' w3 hown hc3)
    clear hown hc3
    go_wp2
    go_roundw
    case rel=>exact⟨k+1,_,K2,O2,by omega,by go_num,HY.out⟩
    case measure=>simp [intOf];omega
  ·have hk2:k=ms.length:=by omega
   have HI2:Hid (AddF O g ls ms F w 0 wr u5 cs K1 O1):=hid (by
    obtain⟨hcm,hms,hgr,hch,hA⟩:=hI
    rw[hk2,List.take_length]at hms hA
    exact⟨hcm,hms,hgr,hch,by rw[List.take_zero,List.append_nil];exact hA⟩)
   clear hI hk2
   go_wp2
   go_loopw [5,8] (fun v i wr=>∃(j:Nat) (cs:List FactB) (K1 O1:Nat→Prop),j≤cs.length∧j≤4000000∧i = .int .i64 j∧AddF O g ls ms F w j wr v cs K1 O1) (fun _ i _=>4000001-(intOf i).toNat)
   case atStart=>exact⟨0,cs,K1,O1,Nat.zero_le _,Nat.zero_le _,rfl,HI2.out⟩
   case round=>
    clear HI2
    obtain⟨j,cs,K1,O1,hj,hj4,rfl,hI⟩:=hrel
    obtain⟨hcm,hms,hgr,hch,hA⟩:=hI
    have hfew:=der_few hA.nd hA.der HM.out.2.1
    rw[List.length_append]at hfew
    have hcl:cs.length≤4000000:=by omega
    obtain⟨ao3,cap3,rfl,hf3,h03⟩:=id hcm.facts
    have HI:=hid (aI hcm (aI hms (aI hgr (aI hch hA))))
    by_cases hlt:j<cs.length
    ·obtain⟨b,off,hao,hDb,⟨a0,a1,a2⟩⟩:=hf3 j hlt
     have hmem:cs[j]∈F++cs:=List.mem_append_right _ (List.getElem_mem hlt)
     have htk:=List.take_succ_eq_append_getElem hlt
     generalize cs[j]=f at *
     have HP:Hid (Calls Tryz.prog 83 #[.pointer (some ⟨g,0,none⟩),.agg #[.string ⟨f.1.1.toArray⟩,.string ⟨f.1.2.toArray⟩,.string ⟨f.2.toArray⟩]] wr (FolPost (ls++ms) K1 O1 g (F++cs) (2*((ls++ms).filter isCred).length) ((ls++ms).filter isCred).length ((ls++ms).filter isCred) f wr)):=hid (pfollow (ls++ms) g (F++cs) ((ls++ms).filter isCred) f wr hms HM.out.2.1 hA.nd hA.der hmem (fun c hc=>(List.mem_filter.1 hc).1))
     have HK:=hid (aI hmem htk)
     subst hao
     clear hcm hms hgr hch hA hfew hf3 h03 hDb hmem htk
     go_wp2_with fail
     refine HP.out.mono ?_
     rintro e w5 hp
     clear a0 a1 a2
     obtain⟨v9,cs2,O2,rfl,hG,hfol⟩:=hp
     obtain⟨ao2,cap2,rfl,hf2,h02⟩:=hG.came.facts
     have HF2:Hid (Came w.heap.size O2 w5 (.slice (some ⟨b,off,none⟩) cs.length cap3) cs∧(∀i,O2 i→i<w5.heap.size)∧w.heap.size≤w5.heap.size∧cs.length+cs2.length≤4000000∧FactsAt (fun k=>wr.heap.size≤k∧k<w5.heap.size∧¬O2 k) w5 ao2 cs2∧(ao2=none→cap2=0)∧
       ∀v' w3,Came w.heap.size O2 w3 v' (cs++cs2)→Chg (fun i=>w.heap.size≤i∧¬O2 i) w5 w3→AddF O g ls ms F w (j+1) w3 v' (cs++cs2) K1 O2):=hid (by
      obtain⟨hcm,hms,hgr,hch,hA⟩:=HI.out
      have hfew:=hG.few HM.out.2.1
      rw[List.length_append]at hfew
      have hch5:Chg O w w5:=hch.step hgr hG.chg.up
      refine⟨hcm.keep hG.chg.up hG.grew,hG.ms.lo,hch5.size,by omega,hf2,h02,fun v' w3 hv hc=>⟨hv,?_,hgr.trans hG.grew hch.size,hch5.trans hc (fun i hi e=>by have:=e.1;omega),?_⟩⟩
      ·rw[←List.append_assoc]
       exact hG.ms.keep hc (fun i hi e=>e.2 hi)
      ·have hA2:=hA.follow HK.out.1 hG.nd hG.der (fun f hf=>List.mem_append_left _ hf) hfol
       rw[List.append_assoc,List.append_assoc]at hA2
       rw[List.take_append_of_le_length (by omega),HK.out.2]
       exact hA2)
     clear hG hfol hf2 h02 HP
     go_wp2_with (at_builtin;refine wpList_append_facts (O:=O2) rfl (.tmp 31) (.tmp 37) rfl w.heap.size (.slice (some ⟨b,off,none⟩) cs.length cap3) cs rfl HF2.out.1 HF2.out.2.1 ao2 cap2 cs2 rfl HF2.out.2.2.2.2.1 HF2.out.2.2.2.2.2.1 ?c1 ?c2 ?_)
     case c1=>have:=HF2.out.2.2.2.1;omega
     case c2=>exact HF2.out.2.2.1
     intro v' w3 hown hc3
     have HY:=hid (HF2.out.2.2.2.2.2.2 v' w3 hown hc3)
     clear hown hc3
     go_wp2
     go_roundw
     case rel=>exact⟨j+1,_,K1,O2,by rw[List.length_append];omega,by omega,by go_num,HY.out⟩
     case measure=>simp [intOf];omega
    ·have hj2:j=cs.length:=by omega
     have HE:Hid (AddPostM O g ls ms w (.returned (.int .i64 (cs.length:Nat))) wr):=hid (by
      obtain⟨hcm,hms,hgr,hch,hA⟩:=HI.out
      rw[hj2,List.take_length]at hA
      exact addPost_of HM.out.2.2.1 HM.out.2.2.2.1 (fun _ h=>h) hms hgr hch hA)
     clear hcm hms hgr hch hA hfew hf3 h03 hj2
     go_wp2
     go_ret
     exact HE.out
end
section
open Go.RowKit Go.Maps
/-- A model that has just been made. -/
theorem ms_made (w:World):MS (fun i=>i=w.heap.size+1∨i=w.heap.size+2∨i=w.heap.size+3) (fun i=>w.heap.size≤i∧i≤w.heap.size+3) ((((w.alloc (.map #[] 0)).alloc (.map #[] 0)).alloc (.map #[] 0)).alloc (.cells #[.map (some w.heap.size),.map (some (w.heap.size+1)),.map (some (w.heap.size+1+1))] 112)) (w.heap.size+1+1+1) [] 0 (leanR []) 0 (linkR []):=by
 have s1:(w.alloc (.map #[] 0)).heap.size=w.heap.size+1:=by simp
 have s2:((w.alloc (.map #[] 0)).alloc (.map #[] 0)).heap.size=w.heap.size+1+1:=by simp
 have s3:(((w.alloc (.map #[] 0)).alloc (.map #[] 0)).alloc (.map #[] 0)).heap.size=w.heap.size+1+1+1:=by simp
 have a1:=sets_made ktR ktS w (O:=(· = w.heap.size)) rfl
 have a2:=sets_made ktR ktC (w.alloc (.map #[] 0)) (O:=(· = w.heap.size+1)) s1
 have a3:=sets_made ktS ktC ((w.alloc (.map #[] 0)).alloc (.map #[] 0)) (O:=(· = w.heap.size+1+1)) s2
 rw[s1]at a2
 rw[s2]at a3
 have h1:Chg (fun _=>False) (w.alloc (.map #[] 0)) ((((w.alloc (.map #[] 0)).alloc (.map #[] 0)).alloc (.map #[] 0)).alloc (.cells #[.map (some w.heap.size),.map (some (w.heap.size+1)),.map (some (w.heap.size+1+1))] 112)):=((R0.alloc _).alloc _).alloc _
 have h2:Chg (fun _=>False) ((w.alloc (.map #[] 0)).alloc (.map #[] 0)) ((((w.alloc (.map #[] 0)).alloc (.map #[] 0)).alloc (.map #[] 0)).alloc (.cells #[.map (some w.heap.size),.map (some (w.heap.size+1)),.map (some (w.heap.size+1+1))] 112)):=(R0.alloc _).alloc _
 have h3:=alc (((w.alloc (.map #[] 0)).alloc (.map #[] 0)).alloc (.map #[] 0)) (.cells #[.map (some w.heap.size),.map (some (w.heap.size+1)),.map (some (w.heap.size+1+1))] 112)
 have hb:=heap_alloc_new (((w.alloc (.map #[] 0)).alloc (.map #[] 0)).alloc (.map #[] 0)) (.cells #[.map (some w.heap.size),.map (some (w.heap.size+1)),.map (some (w.heap.size+1+1))] 112)
 rw[s3]at hb
 refine⟨⟨w.heap.size,w.heap.size+1,w.heap.size+1+1,_,_,_,hb,(a1.keep h1 (fun _ _=>id)).cong (fun a x=>by simp),(a2.keep h2 (fun _ _=>id)).cong (fun a x=>by simp [leanR]),(a3.keep h3 (fun _ _=>id)).cong (fun a x=>by simp [linkR]),fun i hi=>?_,fun i hi=>?_,fun i hi=>?_⟩,by omega,fun i hi=>by omega,fun i hi=>by simp;omega⟩
 ·have:i=w.heap.size:=hi
  omega
 ·have:i=w.heap.size+1:=hi
  refine⟨by omega,fun e=>?_,by omega⟩
  have:i=w.heap.size+1+1:=e
  omega
 ·have:i=w.heap.size+1+1:=hi
  omega
set_option maxRecDepth 100000 in
set_option maxHeartbeats 1000000 in
theorem pof {D:Nat→Prop} (ao:Option Addr) (cp:Nat) (ls:List CredB) (w:World) (hl:ls.length≤1000) (hst:CredsAt D w ao ls) (hD:∀i,D i→i<w.heap.size) :
  Calls Tryz.prog 31 #[.slice ao ls.length cp] w fun e w'=>∃g O,e = .returned (.pointer (some ⟨g,0,none⟩))∧MA O w' g ls∧(∀i,O i→w.heap.size≤i)∧Chg (fun _=>False) w w':=by
 have hmm:=@run_makeMap Tryz.prog
 have hc4:Chg (fun _=>False) w ((((w.alloc (.map #[] 0)).alloc (.map #[] 0)).alloc (.map #[] 0)).alloc (.cells #[.map (some w.heap.size),.map (some (w.heap.size+1)),.map (some (w.heap.size+1+1))] 112)):=(((R0.alloc _).alloc _).alloc _).alloc _
 have HP:=hid (padd (w.heap.size+1+1+1) ao cp [] ls [] _ (ms_made w) (by simpa using hl) List.nodup_nil (fun f=>⟨fun h=>(by cases h),fun h=>by obtain⟨c,hc,_⟩:=h.who;cases hc⟩) (hst.keep hc4 (fun _ _=>id)) (fun i hi e=>by have:=hD i hi;omega))
 have HC:=hid hc4
 clear hc4 hst hD
 go_enter Tryz.func31,Tryz.ntmps31
 go_wp2_with fail
 refine HP.out.mono ?_
 rintro e w5 ⟨O',n,rfl,_,hma,hO,hch⟩
 have HR:=hid (aI hma (aI hO hch))
 clear hma hO hch HP hmm
 go_wp2
 go_ret
 obtain⟨hma,hO,hch⟩:=HR.out
 have hs:=HC.out.size
 refine⟨_,O',rfl,hma,fun i hi=>?_,HC.out.trans hch (fun i hi e=>by omega)⟩
 rcases hO i hi with h|h
 ·exact h.1
 ·exact Nat.le_trans hs h
end
end Go.Proofs.YtkfinhpfdcjoeaaGreat
