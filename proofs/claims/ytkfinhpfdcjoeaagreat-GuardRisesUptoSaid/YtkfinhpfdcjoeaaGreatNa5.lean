/- Texts that the proof leans on, in one: FmSize, Math, RefNum, EndOf, RefTape, NmRight, Base, Clone. -/
import Derived.Test.YtkfinhpfdcjoeaaGreatNa4
import Derived.Test.YtkfinhpfdcjoeaaGreatNa1
import Derived.Test.YtkfinhpfdcjoeaaGreatRows
/- Size of a formula. -/
namespace Go.Proofs.YtkfinhpfdcjoeaaGreat
section
open Go.RowKit
theorem deep_nodes:∀f:FmB,deepF f≤nodesF f:=by
 refine nodes_ind fun f h=>?_
 have key:∀l:List FmB,(∀g∈l,deepF g≤nodesF g)→deepL l≤nodesL l:=by
  intro l
  induction l with
  | nil=>exact fun _=>Nat.le_refl _
  | cons x l ih=>
   intro h
   have h1:=h x (by simp)
   have h2:=ih (fun g hg=>h g (by simp [hg]))
   rw[nodesL,deepL]
   omega
 have:=key _ h
 rw[nodesF_eq,deepF_eq]
 omega
theorem deepL_take (l:List FmB) (j:Nat):deepL (l.take j)≤deepL l:=by
 induction l generalizing j with
 | nil=>simp [deepL]
 | cons x l ih=>
  cases j with
  | zero=>simp [deepL]
  | succ j=>rw[List.take_succ_cons,deepL,deepL];have:=ih j;omega
set_option maxRecDepth 100000 in
set_option maxHeartbeats 4000000 in
theorem fm_add {D:Nat→Prop}:∀(n:Nat) (f:FmB) (ao:Option Addr) (cp c N d0 deep:Nat) (w:World),FmsAt D w n ao f.kids→w.heap[c]? = some (.cells #[.int .i64 (N:Nat),.int .i64 (d0:Nat)] 103 (0,0))→¬D c→N+nodesF f≤4096→deep+deepF f≤100000→d0≤100000→
  Calls Tryz.prog 57 #[.pointer (some ⟨c,0,none⟩),.agg #[.int .i64 f.op,.int .i64 f.k,.string ⟨f.r.1.toArray⟩,.string ⟨f.r.2.toArray⟩,.slice ao f.kids.length cp],.int .i64 (deep:Nat)] w fun e w'=>e = .returned (.tuple #[])∧w'.heap[c]? = some (.cells #[.int .i64 (N+nodesF f:Nat),.int .i64 (max d0 (deep+deepF f-1):Nat)] 103 (0,0))∧Chg (· = c) w w':=by
 intro n
 induction n using Nat.strongRecOn with
 | _ n ih=>
 intro f ao cp c N d0 deep w h hc hDc hN hd hd0
 have hcl:=lt_blk hc
 have hnl:=nodesL_len f.kids
 have hnf:=nodesF_eq f
 have hdf:=deepF_eq f
 have HX:=hid h
 have HIN:=hid ih
 clear h ih
 have hcA:=alc w (.cells #[.int .i64 f.op,.int .i64 f.k,.string ⟨f.r.1.toArray⟩,.string ⟨f.r.2.toArray⟩,.slice ao f.kids.length cp] 46)
 have hb:=heap_alloc_new w (.cells #[.int .i64 f.op,.int .i64 f.k,.string ⟨f.r.1.toArray⟩,.string ⟨f.r.2.toArray⟩,.slice ao f.kids.length cp] 46)
 have hcw:=bE hc hcA id
 have c0:=bC hcw 0
 have hne:w.heap.size≠c:=by omega
 have hs1:=set_blk hc 0 (.int .i64 ((N:Int)+1))
 have hs1w:=bE hs1 ((Chg.refl (fun _=>False) (w.setCell ⟨c,0,none⟩ (.int .i64 ((N:Int)+1)))).alloc (.cells #[.int .i64 f.op,.int .i64 f.k,.string ⟨f.r.1.toArray⟩,.string ⟨f.r.2.toArray⟩,.slice ao f.kids.length cp] 46)) id
 have c1:=bC hs1w 1
 have z0:=froz_blk hcw 0
 have z1:=froz_blk hs1w 1
 simp only[lA,lZ,Array.setIfInBounds]at c0 c1
 have hwr:IntKind.i64.wrap ((N:Int)+1)=(N:Int)+1:=by rw[IntKind.wrap_i64];omega
 go_enter Tryz.func57,Tryz.ntmps57
 by_cases hm:d0<deep
 ·have hm1:(d0:Int)<(deep:Int):=by omega
  have hm2:¬(deep:Int)<(d0:Int):=by omega
  go_wp2
  obtain⟨w1,hw1⟩:∃w1,w1=((w.setCell ⟨c,0,none⟩ (.int .i64 ((N:Int)+1))).setCell ⟨c,1,none⟩ (.int .i64 (deep:Nat))).alloc (.cells #[.int .i64 f.op,.int .i64 f.k,.string ⟨f.r.1.toArray⟩,.string ⟨f.r.2.toArray⟩,.slice ao f.kids.length cp] 46):=⟨_,rfl⟩
  have hs2:=set_blk hs1 1 (.int .i64 (deep:Nat))
  have hch:Chg (· = c) w w1:=by rw[hw1];exact(((Chg.refl (· = c) w).setCell (p:=⟨c,0,none⟩) (fun _=>rfl) _).setCell (p:=⟨c,1,none⟩) (fun _=>rfl) _).alloc _
  have hblk:w1.heap[c]? = some (.cells #[.int .i64 (N+1:Nat),.int .i64 (deep:Nat)] 103 (0,0)):=by rw[hw1];exact bE hs2 ((Chg.refl (fun _=>False) _).alloc _) id
  rw[←hw1]
  have HB1:=hid (aI hblk hch)
  have HMX:=hid hm
  clear hs2 hch hblk hw1 hs1 hs1w c0 c1 z0 z1 hcA hcw hb hne hwr hm hm1 hm2
  go_loopw [27] (fun i wr=>∃j:Nat,j≤f.kids.length∧i = .int .i64 j∧Hid (wr.heap[c]? = some (.cells #[.int .i64 (N+1+nodesL (f.kids.take j):Nat),.int .i64 (max deep (deep+deepL (f.kids.take j)):Nat)] 103 (0,0))∧Chg (· = c) w wr)) (fun i _=>f.kids.length-(intOf i).toNat)
  case atStart=>exact⟨0,Nat.zero_le _,rfl,hid (by
   refine⟨?_,HB1.out.2⟩
   have e:max deep (deep+deepL (f.kids.take 0))=deep:=by simp only[List.take_zero,deepL];have:=HMX.out;omega
   rw[e]
   exact HB1.out.1)⟩
  case round=>
   obtain⟨j,hj,rfl,hrel⟩:=hrel
   by_cases hlt:j<f.kids.length
   ·obtain⟨b,off,hao,hDb,hat⟩:=(HX.out.keep hrel.out.2 (fun i hi e=>hDc (e▸hi))) j hlt
    obtain⟨d,ao2,cp2,hd2,⟨a0,a1,a2,a3,a4⟩,hok2,hz2,hkids⟩:=hat.open_
    obtain⟨M,hM⟩:∃M,M=N+1+nodesL (f.kids.take j):=⟨_,rfl⟩
    obtain⟨d1,hd1⟩:∃d1,d1=max deep (deep+deepL (f.kids.take j)):=⟨_,rfl⟩
    have hnt:=nodesL_get f.kids j hlt
    have hdt:deepL (f.kids.take (j+1))=max (deepL (f.kids.take j)) (deepF f.kids[j]):=by rw[List.take_succ_eq_append_getElem hlt,deepL_snoc]
    have hle1:=nodesL_take f.kids (j+1)
    have hle2:=deepL_take f.kids (j+1)
    have hg1:=nodesF_pos f.kids[j]
    have hg2:=deepF_eq f.kids[j]
    rw[←hM,←hd1]at hrel
    generalize f.kids[j]=g at *
    have HNX:Hid (∀w2:World,w2.heap[c]? = some (.cells #[.int .i64 (M+nodesF g:Nat),.int .i64 (max d1 (deep+1+deepF g-1):Nat)] 103 (0,0))→w2.heap[c]? = some (.cells #[.int .i64 (N+1+nodesL (f.kids.take (j+1)):Nat),.int .i64 (max deep (deep+deepL (f.kids.take (j+1))):Nat)] 103 (0,0))):=hid (fun w2 h=>by
     have e1:M+nodesF g=N+1+nodesL (f.kids.take (j+1)):=by omega
     have e2:max d1 (deep+1+deepF g-1)=max deep (deep+deepL (f.kids.take (j+1))):=by omega
     rw[←e1,←e2];exact h)
    have hcA:=alc wr (.cells #[.int .i64 g.op,.int .i64 g.k,.string ⟨g.r.1.toArray⟩,.string ⟨g.r.2.toArray⟩,.slice ao2 g.kids.length cp2] 46)
    have hbk:=bE hrel.out.1 hcA id
    have e0:=bC hbk 0
    simp only[lA,lZ]at e0
    have hnb:=heap_alloc_new wr (.cells #[.int .i64 g.op,.int .i64 g.k,.string ⟨g.r.1.toArray⟩,.string ⟨g.r.2.toArray⟩,.slice ao2 g.kids.length cp2] 46)
    have s0:=bC hnb 0
    have s1:=bC hnb 1
    have s2:=bC hnb 2
    have s3:=bC hnb 3
    have s4:=bC hnb 4
    simp only[lA,lZ,lS]at s0 s1 s2 s3 s4
    have z1:decide ((4096:Int)<(M:Int))=false:=decide_eq_false (by omega)
    have HIH:Hid (Calls Tryz.prog 57 #[.pointer (some ⟨c,0,none⟩),.agg #[.int .i64 g.op,.int .i64 g.k,.string ⟨g.r.1.toArray⟩,.string ⟨g.r.2.toArray⟩,.slice ao2 g.kids.length cp2],.int .i64 ((deep:Int)+1)] (wr.alloc (.cells #[.int .i64 g.op,.int .i64 g.k,.string ⟨g.r.1.toArray⟩,.string ⟨g.r.2.toArray⟩,.slice ao2 g.kids.length cp2] 46)) fun e w'=>e = .returned (.tuple #[])∧w'.heap[c]? = some (.cells #[.int .i64 (M+nodesF g:Nat),.int .i64 (max d1 (deep+1+deepF g-1):Nat)] 103 (0,0))∧Chg (· = c) (wr.alloc (.cells #[.int .i64 g.op,.int .i64 g.k,.string ⟨g.r.1.toArray⟩,.string ⟨g.r.2.toArray⟩,.slice ao2 g.kids.length cp2] 46)) w'):=hid (HIN.out d hd2 g ao2 cp2 c M d1 (deep+1) _ (hkids.keep hcA (fun _ _=>id)) hbk hDc (by omega) (by omega) (by omega))
    have HC2:=hid (hrel.out.2.trans hcA (fun _ _ h=>h.elim))
    have HLT:=hid hlt
    clear hcA hbk hnb hrel hkids hat hM hd1 hnt hdt hle1 hle2 hg1 hg2 hok2 hd2
    subst hao
    go_wp2_with fail
    refine HIH.out.mono ?_
    rintro e w3 ⟨rfl,hk3,hc3⟩
    have HC3:=hid (HC2.out.trans hc3 (fun _ _ h=>h))
    have HB3:=hid (HNX.out w3 hk3)
    clear HIH HC2 hk3 hc3 e0 s0 s1 s2 s3 s4 a0 a1 a2 a3 a4
    go_wp2
    go_roundw
    case rel=>exact⟨j+1,HLT.out,by go_num,hid ⟨HB3.out,HC3.out⟩⟩
    case measure=>have:=HLT.out;simp [intOf];omega
   ·have hje:j=f.kids.length:=by omega
    have hr:=hrel.out
    rw[hje,List.take_length]at hr
    have HR:=hid hr
    clear hr hrel hje
    go_wp2
    go_end0
    refine⟨rfl,?_,HR.out.2⟩
    have e1:N+nodesF f=N+1+nodesL f.kids:=by rw[nodesF_eq];omega
    have e2:max d0 (deep+deepF f-1)=max deep (deep+deepL f.kids):=by rw[deepF_eq];have:=HMX.out;omega
    rw[e1,e2]
    exact HR.out.1
 ·have hm1:¬(d0:Int)<(deep:Int):=by omega
  have hm2:True:=trivial
  go_wp2
  obtain⟨w1,hw1⟩:∃w1,w1=((w.setCell ⟨c,0,none⟩ (.int .i64 ((N:Int)+1))).setCell ⟨c,1,none⟩ (.int .i64 (d0:Nat))).alloc (.cells #[.int .i64 f.op,.int .i64 f.k,.string ⟨f.r.1.toArray⟩,.string ⟨f.r.2.toArray⟩,.slice ao f.kids.length cp] 46):=⟨_,rfl⟩
  have hs2:=set_blk hs1 1 (.int .i64 (d0:Nat))
  have hch:Chg (· = c) w w1:=by rw[hw1];exact(((Chg.refl (· = c) w).setCell (p:=⟨c,0,none⟩) (fun _=>rfl) _).setCell (p:=⟨c,1,none⟩) (fun _=>rfl) _).alloc _
  have hblk:w1.heap[c]? = some (.cells #[.int .i64 (N+1:Nat),.int .i64 (d0:Nat)] 103 (0,0)):=by rw[hw1];exact bE hs2 ((Chg.refl (fun _=>False) _).alloc _) id
  rw[←hw1]
  have HB1:=hid (aI hblk hch)
  have HMX:=hid hm
  clear hs2 hch hblk hw1 hs1 hs1w c0 c1 z0 z1 hcA hcw hb hne hwr hm hm1 hm2
  go_loopw [27] (fun i wr=>∃j:Nat,j≤f.kids.length∧i = .int .i64 j∧Hid (wr.heap[c]? = some (.cells #[.int .i64 (N+1+nodesL (f.kids.take j):Nat),.int .i64 (max d0 (deep+deepL (f.kids.take j)):Nat)] 103 (0,0))∧Chg (· = c) w wr)) (fun i _=>f.kids.length-(intOf i).toNat)
  case atStart=>exact⟨0,Nat.zero_le _,rfl,hid (by
   refine⟨?_,HB1.out.2⟩
   have e:max d0 (deep+deepL (f.kids.take 0))=d0:=by simp only[List.take_zero,deepL];have:=HMX.out;omega
   rw[e]
   exact HB1.out.1)⟩
  case round=>
   obtain⟨j,hj,rfl,hrel⟩:=hrel
   by_cases hlt:j<f.kids.length
   ·obtain⟨b,off,hao,hDb,hat⟩:=(HX.out.keep hrel.out.2 (fun i hi e=>hDc (e▸hi))) j hlt
    obtain⟨d,ao2,cp2,hd2,⟨a0,a1,a2,a3,a4⟩,hok2,hz2,hkids⟩:=hat.open_
    obtain⟨M,hM⟩:∃M,M=N+1+nodesL (f.kids.take j):=⟨_,rfl⟩
    obtain⟨d1,hd1⟩:∃d1,d1=max d0 (deep+deepL (f.kids.take j)):=⟨_,rfl⟩
    have hnt:=nodesL_get f.kids j hlt
    have hdt:deepL (f.kids.take (j+1))=max (deepL (f.kids.take j)) (deepF f.kids[j]):=by rw[List.take_succ_eq_append_getElem hlt,deepL_snoc]
    have hle1:=nodesL_take f.kids (j+1)
    have hle2:=deepL_take f.kids (j+1)
    have hg1:=nodesF_pos f.kids[j]
    have hg2:=deepF_eq f.kids[j]
    rw[←hM,←hd1]at hrel
    generalize f.kids[j]=g at *
    have HNX:Hid (∀w2:World,w2.heap[c]? = some (.cells #[.int .i64 (M+nodesF g:Nat),.int .i64 (max d1 (deep+1+deepF g-1):Nat)] 103 (0,0))→w2.heap[c]? = some (.cells #[.int .i64 (N+1+nodesL (f.kids.take (j+1)):Nat),.int .i64 (max d0 (deep+deepL (f.kids.take (j+1))):Nat)] 103 (0,0))):=hid (fun w2 h=>by
     have e1:M+nodesF g=N+1+nodesL (f.kids.take (j+1)):=by omega
     have e2:max d1 (deep+1+deepF g-1)=max d0 (deep+deepL (f.kids.take (j+1))):=by omega
     rw[←e1,←e2];exact h)
    have hcA:=alc wr (.cells #[.int .i64 g.op,.int .i64 g.k,.string ⟨g.r.1.toArray⟩,.string ⟨g.r.2.toArray⟩,.slice ao2 g.kids.length cp2] 46)
    have hbk:=bE hrel.out.1 hcA id
    have e0:=bC hbk 0
    simp only[lA,lZ]at e0
    have hnb:=heap_alloc_new wr (.cells #[.int .i64 g.op,.int .i64 g.k,.string ⟨g.r.1.toArray⟩,.string ⟨g.r.2.toArray⟩,.slice ao2 g.kids.length cp2] 46)
    have s0:=bC hnb 0
    have s1:=bC hnb 1
    have s2:=bC hnb 2
    have s3:=bC hnb 3
    have s4:=bC hnb 4
    simp only[lA,lZ,lS]at s0 s1 s2 s3 s4
    have z1:decide ((4096:Int)<(M:Int))=false:=decide_eq_false (by omega)
    have HIH:Hid (Calls Tryz.prog 57 #[.pointer (some ⟨c,0,none⟩),.agg #[.int .i64 g.op,.int .i64 g.k,.string ⟨g.r.1.toArray⟩,.string ⟨g.r.2.toArray⟩,.slice ao2 g.kids.length cp2],.int .i64 ((deep:Int)+1)] (wr.alloc (.cells #[.int .i64 g.op,.int .i64 g.k,.string ⟨g.r.1.toArray⟩,.string ⟨g.r.2.toArray⟩,.slice ao2 g.kids.length cp2] 46)) fun e w'=>e = .returned (.tuple #[])∧w'.heap[c]? = some (.cells #[.int .i64 (M+nodesF g:Nat),.int .i64 (max d1 (deep+1+deepF g-1):Nat)] 103 (0,0))∧Chg (· = c) (wr.alloc (.cells #[.int .i64 g.op,.int .i64 g.k,.string ⟨g.r.1.toArray⟩,.string ⟨g.r.2.toArray⟩,.slice ao2 g.kids.length cp2] 46)) w'):=hid (HIN.out d hd2 g ao2 cp2 c M d1 (deep+1) _ (hkids.keep hcA (fun _ _=>id)) hbk hDc (by omega) (by omega) (by omega))
    have HC2:=hid (hrel.out.2.trans hcA (fun _ _ h=>h.elim))
    have HLT:=hid hlt
    clear hcA hbk hnb hrel hkids hat hM hd1 hnt hdt hle1 hle2 hg1 hg2 hok2 hd2
    subst hao
    go_wp2_with fail
    refine HIH.out.mono ?_
    rintro e w3 ⟨rfl,hk3,hc3⟩
    have HC3:=hid (HC2.out.trans hc3 (fun _ _ h=>h))
    have HB3:=hid (HNX.out w3 hk3)
    clear HIH HC2 hk3 hc3 e0 s0 s1 s2 s3 s4 a0 a1 a2 a3 a4
    go_wp2
    go_roundw
    case rel=>exact⟨j+1,HLT.out,by go_num,hid ⟨HB3.out,HC3.out⟩⟩
    case measure=>have:=HLT.out;simp [intOf];omega
   ·have hje:j=f.kids.length:=by omega
    have hr:=hrel.out
    rw[hje,List.take_length]at hr
    have HR:=hid hr
    clear hr hrel hje
    go_wp2
    go_end0
    refine⟨rfl,?_,HR.out.2⟩
    have e1:N+nodesF f=N+1+nodesL f.kids:=by rw[nodesF_eq];omega
    have e2:max d0 (deep+deepF f-1)=max d0 (deep+deepL f.kids):=by rw[deepF_eq];have:=HMX.out;omega
    rw[e1,e2]
    exact HR.out.1
set_option maxRecDepth 100000 in
set_option maxHeartbeats 4000000 in
theorem fm_size {D:Nat→Prop} (n:Nat) (f:FmB) (ao:Option Addr) (cp:Nat) (w:World) (h:FmsAt D w n ao f.kids) (hD:∀i,D i→i<w.heap.size) (hN:nodesF f≤4096) :
  Calls Tryz.prog 28 #[.agg #[.int .i64 f.op,.int .i64 f.k,.string ⟨f.r.1.toArray⟩,.string ⟨f.r.2.toArray⟩,.slice ao f.kids.length cp]] w fun e w'=>e = .returned (.tuple #[.int .i64 (nodesF f:Nat),.int .i64 (deepF f:Nat)])∧Chg (fun _=>False) w w':=by
 have hdn:=deep_nodes f
 have hc1:=alc w (.cells #[.int .i64 f.op,.int .i64 f.k,.string ⟨f.r.1.toArray⟩,.string ⟨f.r.2.toArray⟩,.slice ao f.kids.length cp] 46)
 have hc2:Chg (fun _=>False) w ((w.alloc (.cells #[.int .i64 f.op,.int .i64 f.k,.string ⟨f.r.1.toArray⟩,.string ⟨f.r.2.toArray⟩,.slice ao f.kids.length cp] 46)).alloc (.cells #[.int .i64 0,.int .i64 0] 103)):=hc1.alloc _
 have hC:=heap_alloc_new (w.alloc (.cells #[.int .i64 f.op,.int .i64 f.k,.string ⟨f.r.1.toArray⟩,.string ⟨f.r.2.toArray⟩,.slice ao f.kids.length cp] 46)) (.cells #[.int .i64 0,.int .i64 0] 103)
 have hsz:(w.alloc (.cells #[.int .i64 f.op,.int .i64 f.k,.string ⟨f.r.1.toArray⟩,.string ⟨f.r.2.toArray⟩,.slice ao f.kids.length cp] 46)).heap.size=w.heap.size+1:=by simp
 rw[hsz]at hC
 have hadd:=fm_add n f ao cp _ 0 0 1 _ (h.keep hc2 (fun _ _=>id)) hC (fun h=>by have:=hD _ h;omega) (by omega) (by omega) (by omega)
 have hbF:=bE (heap_alloc_new w (.cells #[.int .i64 f.op,.int .i64 f.k,.string ⟨f.r.1.toArray⟩,.string ⟨f.r.2.toArray⟩,.slice ao f.kids.length cp] 46)) ((Chg.refl (fun _=>False) _).alloc (.cells #[.int .i64 0,.int .i64 0] 103)) id
 have s0:=bC hbF 0
 have s1:=bC hbF 1
 have s2:=bC hbF 2
 have s3:=bC hbF 3
 have s4:=bC hbF 4
 simp only[lA,lZ,lS]at s0 s1 s2 s3 s4
 have HADD:=hid hadd
 have HC2:=hid hc2
 have HSZ:=hid hsz
 clear h hD hadd hc1 hc2 hC hbF hsz
 go_enter Tryz.func28,Tryz.ntmps28
 go_wp2_with fail
 refine HADD.out.mono ?_
 rintro e w3 ⟨rfl,hk,hc3⟩
 have HC3:=hid (HC2.out.trans hc3 (fun i hi e=>by have:=HSZ.out;omega))
 have e2:max 0 (1+deepF f-1)=deepF f:=by omega
 rw[Nat.zero_add,e2]at hk
 have k0:=bC hk 0
 have k1:=bC hk 1
 simp only[lA,lZ,lS]at k0 k1
 have z1:decide ((4096:Int)<(nodesF f:Int))=false:=decide_eq_false (by omega)
 have HK:=hid hk
 clear HADD HC2 hc3 hk s0 s1 s2 s3 s4 e2
 go_wp2
 generalize w.heap.size+1=C at *
 refine wp_region_specs [.any,.any,.eq (.int .i64 (nodesF f:Nat)),.eq (.int .i64 (deepF f:Nat)),.eq (.pointer (some ⟨C,0,none⟩)),.any,.any,.any,.any,.any,.eq (.pointer (some ⟨C,0,none⟩)),.eq (.int .i64 (nodesF f:Nat)),.eq (.pointer (some ⟨C,1,none⟩)),.eq (.int .i64 (deepF f:Nat))] [10,11,12,13,2,3] [4] (by kernel_rfl) (by kernel_rfl) (by rfl) (by kernel_rfl) ?start ?obs ?fin
 case start=>
  simp only[List.forall_mem_cons];exact⟨⟨_,rfl,rfl⟩,fun _ h=>by cases h⟩
 case obs=>
  clear k0 k1
  refine Obs.cons none (by kernel_rfl) ?_ ?_
  ·refine Ob.plain fun a w hR hk K k=>?_
   obtain⟨_,e4,rfl⟩:=hk 4 (by decide)
   clear hk
   go_simp
   exact k _ _ R0 rfl
  refine Obs.cons none (by kernel_rfl) ?_ ?_
  ·refine Ob.plain fun a w hR hk K k=>?_
   obtain⟨_,e10,rfl⟩:=hk 10 (by decide)
   clear hk
   have hb:=bE HK.out hR id
   have k0:=bC hb 0
   have k1:=bC hb 1
   simp only[lA,lZ,lS]at k0 k1
   clear hb hR
   go_simp
   exact k _ _ R0 rfl
  refine Obs.cons none (by kernel_rfl) ?_ ?_
  ·refine Ob.plain fun a w hR hk K k=>?_
   obtain⟨_,e4,rfl⟩:=hk 4 (by decide)
   clear hk
   go_simp
   exact k _ _ R0 rfl
  refine Obs.cons none (by kernel_rfl) ?_ ?_
  ·refine Ob.plain fun a w hR hk K k=>?_
   obtain⟨_,e12,rfl⟩:=hk 12 (by decide)
   clear hk
   have hb:=bE HK.out hR id
   have k0:=bC hb 0
   have k1:=bC hb 1
   simp only[lA,lZ,lS]at k0 k1
   clear hb hR
   go_simp
   exact k _ _ R0 rfl
  refine Obs.cons none (by kernel_rfl) ?_ ?_
  ·refine Ob.plain fun a w hR hk K k=>?_
   obtain⟨_,e11,f11⟩:=hk 11 (by decide)
   clear hk
   go_simp
   exact k _ _ R0 f11
  refine Obs.cons none (by kernel_rfl) ?_ ?_
  ·refine Ob.plain fun a w hR hk K k=>?_
   obtain⟨_,e13,f13⟩:=hk 13 (by decide)
   clear hk
   go_simp
   exact k _ _ R0 f13
  exact Obs.nil
 case fin=>
  intro vals w9 hc9 hv
  have h2:vals 2 = .int .i64 (nodesF f:Nat):=hv 2 (by decide)
  have h3:vals 3 = .int .i64 (deepF f:Nat):=hv 3 (by decide)
  have HC4:=hid (HC3.out.trans hc9 (fun _ _ h=>h))
  simp only[putAll,List.setIfInBounds_toArray,List.set_cons_zero,List.set_cons_succ,h2,h3]
  clear hv h2 h3 hc9
  go_wp2
  go_ret2
  exact⟨rfl,HC4.out⟩
end
section
open Go.RowKit
/-- The number that the bytes begin with, how many bytes it has, and the error. -/
def numN:Nat→List UInt8→Nat→Nat→Nat×Nat×Nat
 | 0,_,_,_=>(0,0,11)
 | _+1,[],_,_=>(0,0,10)
 | f+1,d::l,k,n=>
  if d.toNat=0∧0<k then (0,0,11)
  else if d.toNat<128 then (n+d.toNat*128 ^ k,k+1,0)
  else numN f l (k+1) (n+(d.toNat-128)*128 ^ k)
/-- The error of a text that is read. -/
def errText (l:List UInt8) (most:Int):Nat:=
 if (numN 9 l 0 0).2.2=0 then
  (if most<((numN 9 l 0 0).1:Int) then 12 else if l.length-(numN 9 l 0 0).2.1<(numN 9 l 0 0).1 then 10 else 0)
 else (numN 9 l 0 0).2.2
/-- A number's bytes: one that isn't the last; the last. -/
def dg (n:Nat):UInt8:=UInt8.ofNat (128+n % 128)
def ds (n:Nat):UInt8:=UInt8.ofNat n
def enc (n:Nat):List UInt8:=if n<128 then [ds n] else dg n::enc (n / 128)
 termination_by n
 decreasing_by omega
theorem enc_small {n:Nat} (h:n<128):enc n=[ds n]:=by rw[enc,if_pos h]
theorem enc_big {n:Nat} (h:128≤n):enc n=dg n::enc (n / 128):=by rw[enc,if_neg (by omega)]
theorem enc_length:∀(k n:Nat),n<128 ^ (k+1)→(enc n).length≤k+1
 | 0,n,h=>by rw[enc_small (by omega)];simp
 | k+1,n,h=>by
  by_cases h1:n<128
  ·rw[enc_small h1];simp
  ·rw[enc_big (by omega)]
   have:=enc_length k (n / 128) (by rw[Nat.pow_succ]at h;omega)
   simp only[List.length_cons]
   omega
theorem enc_length9 {n:Nat} (h:n<9223372036854775808):(enc n).length≤9:=enc_length 8 n (by simpa using h)
theorem enc_pos (n:Nat):0<(enc n).length:=by
 by_cases h1:n<128
 ·rw[enc_small h1];simp
 ·rw[enc_big (by omega)];simp
theorem bits_and_i64_127 (n:Nat) (h:n<9223372036854775808):bits .and .i64 (n:Int) 127=((n % 128:Nat):Int):=by
 have h1:(BitVec.ofInt 64 (n:Int)).toNat=n:=by
  rw[BitVec.ofInt_natCast,BitVec.toNat_ofNat];exact Nat.mod_eq_of_lt (by omega)
 show IntKind.i64.wrap ((BitVec.ofInt 64 (n:Int) &&& BitVec.ofInt 64 127).toNat:Int)=_
 rw[BitVec.toNat_and,h1]
 have h2:(BitVec.ofInt 64 127).toNat=2 ^ 7-1:=by decide
 rw[h2,Nat.and_two_pow_sub_one_eq_mod]
 exact IntWalk.i64_in _ (by omega)
theorem bits_or_u8_128 (d:Nat) (h:d<128):bits .or .u8 (d:Int) 128=((128+d:Nat):Int):=by
 have h1:(BitVec.ofInt 8 (d:Int)).toNat=d:=by
  rw[BitVec.ofInt_natCast,BitVec.toNat_ofNat];exact Nat.mod_eq_of_lt (by omega)
 show IntKind.u8.wrap ((BitVec.ofInt 8 (d:Int) ||| BitVec.ofInt 8 128).toNat:Int)=_
 rw[BitVec.toNat_or,h1]
 have h2:(BitVec.ofInt 8 128).toNat=1 <<< 7:=by decide
 rw[h2,Nat.or_comm,←Nat.shiftLeft_add_eq_or_of_lt (by simpa using h)]
 simp only[Nat.shiftLeft_eq]
 exact IntWalk.u8_in _ (by omega)
theorem dg_toNat (n:Nat):(dg n).toNat=128+n % 128:=ofNat_u8 _ (by omega)
theorem ds_toNat {n:Nat} (h:n<128):(ds n).toNat=n:=ofNat_u8 _ (by omega)
theorem digit_of (n:Nat) (h:n<9223372036854775808):bits .or .u8 (bits .and .i64 (n:Int) 127 % 256) 128=((dg n).toNat:Int):=by
 have e:((n % 128:Nat):Int) % 256=((n % 128:Nat):Int):=by omega
 rw[bits_and_i64_127 n h,e,bits_or_u8_128 _ (Nat.mod_lt _ (by decide)),dg_toNat]
end
section
open Go.RowKit
end
section
open Go.RowKit
end
section
open Go.RowKit
end
section
open Go.RowKit
theorem letter_any (c:UInt8) (w:World) :
  Calls Tryz.prog 43 #[.int .u8 (c.toNat:Int)] w fun e w'=>e = .returned (.bool (okFirst c))∧w=w':=by
 by_cases h1:97≤c.toNat
 ·have d1:decide ((97:Int)≤(c.toNat:Int))=true:=by simp;omega
  by_cases h2:c.toNat≤122
  ·have d2:decide ((c.toNat:Int)≤122)=true:=by simp;omega
   have hx:Hid (okFirst c=true):=hid (by simp [okFirst,h1,h2])
   clear h1 h2
   go_enter Tryz.func43,Tryz.ntmps43
   go_wp2
   go_ret
   exact⟨by rw[hx.out];rfl,rfl⟩
  ·have d2:decide ((c.toNat:Int)≤122)=false:=by simp;omega
   have hx:Hid (okFirst c=false):=hid (by simp [okFirst,h1,h2])
   clear h1 h2
   go_enter Tryz.func43,Tryz.ntmps43
   go_wp2
   go_ret
   exact⟨by rw[hx.out];rfl,rfl⟩
 ·have d1:decide ((97:Int)≤(c.toNat:Int))=false:=by simp;omega
  have hx:Hid (okFirst c=false):=hid (by simp [okFirst,h1])
  clear h1
  go_enter Tryz.func43,Tryz.ntmps43
  go_wp2
  go_ret
  exact⟨by rw[hx.out];rfl,rfl⟩
theorem sign_any (c:UInt8) (w:World) :
  Calls Tryz.prog 44 #[.int .u8 (c.toNat:Int)] w fun e w'=>e = .returned (.bool (okByte c))∧w=w':=by
 by_cases h0:okFirst c=true
 ·have hx:Hid (okByte c=true):=hid (by simp only[okFirst]at h0;simp [okByte,h0])
  go_enter Tryz.func44,Tryz.ntmps44
  go_wp2_with (go_at_call 43;refine(letter_any c _).mono ?_;rintro e w' ⟨rfl,rfl⟩;rw[h0])
  go_ret
  exact⟨by rw[hx.out];rfl,rfl⟩
 ·have h0':okFirst c=false:=by simpa using h0
  have hb:okByte c=((decide (48≤c.toNat)&&decide (c.toNat≤57))||decide (c.toNat=45)):=by
   simp only[okFirst]at h0'
   simp only[okByte,h0',Bool.false_or]
  clear h0
  by_cases h1:48≤c.toNat
  ·have d1:decide ((48:Int)≤(c.toNat:Int))=true:=by simp;omega
   by_cases h2:c.toNat≤57
   ·have d2:decide ((c.toNat:Int)≤57)=true:=by simp;omega
    have hx:Hid (okByte c=true):=hid (by rw[hb];simp [h1,h2])
    clear h1 h2 hb
    go_enter Tryz.func44,Tryz.ntmps44
    go_wp2_with (go_at_call 43;refine(letter_any c _).mono ?_;rintro e w' ⟨rfl,rfl⟩;rw[h0'])
    go_ret
    exact⟨by rw[hx.out];rfl,rfl⟩
   ·have d2:decide ((c.toNat:Int)≤57)=false:=by simp;omega
    have d3:((c.toNat:Int)==45)=false:=by simp;omega
    have hx:Hid (okByte c=false):=hid (by rw[hb];simp;omega)
    clear h1 h2 hb
    go_enter Tryz.func44,Tryz.ntmps44
    go_wp2_with (go_at_call 43;refine(letter_any c _).mono ?_;rintro e w' ⟨rfl,rfl⟩;rw[h0'])
    go_ret
    exact⟨by rw[hx.out];rfl,rfl⟩
  ·have d1:decide ((48:Int)≤(c.toNat:Int))=false:=by simp;omega
   by_cases h3:c.toNat=45
   ·have d3:((c.toNat:Int)==45)=true:=by simp;omega
    have hx:Hid (okByte c=true):=hid (by rw[hb];simp [h3])
    clear h1 h3 hb
    go_enter Tryz.func44,Tryz.ntmps44
    go_wp2_with (go_at_call 43;refine(letter_any c _).mono ?_;rintro e w' ⟨rfl,rfl⟩;rw[h0'])
    go_ret
    exact⟨by rw[hx.out];rfl,rfl⟩
   ·have d3:((c.toNat:Int)==45)=false:=by simp;omega
    have hx:Hid (okByte c=false):=hid (by rw[hb];simp;omega)
    clear h1 h3 hb
    go_enter Tryz.func44,Tryz.ntmps44
    go_wp2_with (go_at_call 43;refine(letter_any c _).mono ?_;rintro e w' ⟨rfl,rfl⟩;rw[h0'])
    go_ret
    exact⟨by rw[hx.out];rfl,rfl⟩
theorem right_any (l:List UInt8) (w:World) (hs:l.length≤9223372036854775807) :
  Calls Tryz.prog 22 #[.string ⟨l.toArray⟩] w fun e w'=>e = .returned (.bool (isName l))∧w=w':=by
 have gx:=ba_get l
 by_cases h0:l.length<1
 ·have he:l=[]:=List.eq_nil_of_length_eq_zero (by omega)
  subst he
  go_enter Tryz.func22,Tryz.ntmps22
  go_wp2
  go_ret
  exact⟨rfl,rfl⟩
 ·have hpos:0<l.length:=by omega
  have d0:decide ((l.length:Int)<1)=false:=by simp;omega
  have d00:decide ((0:Int)<(l.length:Int))=true:=by simp;omega
  clear h0
  by_cases h16:16<l.length
  ·have hx:Hid (isName l=false):=hid (isName_long h16)
   have d1:decide (16<(l.length:Int))=true:=by simp;omega
   go_enter Tryz.func22,Tryz.ntmps22
   go_wp2
   go_ret
   exact⟨by rw[hx.out];rfl,rfl⟩
  ·have d1:decide (16<(l.length:Int))=false:=by simp;omega
   by_cases h1:okFirst l[0]=true
   ·have hx:Hid (isName l=l.all okByte):=hid (isName_all hpos h1 (by omega))
    go_enter Tryz.func22,Tryz.ntmps22
    go_wp2_with (go_at_call 43;refine(letter_any l[0] _).mono ?_;rintro e w' ⟨rfl,rfl⟩;rw[h1])
    clear d0 d1 d00
    go_loop [20] (fun i=>∃k:Nat,k≤l.length∧i = .int .i64 k∧Hid ((l.take k).all okByte=true)) (fun i=>l.length-(intOf i).toNat)
    case atStart=>exact⟨0,Nat.zero_le _,rfl,rfl⟩
    case round=>
     obtain⟨k,hk,rfl,ha⟩:=hrel
     by_cases hlt:k<l.length
     ·cases hok:okByte l[k] with
      | true=>
       have hn:Hid ((l.take (k+1)).all okByte=true):=hid (by rw[all_take_succ _ k hlt ha.out,hok])
       clear ha
       go_wp2_with (go_at_call 44;refine(sign_any l[k] _).mono ?_;rintro e w' ⟨rfl,rfl⟩;rw[hok])
       go_round
       case rel=>exact⟨k+1,by omega,by go_num,hn⟩
       case measure=>simp [intOf];omega
      | false=>
       have hn:Hid (l.all okByte=false):=hid (all_of_bad l k hlt hok)
       clear ha
       go_wp2_with (go_at_call 44;refine(sign_any l[k] _).mono ?_;rintro e w' ⟨rfl,rfl⟩;rw[hok])
       go_ret
       exact⟨by rw[hx.out,hn.out];rfl,rfl⟩
     ·have hk2:k=l.length:=by omega
      subst hk2
      have hn:Hid (l.all okByte=true):=hid (by have:=ha.out;rwa [List.take_of_length_le (Nat.le_refl _)]at this)
      go_wp2
      go_ret
      exact⟨by rw[hx.out,hn.out];rfl,rfl⟩
   ·have h1':okFirst l[0]=false:=by simpa using h1
    have hx:Hid (isName l=false):=hid (isName_first hpos h1')
    go_enter Tryz.func22,Tryz.ntmps22
    go_wp2_with (go_at_call 43;refine(letter_any l[0] _).mono ?_;rintro e w' ⟨rfl,rfl⟩;rw[h1'])
    go_ret
    exact⟨by rw[hx.out];rfl,rfl⟩
end
section
open Go.RowKit
/-- A pen, in the block P: what it holds is the slice (ao, xs.length, cap), which owns the bytes xs in a row of a block from B on. -/
structure PenAt (B:Nat) (w:World) (P:Nat) (ao:Option Addr) (cap:Nat) (xs:List UInt8):Prop where
 cell:w.heap[P]? = some (.cells #[.slice ao xs.length cap] 118 (0,0))
 row:w.ownsRow B 5 1 (.slice ao xs.length cap) xs.length (xs.map cb)
def rowOf (ao:Option Addr):Option Nat:=ao.map (·.block)
/-- What a pen's call leaves of all else. -/
structure PChg (P:Nat) (ao:Option Addr) (w:World) (ao':Option Addr) (w':World):Prop where
 chg:Chg (fun k=>k=P∨rowOf ao=some k) w w'
 row:rowOf ao'=rowOf ao∨∃g,rowOf ao'=some g∧w.heap.size≤g
theorem PChg.refl (P:Nat) (ao:Option Addr) (w:World):PChg P ao w ao w:=⟨Chg.refl _ _,.inl rfl⟩
theorem PChg.trans {P:Nat} {a b c:Option Addr} {u v w:World} (h:PChg P a u b v) (k:PChg P b v c w):PChg P a u c w:=by
 refine⟨h.chg.trans k.chg ?_,?_⟩
 ·rintro i hi (e|e)
  ·exact .inl e
  ·rcases h.row with hr|⟨g,hr,hg⟩
   ·exact .inr (hr.symm.trans e)
   ·rw[hr]at e
    cases e
    omega
 ·rcases k.row with kr|⟨g,kr,kg⟩
  ·rcases h.row with hr|⟨g,hr,hg⟩
   ·exact .inl (kr.trans hr)
   ·exact .inr ⟨g,kr.trans hr,hg⟩
  ·exact .inr ⟨g,kr,Nat.le_trans h.chg.size kg⟩
theorem PenAt.keep {S:Nat→Prop} {B:Nat} {w w':World} {P:Nat} {ao:Option Addr} {cap:Nat} {xs:List UInt8} (h:PenAt B w P ao cap xs) (hc:Chg S w w') (hP:¬S P) (hr:∀k,rowOf ao=some k→¬S k):PenAt B w' P ao cap xs:=by
 refine⟨(hc.block P (lt_blk h.cell) hP).trans h.cell,h.row.1,?_⟩
 rcases h.row.2 with hn|⟨g,cap',cur,hv,hg,hh,r⟩
 ·exact .inl hn
 ·refine .inr ⟨g,cap',cur,hv,hg,?_,r⟩
  have e:rowOf ao=some g:=by
   cases hv
   rfl
  exact(hc.block g (lt_blk hh) (hr g e)).trans hh
/-- What the pen holds can be read. -/
theorem PenAt.bytes {B:Nat} {w:World} {P:Nat} {ao:Option Addr} {cap:Nat} {xs:List UInt8} (h:PenAt B w P ao cap xs):BytesAt (fun k=>rowOf ao=some k) w (.slice ao xs.length cap) xs:=by
 rcases h.row.2 with ⟨hn,h0⟩|⟨g,cap',cur,hv,hg,hh,h1,h2,h3,h4⟩
 ·have h1:=List.eq_nil_of_length_eq_zero h0
  subst h1
  exact .inl ⟨none,0,hn,rfl,fun _=>rfl⟩
 ·cases hv
  refine .inr ⟨g,0,cap,rfl,h1,h2,rfl,fun i hi=>?_⟩
  have hcell:=h.row.cells (g:=g) rfl i (cb xs[i]) (by simp [hi])
  have e:((⟨g,0,none⟩:Addr).add i)=⟨g,0+i,none⟩:=by
   unfold Addr.add
   split <;> simp_all
  rw[e]at hcell
  exact hcell
end
section
open Go.RowKit
theorem eql25:∀(w:World) (a:Option Addr) (n c n' c':Nat),(binOp .eql 41 (.slice a n c) (.slice none n' c')).run Tryz.prog w = .ok (.bool a.isNone) w:=
 fun w a n c n' c'=>Lib.run_eql_slice_nil w _ _ a n c n' c' Tryz.underlying41
theorem clone_nil (w:World):Calls Tryz.prog 87 #[.slice none 0 0] w fun e w'=>e = .returned (.slice none 0 0)∧w=w':=by
 have q:=eql25
 go_enter Tryz.func87,Tryz.ntmps87
 go_wp2
 go_ret
 exact⟨rfl,rfl⟩
def Cloned (l:List UInt8) (w:World) (e:Ending) (w':World):Prop:=
 ∃ao cap,e = .returned (.slice ao l.length cap)∧BytesAt (fun k=>w.heap.size≤k∧k<w'.heap.size) w' (.slice ao l.length cap) l∧Chg (fun _=>False) w w'
/-- A slice of bytes that the call owns can be read. -/
theorem owns_bytes {B:Nat} {w:World} {v:Value} {l:List UInt8} (h:w.ownsRow B 5 1 v l.length (l.map cb)):∃ao cap,v = .slice ao l.length cap∧BytesAt (fun k=>B≤k∧k<w.heap.size) w (.slice ao l.length cap) l:=by
 rcases h.2 with ⟨rfl,h0⟩|⟨g,cap,cur,rfl,hg,hh,h1,h2,h3,h4⟩
 ·have:l=[]:=List.eq_nil_of_length_eq_zero h0
  subst this
  exact⟨none,0,rfl,BytesAt.nil _ _⟩
 ·refine⟨_,_,rfl,.inr ⟨g,0,cap,rfl,h1,h2,⟨hg,lt_blk hh⟩,fun i hi=>?_⟩⟩
  have hcell:=h.cells (g:=g) rfl i (cb l[i]) (by simp [hi])
  rw[add_off]at hcell
  exact hcell
set_option maxRecDepth 100000 in
theorem clone_some (b off cap:Nat) (l:List UInt8) (w:World) (hl:l.length≤140737488355328)
  (hc:∀i (h:i<l.length),w.cell? ⟨b,off+i,none⟩=some (.int .u8 (l[i].toNat:Int))) :
  Calls Tryz.prog 87 #[.slice (some ⟨b,off,none⟩) l.length cap] w (Cloned l w):=by
 obtain⟨i0,hi,hz0,hz1,hz2⟩:=info_parts Tryz.info5
 have q:=eql25
 go_enter Tryz.func87,Tryz.ntmps87
 go_wp2_with (at_builtin;refine wpList_append_own_atD _ rfl (.tmp 5) (.tmp 6) 41 rfl w.heap.size 5 i0 (.int .u8 0) 1 1 Tryz.underlying41 hi hz0 hz1 hz2 rfl (by decide) _ 0 [] rfl (World.ownsRow_made w #[] 0 (Nat.le_refl _) (by decide) rfl) ⟨b,off,none⟩ l.length cap (l.map cb) rfl (by simp) ?c1 ?c2 ?c3 ?c4 ?c5 ?_)
 case c1=>
  intro j u hj
  obtain⟨hj1,rfl⟩:=cb_getElem? l j u hj
  have hcj:=hc j hj1
  have hb:=World.block_lt_of_cell? w _ hcj
  rw[add_off,World.cell?_alloc_past _ _ _ hb]
  exact hcj
 case c2=>exact cb_one l
 case c3=>unfold maxLen;omega
 case c4=>omega
 case c5=>simp
 intro v' w1 hown hgrow _ _
 have hown2:w1.ownsRow w.heap.size 5 1 v' l.length (l.map cb):=by simpa using hown
 clear hown
 obtain⟨ao,cap',rfl,hby⟩:=owns_bytes hown2
 have hch:Chg (fun _=>False) w w1:=((Chg.refl _ w).alloc _).grown hgrow (fun k e hk=>by simp [Value.ownBlock]at e;omega)
 go_wp2
 go_ret
 exact⟨ao,cap',rfl,hby,hch⟩
set_option maxRecDepth 100000 in
theorem clone_empty (x:Addr) (cap:Nat) (w:World):Calls Tryz.prog 87 #[.slice (some x) 0 cap] w (Cloned [] w):=by
 obtain⟨i0,hi,hz0,hz1,hz2⟩:=info_parts Tryz.info5
 have q:=eql25
 go_enter Tryz.func87,Tryz.ntmps87
 go_wp2_with (at_builtin;refine wpList_append_own_atD _ rfl (.tmp 5) (.tmp 6) 41 rfl w.heap.size 5 i0 (.int .u8 0) 1 1 Tryz.underlying41 hi hz0 hz1 hz2 rfl (by decide) _ 0 [] rfl (World.ownsRow_made w #[] 0 (Nat.le_refl _) (by decide) rfl) x 0 cap [] rfl rfl ?c1 ?c2 ?c3 ?c4 ?c5 ?_)
 case c1=>
  intro j u hj
  simp at hj
 case c2=>simp
 case c3=>unfold maxLen;omega
 case c4=>omega
 case c5=>simp
 intro v' w1 hown hgrow _ _
 have hown2:w1.ownsRow w.heap.size 5 1 v' ([]:List UInt8).length (([]:List UInt8).map cb):=by simpa using hown
 clear hown
 obtain⟨ao,cap',rfl,hby⟩:=owns_bytes hown2
 have hch:Chg (fun _=>False) w w1:=((Chg.refl _ w).alloc _).grown hgrow (fun k e hk=>by simp [Value.ownBlock]at e;omega)
 go_wp2
 go_ret
 exact⟨ao,cap',rfl,hby,hch⟩
theorem clone_any {D:Nat→Prop} {v:Value} {l:List UInt8} {w:World} (hl:l.length≤140737488355328) (h:BytesAt D w v l):Calls Tryz.prog 87 #[v] w (Cloned l w):=by
 rcases h with ⟨ao,cp,rfl,rfl,h0⟩|⟨b,off,cap,rfl,h1,h2,h3,h4⟩
 ·cases ao with
  | none=>
   obtain rfl:=h0 rfl
   refine(clone_nil w).mono ?_
   rintro e w' ⟨rfl,rfl⟩
   exact⟨none,0,rfl,BytesAt.nil _ _,Chg.refl _ _⟩
  | some x=>exact clone_empty x cp w
 ·exact clone_some b off cap l w hl h4
end
end Go.Proofs.YtkfinhpfdcjoeaaGreat
