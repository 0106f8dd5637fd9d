/- Texts that the proof leans on, in one: GgGuard, GgOf, Enters. -/
import Derived.Test.YtkfinhpfdcjoeaaGreatNa27
import Derived.Test.YtkfinhpfdcjoeaaGreatNa26
import Derived.Test.YtkfinhpfdcjoeaaGreatNa1
/- guard.guardOf. -/
namespace Go.Proofs.YtkfinhpfdcjoeaaGreat
section
open Go.RowKit
/-- A guard, told. -/
def GuardPost (x:GdB) (p:PartyB) (w:World) (e:Ending) (w':World):Prop:=∃(y:AT) (k:Int),e = .returned (.tuple #[fmV y,.int .i64 k])∧OwnA w.heap.size w' y∧(blksA y).Nodup∧GuardR x p.acks k (eraseA y)∧Chg (fun _=>False) w w'
/-- Amid the locks: the guard so far lies in the block F. -/
structure GInv (B F:Nat) (c:CredB) (L:List AkB) (k0:Int) (f0:FmB) (w6:World) (k:Nat) (kk:Int) (y:AT) (wr:World):Prop where
 blk:wr.heap[F]? = some (.cells (cellsA y).toArray 46 (0,0))
 own:OwnA B wr y
 nd:(blksA y).Nodup
 ne:∀b∈blksA y,b≠F
 to:FoldTo c L k k0 f0 kk (eraseA y)
 few:nodesF (eraseA y)≤64
 ch:Chg (· = F) w6 wr
set_option maxRecDepth 100000 in
set_option maxHeartbeats 8000000 in
theorem gg_guard {D E:Nat→Prop} (n:Nat) (p:PartyB) (po:Option Addr) (pc:Nat) (ao:Option Addr) (ac:Nat) (c:CredB) (tg:List UInt8) (ta:Option Addr) (tl tc:Nat) (f:FmB) (m:Nat) (fo:Option Addr) (fc:Nat) (w:World) (hp:PartyAt D w n p po pc ao ac) (hg:greatP p≤4000) (hc:credShort c 20000) (hF:FmsAt E w m fo f.kids) (hE:∀i,E i→i<w.heap.size) (hok:FmOk f) (hN:nodesF f≤200) :
  Calls Tryz.prog 19 #[.agg #[.string ⟨p.name.toArray⟩,.slice po p.creds.length pc,.slice ao p.acks.length ac],.agg #[.int .i64 c.kind,.string ⟨c.head.1.toArray⟩,.string ⟨c.head.2.toArray⟩,.string ⟨c.who.toArray⟩,.string ⟨c.b.1.toArray⟩,.string ⟨c.b.2.toArray⟩,.string ⟨c.c.1.toArray⟩,.string ⟨c.c.2.toArray⟩,.string ⟨c.w2.toArray⟩,.slice ta tl tc,.int .i64 f.op,.int .i64 f.k,.string ⟨f.r.1.toArray⟩,.string ⟨f.r.2.toArray⟩,.slice fo f.kids.length fc]] w (GuardPost ⟨c,tg,f⟩ p w):=by
 have hs1:(w.alloc (.cells #[.string ⟨p.name.toArray⟩,.slice po p.creds.length pc,.slice ao p.acks.length ac] 25)).heap.size=w.heap.size+1:=by simp
 have hs2:((w.alloc (.cells #[.string ⟨p.name.toArray⟩,.slice po p.creds.length pc,.slice ao p.acks.length ac] 25)).alloc (.cells #[.int .i64 c.kind,.string ⟨c.head.1.toArray⟩,.string ⟨c.head.2.toArray⟩,.string ⟨c.who.toArray⟩,.string ⟨c.b.1.toArray⟩,.string ⟨c.b.2.toArray⟩,.string ⟨c.c.1.toArray⟩,.string ⟨c.c.2.toArray⟩,.string ⟨c.w2.toArray⟩,.slice ta tl tc,.int .i64 f.op,.int .i64 f.k,.string ⟨f.r.1.toArray⟩,.string ⟨f.r.2.toArray⟩,.slice fo f.kids.length fc] 48)).heap.size=w.heap.size+2:=by simp
 have k1:=alc w (.cells #[.string ⟨p.name.toArray⟩,.slice po p.creds.length pc,.slice ao p.acks.length ac] 25)
 have k2:=alc (w.alloc (.cells #[.string ⟨p.name.toArray⟩,.slice po p.creds.length pc,.slice ao p.acks.length ac] 25)) (.cells #[.int .i64 c.kind,.string ⟨c.head.1.toArray⟩,.string ⟨c.head.2.toArray⟩,.string ⟨c.who.toArray⟩,.string ⟨c.b.1.toArray⟩,.string ⟨c.b.2.toArray⟩,.string ⟨c.c.1.toArray⟩,.string ⟨c.c.2.toArray⟩,.string ⟨c.w2.toArray⟩,.slice ta tl tc,.int .i64 f.op,.int .i64 f.k,.string ⟨f.r.1.toArray⟩,.string ⟨f.r.2.toArray⟩,.slice fo f.kids.length fc] 48)
 have k3:=alc ((w.alloc (.cells #[.string ⟨p.name.toArray⟩,.slice po p.creds.length pc,.slice ao p.acks.length ac] 25)).alloc (.cells #[.int .i64 c.kind,.string ⟨c.head.1.toArray⟩,.string ⟨c.head.2.toArray⟩,.string ⟨c.who.toArray⟩,.string ⟨c.b.1.toArray⟩,.string ⟨c.b.2.toArray⟩,.string ⟨c.c.1.toArray⟩,.string ⟨c.c.2.toArray⟩,.string ⟨c.w2.toArray⟩,.slice ta tl tc,.int .i64 f.op,.int .i64 f.k,.string ⟨f.r.1.toArray⟩,.string ⟨f.r.2.toArray⟩,.slice fo f.kids.length fc] 48)) (.cells #[.int .i64 0,.int .i64 0,.string ⟨#[]⟩,.string ⟨#[]⟩,.slice none 0 0] 46)
 have hP:=bE (heap_alloc_new w (.cells #[.string ⟨p.name.toArray⟩,.slice po p.creds.length pc,.slice ao p.acks.length ac] 25)) (k2.trans k3 (fun _ _ h=>h)) id
 have hG:=heap_alloc_new (w.alloc (.cells #[.string ⟨p.name.toArray⟩,.slice po p.creds.length pc,.slice ao p.acks.length ac] 25)) (.cells #[.int .i64 c.kind,.string ⟨c.head.1.toArray⟩,.string ⟨c.head.2.toArray⟩,.string ⟨c.who.toArray⟩,.string ⟨c.b.1.toArray⟩,.string ⟨c.b.2.toArray⟩,.string ⟨c.c.1.toArray⟩,.string ⟨c.c.2.toArray⟩,.string ⟨c.w2.toArray⟩,.slice ta tl tc,.int .i64 f.op,.int .i64 f.k,.string ⟨f.r.1.toArray⟩,.string ⟨f.r.2.toArray⟩,.slice fo f.kids.length fc] 48)
 rw[hs1]at hG
 have hG:=bE hG k3 id
 have hR:=heap_alloc_new ((w.alloc (.cells #[.string ⟨p.name.toArray⟩,.slice po p.creds.length pc,.slice ao p.acks.length ac] 25)).alloc (.cells #[.int .i64 c.kind,.string ⟨c.head.1.toArray⟩,.string ⟨c.head.2.toArray⟩,.string ⟨c.who.toArray⟩,.string ⟨c.b.1.toArray⟩,.string ⟨c.b.2.toArray⟩,.string ⟨c.c.1.toArray⟩,.string ⟨c.c.2.toArray⟩,.string ⟨c.w2.toArray⟩,.slice ta tl tc,.int .i64 f.op,.int .i64 f.k,.string ⟨f.r.1.toArray⟩,.string ⟨f.r.2.toArray⟩,.slice fo f.kids.length fc] 48)) (.cells #[.int .i64 0,.int .i64 0,.string ⟨#[]⟩,.string ⟨#[]⟩,.slice none 0 0] 46)
 rw[hs2]at hR
 have hk:=(k1.trans k2 (fun _ _ h=>h)).trans k3 (fun _ _ h=>h)
 have v0:=bC (hG) 0
 have v1:=bC (hG) 1
 have v2:=bC (hG) 2
 have v3:=bC (hG) 3
 have v4:=bC (hG) 4
 have v5:=bC (hG) 5
 have v6:=bC (hG) 6
 have v7:=bC (hG) 7
 have v8:=bC (hG) 8
 have v9:=bC (hG) 9
 have v10:=bC (hG) 10
 have v11:=bC (hG) 11
 have v12:=bC (hG) 12
 have v13:=bC (hG) 13
 have v14:=bC (hG) 14
 simp only[lA,lZ,lS]at v0 v1 v2 v3 v4 v5 v6 v7 v8 v9 v10 v11 v12 v13 v14
 obtain⟨w3,hw3⟩:∃W,W=(((w.alloc (.cells #[.string ⟨p.name.toArray⟩,.slice po p.creds.length pc,.slice ao p.acks.length ac] 25)).alloc (.cells #[.int .i64 c.kind,.string ⟨c.head.1.toArray⟩,.string ⟨c.head.2.toArray⟩,.string ⟨c.who.toArray⟩,.string ⟨c.b.1.toArray⟩,.string ⟨c.b.2.toArray⟩,.string ⟨c.c.1.toArray⟩,.string ⟨c.c.2.toArray⟩,.string ⟨c.w2.toArray⟩,.slice ta tl tc,.int .i64 f.op,.int .i64 f.k,.string ⟨f.r.1.toArray⟩,.string ⟨f.r.2.toArray⟩,.slice fo f.kids.length fc] 48)).alloc (.cells #[.int .i64 0,.int .i64 0,.string ⟨#[]⟩,.string ⟨#[]⟩,.slice none 0 0] 46)):=⟨_,rfl⟩
 have HS3:Hid (w3.heap.size=w.heap.size+3):=hid (by rw[hw3];simp)
 have HOF:=hid (pnOf f m fo fc w3 (hF.keep (by rw[hw3];exact hk) (fun _ _=>id)) (fun i hi=>by have:=hE i hi;have:=HS3.out;omega) hok (by omega))
 rw[hw3]at HOF
 have HB:=hid (aI hP (aI hG (aI hR hk)))
 rw[←hw3]at HB
 have HW3:=hid hw3
 have HP:=hid hp
 have HGP:=hid (gp_acks hg)
 have HGG:=hid hg
 have HCS:=hid hc
 clear hs1 hs2 k1 k2 k3 hP hG hR hk hw3 hp hg hc hF hE hok hN
 go_enter Tryz.func19,Tryz.ntmps19
 go_wp2_with fail
 refine HOF.out.mono ?_
 rw[←HW3.out]
 intro e w4 hpost
 obtain⟨y0,k0,rfl,ho0,hnd0,hc4,hn0⟩:=of_post hpost
 obtain⟨xo,xc,x1,x5,x2,x3,x4⟩:=own_val ho0
 have hfm:fmV y0 = .agg #[.int .i64 (eraseA y0).op,.int .i64 (eraseA y0).k,.string ⟨(eraseA y0).r.1.toArray⟩,.string ⟨(eraseA y0).r.2.toArray⟩,.slice xo (eraseA y0).kids.length xc]:=by rw[←x1];rfl
 rw[hfm]
 have hcF:=alc w4 (.cells #[.int .i64 (eraseA y0).op,.int .i64 (eraseA y0).k,.string ⟨(eraseA y0).r.1.toArray⟩,.string ⟨(eraseA y0).r.2.toArray⟩,.slice xo (eraseA y0).kids.length xc] 46)
 have hFb:=heap_alloc_new w4 (.cells #[.int .i64 (eraseA y0).op,.int .i64 (eraseA y0).k,.string ⟨(eraseA y0).r.1.toArray⟩,.string ⟨(eraseA y0).r.2.toArray⟩,.slice xo (eraseA y0).kids.length xc] 46)
 have hc5:=hc4.trans hcF (fun _ _ h=>h)
 have hP5:=bE HB.out.1 hc5 id
 have hG5:=bE HB.out.2.1 hc5 id
 have hR5:=bE HB.out.2.2.1 hc5 id
 have hcw5:=HB.out.2.2.2.trans hc5 (fun _ _ h=>h)
 clear v0 v1 v2 v3 v4 v5 v6 v7 v8 v9 v10 v11 v12 v13 v14
 have z0:=bC (hP5) 0
 have z1:=bC (hP5) 1
 have z2:=bC (hP5) 2
 simp only[lA,lZ,lS]at z0 z1 z2
 have v0:=bC (hG5) 0
 have v1:=bC (hG5) 1
 have v2:=bC (hG5) 2
 have v3:=bC (hG5) 3
 have v4:=bC (hG5) 4
 have v5:=bC (hG5) 5
 have v6:=bC (hG5) 6
 have v7:=bC (hG5) 7
 have v8:=bC (hG5) 8
 simp only[lA,lZ,lS]at v0 v1 v2 v3 v4 v5 v6 v7 v8
 obtain⟨w5,hw5⟩:∃W,W=w4.alloc (.cells #[.int .i64 (eraseA y0).op,.int .i64 (eraseA y0).k,.string ⟨(eraseA y0).r.1.toArray⟩,.string ⟨(eraseA y0).r.2.toArray⟩,.slice xo (eraseA y0).kids.length xc] 46):=⟨_,rfl⟩
 have HS4:Hid (w.heap.size+3≤w4.heap.size∧w5.heap.size=w4.heap.size+1):=hid ⟨by have:=hc4.size;have:=HS3.out;omega,by rw[hw5];simp⟩
 have HLK:=hid (gg_locks n p po pc ao ac c w5 (HP.out.keep (by rw[hw5];exact hcw5) (fun _ _=>id)) HGG.out HCS.out)
 rw[hw5]at HLK
 have HOW:=hid (aI (ownA_keep hcF y0 ho0 (fun _ _=>id)) (aI hnd0 (show ∀b∈blksA y0,b≠w4.heap.size from fun b hb=>by have:=(ownA_lt y0 ho0 b hb).2;omega)))
 have HX:=hid (aI hR5 (aI hFb hcw5))
 rw[←hw5]at HOW HX
 have HX1:=hid (x1.symm)
 have HN0:=hid hn0
 have HW5:=hid hw5
 clear ho0 hnd0 hc4 hn0 x1 x2 x3 x4 x5 hfm hcF hFb hc5 hP5 hG5 hR5 hcw5 hw5 hpost HOF
 go_wp2_with fail
 refine HLK.out.mono ?_
 rw[←HW5.out]
 rintro e w6 ⟨lo,lc,rfl,hlk,hc6⟩
 obtain⟨L,hL⟩:∃L,L=locksB p c:=⟨_,rfl⟩
 rw[←hL]at hlk ⊢
 have hll:L.length≤4000:=by rw[hL];have:=locks_len p c;have:=HGP.out.1;omega
 have HLI:Hid (∀a∈L,c∈a.clo∧nodesF a.rel≤200):=hid (fun a ha=>by
  rw[hL]at ha
  obtain⟨h1,h2⟩:=locks_in ha
  exact⟨h2,Nat.le_trans (great_nodes _) (HGP.out.2.2 a h1).2⟩)
 have HLE:=hid hL
 have HLA:=hid (hlk.mono (E:=fun k=>D k∨(w5.heap.size≤k∧k<w6.heap.size)) (fun _ h=>h))
 have HR6:=hid (bE HX.out.1 hc6 id)
 have HC6:=hid (HX.out.2.2.trans hc6 (fun _ _ h=>h))
 have HI:Hid (GInv w3.heap.size w4.heap.size c L k0 (eraseA y0) w6 0 k0 y0 w6):=hid ⟨by
  have:=bE HX.out.2.1 hc6 id
  rw[HX1.out]at this
  exact this,ownA_keep hc6 y0 HOW.out.1 (fun _ _=>id),HOW.out.2.1,HOW.out.2.2,FoldTo.start _ _ _ _,HN0.out.few,Chg.refl _ _⟩
 obtain⟨ln,hln⟩:∃ln,ln=L.length:=⟨_,rfl⟩
 rw[←hln]at hll ⊢
 have HLN:=hid hln
 clear z0 z1 z2 v0 v1 v2 v3 v4 v5 v6 v7 v8 hL hlk hc6 hln HLK HOW HX1
 go_wp2
 go_loopw [7,22] (fun v i wr=>∃(k:Nat) (kk:Int) (y:AT),k≤ln∧i = .int .i64 k∧v = .int .i64 kk∧Hid (GInv w3.heap.size w4.heap.size c L k0 (eraseA y0) w6 k kk y wr)) (fun _ i _=>ln-(intOf i).toNat)
 case atStart=>exact⟨0,k0,y0,Nat.zero_le _,rfl,rfl,HI⟩
 case round=>
  clear HI
  obtain⟨k,kk,y,hk,rfl,rfl,hrel⟩:=hrel
  obtain⟨yo,yc,g1,g5,g2,g3,g4⟩:=own_val hrel.out.own
  have hfy:fmV y = .agg #[.int .i64 (eraseA y).op,.int .i64 (eraseA y).k,.string ⟨(eraseA y).r.1.toArray⟩,.string ⟨(eraseA y).r.2.toArray⟩,.slice yo (eraseA y).kids.length yc]:=by rw[←g1];rfl
  have hyb:=hrel.out.blk
  rw[g1]at hyb
  have hRr:=bE HR6.out hrel.out.ch (show ¬w.heap.size+2=w4.heap.size by have:=HS4.out.1;omega)
  have hCr:=HC6.out.trans hrel.out.ch (fun i hi e=>by have e:i=w4.heap.size:=e;have:=HS4.out.1;omega)
  have HV:Hid (fmV y = .agg #[.int .i64 (eraseA y).op,.int .i64 (eraseA y).k,.string ⟨(eraseA y).r.1.toArray⟩,.string ⟨(eraseA y).r.2.toArray⟩,.slice yo (eraseA y).kids.length yc]∧(blksA y).Nodup∧∀b∈blksA y,w.heap.size+3≤b):=hid ⟨hfy,hrel.out.nd,fun b hb=>by have:=(ownA_lt y hrel.out.own b hb).1;have:=HS3.out;omega⟩
  have HLOW:Hid (w.heap.size≤w3.heap.size):=hid (by have:=HS3.out;omega)
  by_cases hlt:k<ln
  ·have hlt2:k<L.length:=by rw[←HLN.out];exact hlt
   obtain⟨b,off,hao,_,⟨⟨a0,a1,hr1,hr2⟩,hfm,⟨co,cc,a7,hcz,hcr⟩⟩⟩:=(HLA.out.keep hrel.out.ch (fun i hi e=>by
    have e:i=w4.heap.size:=e
    rcases hi with hi|hi
    ·have:=HP.out.lt i hi;have:=HS4.out.1;omega
    ·have:=HS4.out.2;omega)) k hlt2
   have hin:=HLI.out _ (List.getElem_mem hlt2)
   have HST:Hid (∀(k1:Int) (f1:FmB),kk=0→NormR (.mk 2 0 ([],[]) [eraseA y,(L[k]).rel]) k1 f1→FoldTo c L (k+1) k0 (eraseA y0) k1 f1):=hid (fun k1 f1 h0 hn=>by
    have:=hrel.out.to
    rw[h0]at this
    exact this.step hlt2 hin.1 hn)
   generalize L[k]=x at *
   clear hlt2
   obtain⟨r,h,cl⟩:=x
   obtain⟨n1,ho,hc,hn1,⟨f0,f1,f2,f3,f4⟩,hfo,hfz,hfk⟩:=hfm.open_
   change wr.cell? ⟨b,off+k*8+3,none⟩=_ at f1
   change wr.cell? ⟨b,off+k*8+4,none⟩=_ at f2
   change wr.cell? ⟨b,off+k*8+5,none⟩=_ at f3
   change wr.cell? ⟨b,off+k*8+6,none⟩=_ at f4
   simp only[]at a0 a1 a7 f0 f1 f2 f3 f4 hfo hfk hfz hin HST
   have hcA:=alc wr (.cells #[.string ⟨r.1.toArray⟩,.string ⟨r.2.toArray⟩,.int .i64 h.op,.int .i64 h.k,.string ⟨h.r.1.toArray⟩,.string ⟨h.r.2.toArray⟩,.slice ho h.kids.length hc,.slice co cl.length cc] 54)
   have hX:=heap_alloc_new wr (.cells #[.string ⟨r.1.toArray⟩,.string ⟨r.2.toArray⟩,.int .i64 h.op,.int .i64 h.k,.string ⟨h.r.1.toArray⟩,.string ⟨h.r.2.toArray⟩,.slice ho h.kids.length hc,.slice co cl.length cc] 54)
   obtain⟨z0,z1,z2,z3,z4,z5,z6,z7⟩:=ak_blk hX
   subst hao
   by_cases h0:kk=0
   ·have e0:(kk==0)=true:=beq_iff_eq.2 h0
    have e1:(kk != 0)=false:=by rw[bne,e0];rfl
    have hyb1:=bE hyb hcA id
    have s0:=bC (hyb1) 0
    have s1:=bC (hyb1) 1
    have s2:=bC (hyb1) 2
    have s3:=bC (hyb1) 3
    have s4:=bC (hyb1) 4
    simp only[lA,lZ,lS]at s0 s1 s2 s3 s4
    have hBO:=pnBoth (eraseA y) (deepF (eraseA y)) yo yc h n1 ho hc (wr.alloc (.cells #[.string ⟨r.1.toArray⟩,.string ⟨r.2.toArray⟩,.int .i64 h.op,.int .i64 h.k,.string ⟨h.r.1.toArray⟩,.string ⟨h.r.2.toArray⟩,.slice ho h.kids.length hc,.slice co cl.length cc] 54)) (g3.keep hcA (fun _ _=>id)) (fun i hi=>by have:=hi.2;have:=hcA.size;omega) g4 g2 (hfk.keep hcA (fun _ _=>id)) (fun i hi=>by
     have h1:=hcA.size
     have h2:=hrel.out.ch.size
     rcases hi with hi|hi
     ·have:=HP.out.lt i hi;have:=HC6.out.size;omega
     ·omega) hfo hfz (by have:=hrel.out.few;have:=hin.2;omega)
    have HBO:=hid hBO
    have HQ:=hid (aI (bE hyb hcA id) (aI (hrel.out.ch.trans hcA (fun _ _ h=>h.elim)) (aI (show w4.heap.size<(wr.alloc (.cells #[.string ⟨r.1.toArray⟩,.string ⟨r.2.toArray⟩,.int .i64 h.op,.int .i64 h.k,.string ⟨h.r.1.toArray⟩,.string ⟨h.r.2.toArray⟩,.slice ho h.kids.length hc,.slice co cl.length cc] 54)).heap.size by have:=lt_blk hyb;have:=hcA.size;omega) (show w3.heap.size≤(wr.alloc (.cells #[.string ⟨r.1.toArray⟩,.string ⟨r.2.toArray⟩,.int .i64 h.op,.int .i64 h.k,.string ⟨h.r.1.toArray⟩,.string ⟨h.r.2.toArray⟩,.slice ho h.kids.length hc,.slice co cl.length cc] 54)).heap.size by have:=lt_blk hyb;have:=hcA.size;have:=HS4.out.1;have:=HS3.out;omega))))
    have H0:=hid h0
    clear hBO hrel g1 g2 g3 g4 g5 hfy hyb hyb1 hRr hCr hin hfm hfo hfz hfk hcz hcr hr1 hr2 hn1 hcA hX h0
    go_wp2_with fail
    refine HBO.out.mono ?_
    intro e w7 hpost
    obtain⟨y2,k2,rfl,ho2,hnd2,hc7,hn2⟩:=of_post hpost
    obtain⟨xo2,xc2,x1,x5,x2,x3,x4⟩:=own_val ho2
    have hfm2:fmV y2 = .agg #[.int .i64 (eraseA y2).op,.int .i64 (eraseA y2).k,.string ⟨(eraseA y2).r.1.toArray⟩,.string ⟨(eraseA y2).r.2.toArray⟩,.slice xo2 (eraseA y2).kids.length xc2]:=by rw[←x1];rfl
    rw[hfm2]
    have hF7:=bE HQ.out.1 hc7 id
    have q0:=froz_blk (hF7) 0
    have q1:=froz_blk (hF7) 1
    have q2:=froz_blk (hF7) 2
    have q3:=froz_blk (hF7) 3
    have q4:=froz_blk (hF7) 4
    have t0:=bC (hF7) 0
    have t1:=bC (hF7) 1
    have t2:=bC (hF7) 2
    have t3:=bC (hF7) 3
    have t4:=bC (hF7) 4
    simp only[lA,lZ,lS]at t0 t1 t2 t3 t4
    have HE:=hid (aI hF7 (aI ho2 (aI hnd2 (aI hc7 (aI hn2 x1)))))
    clear s0 s1 s2 s3 s4 z0 z1 z2 z3 z4 z5 z6 z7 f0 f1 f2 f3 f4 a0 a1 a7 hF7 ho2 hnd2 hc7 hn2 x1 x2 x3 x4 x5 hfm2 hpost HBO
    go_wp2
    obtain⟨hend,hcz⟩:=store5n HE.out.1 (.int .i64 (eraseA y2).op) (.int .i64 (eraseA y2).k) (.string ⟨(eraseA y2).r.1.toArray⟩) (.string ⟨(eraseA y2).r.2.toArray⟩) (.slice xo2 (eraseA y2).kids.length xc2)
    go_roundw
    case rel=>
     have hlt9:=ownA_lt y2 HE.out.2.1
     refine⟨k+1,k2,y2,by omega,by go_num,rfl,hid ⟨?_,?_,HE.out.2.2.1,fun b hb=>?_,HST.out _ _ H0.out HE.out.2.2.2.2.1,HE.out.2.2.2.2.1.few,?_⟩⟩
     ·rw[HE.out.2.2.2.2.2];exact hend
     ·exact ownA_low HQ.out.2.2.2 y2 (ownA_keep hcz y2 HE.out.2.1 (fun b hb e=>by have:=(hlt9 b hb).1;have:=HQ.out.2.2.1;have e:b=w4.heap.size:=e;omega))
     ·have:=(hlt9 b hb).1;have:=HQ.out.2.2.1;omega
     ·exact(HQ.out.2.1.trans HE.out.2.2.2.1 (fun _ _ h=>h.elim)).trans hcz (fun _ _ h=>h)
    case measure=>simp [intOf];omega
   ·have e0:(kk==0)=false:=beq_eq_false_iff_ne.2 h0
    have e1:(kk != 0)=true:=by rw[bne,e0];rfl
    have hR0:=bE hRr hcA id
    have hF0:=bE hyb hcA id
    have s0:=bC (hF0) 0
    have s1:=bC (hF0) 1
    have s2:=bC (hF0) 2
    have s3:=bC (hF0) 3
    have s4:=bC (hF0) 4
    simp only[lA,lZ,lS]at s0 s1 s2 s3 s4
    have r0:=bC (hR0) 0
    have r1:=bC (hR0) 1
    have r2:=bC (hR0) 2
    have r3:=bC (hR0) 3
    have r4:=bC (hR0) 4
    simp only[lA,lZ,lS]at r0 r1 r2 r3 r4
    have q0:=froz_blk (hR0) 0
    have q1:=froz_blk (hR0) 1
    have q2:=froz_blk (hR0) 2
    have q3:=froz_blk (hR0) 3
    have q4:=froz_blk (hR0) 4
    have HZ:=hid (aI hR0 (aI (hCr.trans hcA (fun _ _ h=>h)) (aI (ownA_low HLOW.out y (ownA_keep hcA y hrel.out.own (fun _ _=>id))) (by have:=hrel.out.to.bad h0;rw[HLE.out]at this;exact this))))
    clear hR0 hF0 hrel g1 g2 g3 g4 g5 hfy hyb hRr hCr hin hfm hfo hfz hfk hcz hcr hr1 hr2 hn1 hcA hX h0
    go_wp2
    obtain⟨hend,hcz⟩:=store5n HZ.out.1 (.int .i64 (eraseA y).op) (.int .i64 (eraseA y).k) (.string ⟨(eraseA y).r.1.toArray⟩) (.string ⟨(eraseA y).r.2.toArray⟩) (.slice yo (eraseA y).kids.length yc)
    refine bodyPost_ret (results_fmn rfl _ _ (w.heap.size+2) rfl hend) rfl ?_
    exact⟨y,kk,by rw[HV.out.1];rfl,ownA_keep hcz y HZ.out.2.2.1 (fun b hb e=>by have:=HV.out.2.2 b hb;have e:b=w.heap.size+2:=e;omega),HV.out.2.1,guard_of HN0.out HZ.out.2.2.2,HZ.out.2.1.trans hcz (fun i hi e=>by have e:i=w.heap.size+2:=e;omega)⟩
  ·have hk2:k=L.length:=by rw[←HLN.out];omega
   have HTO:Hid (FoldR c (locksB p c) k0 (eraseA y0) kk (eraseA y)):=hid (by have:=hrel.out.to;rw[hk2]at this;have:=this.done;rw[HLE.out]at this;exact this)
   clear hk2
   have hR0:=hRr
   have hF0:=hyb
   have s0:=bC (hF0) 0
   have s1:=bC (hF0) 1
   have s2:=bC (hF0) 2
   have s3:=bC (hF0) 3
   have s4:=bC (hF0) 4
   simp only[lA,lZ,lS]at s0 s1 s2 s3 s4
   have r0:=bC (hR0) 0
   have r1:=bC (hR0) 1
   have r2:=bC (hR0) 2
   have r3:=bC (hR0) 3
   have r4:=bC (hR0) 4
   simp only[lA,lZ,lS]at r0 r1 r2 r3 r4
   have q0:=froz_blk (hR0) 0
   have q1:=froz_blk (hR0) 1
   have q2:=froz_blk (hR0) 2
   have q3:=froz_blk (hR0) 3
   have q4:=froz_blk (hR0) 4
   have HZ:=hid (aI hR0 (aI hCr (aI (ownA_low HLOW.out y hrel.out.own) HTO.out)))
   clear hR0 hF0 hrel g1 g2 g3 g4 g5 hfy hyb hRr hCr
   go_wp2
   obtain⟨hend,hcz⟩:=store5n HZ.out.1 (.int .i64 (eraseA y).op) (.int .i64 (eraseA y).k) (.string ⟨(eraseA y).r.1.toArray⟩) (.string ⟨(eraseA y).r.2.toArray⟩) (.slice yo (eraseA y).kids.length yc)
   refine bodyPost_ret (results_fmn rfl _ _ (w.heap.size+2) rfl hend) rfl ?_
   exact⟨y,kk,by rw[HV.out.1];rfl,ownA_keep hcz y HZ.out.2.2.1 (fun b hb e=>by have:=HV.out.2.2 b hb;have e:b=w.heap.size+2:=e;omega),HV.out.2.1,guard_of HN0.out HZ.out.2.2.2,HZ.out.2.1.trans hcz (fun i hi e=>by have e:i=w.heap.size+2:=e;omega)⟩
end
section
open Go.RowKit
theorem run_eqgG (x y:Operand) (a b:CredB) (w:World):Sem.run Tryz.prog (eqGuard BinOp.eql 34 x y (.agg #[.int .i64 a.kind,.string ⟨a.head.1.toArray⟩,.string ⟨a.head.2.toArray⟩,.string ⟨a.who.toArray⟩,.string ⟨a.b.1.toArray⟩,.string ⟨a.b.2.toArray⟩,.string ⟨a.c.1.toArray⟩,.string ⟨a.c.2.toArray⟩,.string ⟨a.w2.toArray⟩]) (.agg #[.int .i64 b.kind,.string ⟨b.head.1.toArray⟩,.string ⟨b.head.2.toArray⟩,.string ⟨b.who.toArray⟩,.string ⟨b.b.1.toArray⟩,.string ⟨b.b.2.toArray⟩,.string ⟨b.c.1.toArray⟩,.string ⟨b.c.2.toArray⟩,.string ⟨b.w2.toArray⟩])) w = .ok () w:=run_eqgC x y a b w
theorem run_eqlG (a b:CredB) (w:World):Sem.run Tryz.prog (binOp BinOp.eql 34 (.agg #[.int .i64 a.kind,.string ⟨a.head.1.toArray⟩,.string ⟨a.head.2.toArray⟩,.string ⟨a.who.toArray⟩,.string ⟨a.b.1.toArray⟩,.string ⟨a.b.2.toArray⟩,.string ⟨a.c.1.toArray⟩,.string ⟨a.c.2.toArray⟩,.string ⟨a.w2.toArray⟩]) (.agg #[.int .i64 b.kind,.string ⟨b.head.1.toArray⟩,.string ⟨b.head.2.toArray⟩,.string ⟨b.who.toArray⟩,.string ⟨b.b.1.toArray⟩,.string ⟨b.b.2.toArray⟩,.string ⟨b.c.1.toArray⟩,.string ⟨b.c.2.toArray⟩,.string ⟨b.w2.toArray⟩])) w = .ok (.bool (eqC a b)) w:=run_eqlC a b w
theorem gp_short {p:PartyB} (h:greatP p≤4000):∀x∈p.creds,credShort x.cred 20000∧nodesF x.rel≤200:=fun x hx=>by
 obtain⟨h1,h2⟩:=gp_creds h x hx
 refine⟨(sizeC_short (Nat.le_trans ?_ h2)).mono' (by omega),Nat.le_trans (great_nodes _) h1⟩
 unfold sizeS
 show sizeC x.cred≤_
 exact Nat.le_add_right ..
/-- The guard of a credential, told. -/
def OfPostG (p:PartyB) (c:CredB) (w:World) (e:Ending) (w':World):Prop:=∃(y:AT) (k:Int),e = .returned (.tuple #[fmV y,.int .i64 k])∧OwnA w.heap.size w' y∧(blksA y).Nodup∧OfR p c k (eraseA y)∧Chg (fun _=>False) w w'
attribute [local go_sem ↓ high] run_eqgG run_eqlG
set_option maxRecDepth 100000 in
set_option maxHeartbeats 8000000 in
theorem gg_of {D:Nat→Prop} (n:Nat) (p:PartyB) (po:Option Addr) (pc:Nat) (ao:Option Addr) (ac:Nat) (c:CredB) (w:World) (hp:PartyAt D w n p po pc ao ac) (hg:greatP p≤4000) :
  Calls Tryz.prog 12 #[.agg #[.string ⟨p.name.toArray⟩,.slice po p.creds.length pc,.slice ao p.acks.length ac],.agg #[.int .i64 c.kind,.string ⟨c.head.1.toArray⟩,.string ⟨c.head.2.toArray⟩,.string ⟨c.who.toArray⟩,.string ⟨c.b.1.toArray⟩,.string ⟨c.b.2.toArray⟩,.string ⟨c.c.1.toArray⟩,.string ⟨c.c.2.toArray⟩,.string ⟨c.w2.toArray⟩]] w (OfPostG p c w):=by
 have hs1:(w.alloc (.cells #[.string ⟨p.name.toArray⟩,.slice po p.creds.length pc,.slice ao p.acks.length ac] 25)).heap.size=w.heap.size+1:=by simp
 have hs2:((w.alloc (.cells #[.string ⟨p.name.toArray⟩,.slice po p.creds.length pc,.slice ao p.acks.length ac] 25)).alloc (.cells #[.int .i64 c.kind,.string ⟨c.head.1.toArray⟩,.string ⟨c.head.2.toArray⟩,.string ⟨c.who.toArray⟩,.string ⟨c.b.1.toArray⟩,.string ⟨c.b.2.toArray⟩,.string ⟨c.c.1.toArray⟩,.string ⟨c.c.2.toArray⟩,.string ⟨c.w2.toArray⟩] 34)).heap.size=w.heap.size+2:=by simp
 have k1:=alc w (.cells #[.string ⟨p.name.toArray⟩,.slice po p.creds.length pc,.slice ao p.acks.length ac] 25)
 have k2:=alc (w.alloc (.cells #[.string ⟨p.name.toArray⟩,.slice po p.creds.length pc,.slice ao p.acks.length ac] 25)) (.cells #[.int .i64 c.kind,.string ⟨c.head.1.toArray⟩,.string ⟨c.head.2.toArray⟩,.string ⟨c.who.toArray⟩,.string ⟨c.b.1.toArray⟩,.string ⟨c.b.2.toArray⟩,.string ⟨c.c.1.toArray⟩,.string ⟨c.c.2.toArray⟩,.string ⟨c.w2.toArray⟩] 34)
 have k3:=alc ((w.alloc (.cells #[.string ⟨p.name.toArray⟩,.slice po p.creds.length pc,.slice ao p.acks.length ac] 25)).alloc (.cells #[.int .i64 c.kind,.string ⟨c.head.1.toArray⟩,.string ⟨c.head.2.toArray⟩,.string ⟨c.who.toArray⟩,.string ⟨c.b.1.toArray⟩,.string ⟨c.b.2.toArray⟩,.string ⟨c.c.1.toArray⟩,.string ⟨c.c.2.toArray⟩,.string ⟨c.w2.toArray⟩] 34)) (.cells #[.int .i64 0,.int .i64 0,.string ⟨#[]⟩,.string ⟨#[]⟩,.slice none 0 0] 46)
 have hP:=bE (heap_alloc_new w (.cells #[.string ⟨p.name.toArray⟩,.slice po p.creds.length pc,.slice ao p.acks.length ac] 25)) (k2.trans k3 (fun _ _ h=>h)) id
 have hC:=heap_alloc_new (w.alloc (.cells #[.string ⟨p.name.toArray⟩,.slice po p.creds.length pc,.slice ao p.acks.length ac] 25)) (.cells #[.int .i64 c.kind,.string ⟨c.head.1.toArray⟩,.string ⟨c.head.2.toArray⟩,.string ⟨c.who.toArray⟩,.string ⟨c.b.1.toArray⟩,.string ⟨c.b.2.toArray⟩,.string ⟨c.c.1.toArray⟩,.string ⟨c.c.2.toArray⟩,.string ⟨c.w2.toArray⟩] 34)
 rw[hs1]at hC
 have hC:=bE hC k3 id
 have hR:=heap_alloc_new ((w.alloc (.cells #[.string ⟨p.name.toArray⟩,.slice po p.creds.length pc,.slice ao p.acks.length ac] 25)).alloc (.cells #[.int .i64 c.kind,.string ⟨c.head.1.toArray⟩,.string ⟨c.head.2.toArray⟩,.string ⟨c.who.toArray⟩,.string ⟨c.b.1.toArray⟩,.string ⟨c.b.2.toArray⟩,.string ⟨c.c.1.toArray⟩,.string ⟨c.c.2.toArray⟩,.string ⟨c.w2.toArray⟩] 34)) (.cells #[.int .i64 0,.int .i64 0,.string ⟨#[]⟩,.string ⟨#[]⟩,.slice none 0 0] 46)
 rw[hs2]at hR
 have hk:=(k1.trans k2 (fun _ _ h=>h)).trans k3 (fun _ _ h=>h)
 have y0:=bC (hP) 0
 have y1:=bC (hP) 1
 have y2:=bC (hP) 2
 simp only[lA,lZ,lS]at y0 y1 y2
 have HB:=hid (aI hP (aI hC (aI hR hk)))
 have HP:=hid hp
 have HGS:=hid (gp_short hg)
 have HGG:=hid hg
 have hgp:=(gp_acks hg).2.1
 clear hs1 hs2 k1 k2 k3 hP hC hR hk hp hg
 go_enter Tryz.func12,Tryz.ntmps12
 go_wp2
 clear y0 y1 y2
 obtain⟨w3,hw3⟩:∃W,W=(((w.alloc (.cells #[.string ⟨p.name.toArray⟩,.slice po p.creds.length pc,.slice ao p.acks.length ac] 25)).alloc (.cells #[.int .i64 c.kind,.string ⟨c.head.1.toArray⟩,.string ⟨c.head.2.toArray⟩,.string ⟨c.who.toArray⟩,.string ⟨c.b.1.toArray⟩,.string ⟨c.b.2.toArray⟩,.string ⟨c.c.1.toArray⟩,.string ⟨c.c.2.toArray⟩,.string ⟨c.w2.toArray⟩] 34)).alloc (.cells #[.int .i64 0,.int .i64 0,.string ⟨#[]⟩,.string ⟨#[]⟩,.slice none 0 0] 46)):=⟨_,rfl⟩
 have HS3:Hid (w3.heap.size=w.heap.size+3):=hid (by rw[hw3];simp)
 rw[←hw3]at HB ⊢
 clear hw3
 go_loopw [11] (fun i wr=>∃(k:Nat),k≤p.creds.length∧i = .int .i64 k∧Hid ((∀j (h:j<p.creds.length),j<k→(p.creds[j]).cred≠c)∧Chg (fun _=>False) w3 wr)) (fun i _=>p.creds.length-(intOf i).toNat)
 case atStart=>exact⟨0,Nat.zero_le _,rfl,hid ⟨fun j _ h=>absurd h (Nat.not_lt_zero j),Chg.refl _ _⟩⟩
 case round=>
  obtain⟨k,hk,rfl,hrel⟩:=hrel
  by_cases hlt:k<p.creds.length
  ·have hcw:=HB.out.2.2.2.trans hrel.out.2 (fun _ _ h=>h)
   obtain⟨b,off,hpo,hDb,⟨⟨⟨a0,a1,a2,a3,a4,a5,a6,a7,a8⟩,⟨ta,tc,a9,hby⟩,hsh,hln⟩,hfm⟩⟩:=(HP.out.gds.keep hcw (fun _ _=>id)) k hlt
   have HSH:Hid (credShort (p.creds[k]).cred 20000∧nodesF (p.creds[k]).rel≤200):=hid (HGS.out _ (List.getElem_mem hlt))
   have HFST:Hid ((p.creds[k]).cred=c→∀(e:Int) (y:FmB),GuardR (p.creds[k]) p.acks e y→OfR p c e y):=hid (fun he e y hgr=>(of_first hlt he (fun j hj=>hrel.out.1 j (by omega) hj) e y).2 hgr)
   have HNX:Hid ((p.creds[k]).cred≠c→∀j (h:j<p.creds.length),j<k+1→(p.creds[j]).cred≠c):=hid (fun hne j hj hjk=>by
    by_cases e:j=k
    ·subst e;exact hne
    ·exact hrel.out.1 j hj (by omega))
   generalize p.creds[k]=x at *
   obtain⟨d,tg,f⟩:=x
   obtain⟨n1,fo,fc,hn1,⟨f0,f1,f2,f3,f4⟩,hfo,hfz,hfk⟩:=hfm.open_
   change wr.cell? ⟨b,off+k*15+11,none⟩=_ at f1
   change wr.cell? ⟨b,off+k*15+12,none⟩=_ at f2
   change wr.cell? ⟨b,off+k*15+13,none⟩=_ at f3
   change wr.cell? ⟨b,off+k*15+14,none⟩=_ at f4
   simp only[GdB.sign]at a0 a1 a2 a3 a4 a5 a6 a7 a8 a9 f0 f1 f2 f3 f4 hfo hfk hfz HSH HFST HNX hfm
   obtain⟨tl,htl⟩:∃tl,tl=tg.length:=⟨_,rfl⟩
   rw[←htl]at a9
   have hcA:=alc wr (.cells #[.int .i64 d.kind,.string ⟨d.head.1.toArray⟩,.string ⟨d.head.2.toArray⟩,.string ⟨d.who.toArray⟩,.string ⟨d.b.1.toArray⟩,.string ⟨d.b.2.toArray⟩,.string ⟨d.c.1.toArray⟩,.string ⟨d.c.2.toArray⟩,.string ⟨d.w2.toArray⟩,.slice ta tl tc,.int .i64 f.op,.int .i64 f.k,.string ⟨f.r.1.toArray⟩,.string ⟨f.r.2.toArray⟩,.slice fo f.kids.length fc] 48)
   have hX:=heap_alloc_new wr (.cells #[.int .i64 d.kind,.string ⟨d.head.1.toArray⟩,.string ⟨d.head.2.toArray⟩,.string ⟨d.who.toArray⟩,.string ⟨d.b.1.toArray⟩,.string ⟨d.b.2.toArray⟩,.string ⟨d.c.1.toArray⟩,.string ⟨d.c.2.toArray⟩,.string ⟨d.w2.toArray⟩,.slice ta tl tc,.int .i64 f.op,.int .i64 f.k,.string ⟨f.r.1.toArray⟩,.string ⟨f.r.2.toArray⟩,.slice fo f.kids.length fc] 48)
   have z0:=bC (hX) 0
   have z1:=bC (hX) 1
   have z2:=bC (hX) 2
   have z3:=bC (hX) 3
   have z4:=bC (hX) 4
   have z5:=bC (hX) 5
   have z6:=bC (hX) 6
   have z7:=bC (hX) 7
   have z8:=bC (hX) 8
   have z9:=bC (hX) 9
   have z10:=bC (hX) 10
   have z11:=bC (hX) 11
   have z12:=bC (hX) 12
   have z13:=bC (hX) 13
   have z14:=bC (hX) 14
   simp only[lA,lZ,lS]at z0 z1 z2 z3 z4 z5 z6 z7 z8 z9 z10 z11 z12 z13 z14
   have hCw:=bE (bE HB.out.2.1 hrel.out.2 id) hcA id
   have q0:=bC (hCw) 0
   have q1:=bC (hCw) 1
   have q2:=bC (hCw) 2
   have q3:=bC (hCw) 3
   have q4:=bC (hCw) 4
   have q5:=bC (hCw) 5
   have q6:=bC (hCw) 6
   have q7:=bC (hCw) 7
   have q8:=bC (hCw) 8
   simp only[lA,lZ,lS]at q0 q1 q2 q3 q4 q5 q6 q7 q8
   have hPw:=bE (bE HB.out.1 hrel.out.2 id) hcA id
   have y0:=bC (hPw) 0
   have y1:=bC (hPw) 1
   have y2:=bC (hPw) 2
   simp only[lA,lZ,lS]at y0 y1 y2
   have hGQ:=gg_guard (E:=D) n p po pc ao ac d tg ta tl tc f n1 fo fc (wr.alloc (.cells #[.int .i64 d.kind,.string ⟨d.head.1.toArray⟩,.string ⟨d.head.2.toArray⟩,.string ⟨d.who.toArray⟩,.string ⟨d.b.1.toArray⟩,.string ⟨d.b.2.toArray⟩,.string ⟨d.c.1.toArray⟩,.string ⟨d.c.2.toArray⟩,.string ⟨d.w2.toArray⟩,.slice ta tl tc,.int .i64 f.op,.int .i64 f.k,.string ⟨f.r.1.toArray⟩,.string ⟨f.r.2.toArray⟩,.slice fo f.kids.length fc] 48)) (HP.out.keep (hcw.trans hcA (fun _ _ h=>h)) (fun _ _=>id)) HGG.out HSH.out.1 (hfk.keep hcA (fun _ _=>id)) (fun i hi=>by have:=HP.out.lt i hi;have:=(hcw.trans hcA (fun _ _ h=>h)).size;omega) hfo HSH.out.2
   have HGQ:=hid hGQ
   have HX:=hid (aI (bE (bE HB.out.2.2.1 hrel.out.2 id) hcA id) (aI (hcw.trans hcA (fun _ _ h=>h)) (show w.heap.size+3≤(wr.alloc (.cells #[.int .i64 d.kind,.string ⟨d.head.1.toArray⟩,.string ⟨d.head.2.toArray⟩,.string ⟨d.who.toArray⟩,.string ⟨d.b.1.toArray⟩,.string ⟨d.b.2.toArray⟩,.string ⟨d.c.1.toArray⟩,.string ⟨d.c.2.toArray⟩,.string ⟨d.w2.toArray⟩,.slice ta tl tc,.int .i64 f.op,.int .i64 f.k,.string ⟨f.r.1.toArray⟩,.string ⟨f.r.2.toArray⟩,.slice fo f.kids.length fc] 48)).heap.size by have:=hrel.out.2.size;have:=hcA.size;have:=HS3.out;omega)))
   have HCN:=hid (hrel.out.2.trans hcA (fun _ _ h=>h))
   clear hcA hX hCw hPw hGQ hrel hcw hfm hby hsh hln hfo hfz hfk hn1 htl hDb
   subst hpo
   by_cases he:d=c
   ·have e1:eqC d c=true:=eqC_true.2 he
    have HE:=hid he
    clear he
    go_wp2_with fail
    refine HGQ.out.mono ?_
    rintro e w5 ⟨y,kk,rfl,ho5,hnd5,hgr5,hc5⟩
    obtain⟨yo,yc,g1,g5,g2,g3,g4⟩:=own_val ho5
    have hfy:fmV y = .agg #[.int .i64 (eraseA y).op,.int .i64 (eraseA y).k,.string ⟨(eraseA y).r.1.toArray⟩,.string ⟨(eraseA y).r.2.toArray⟩,.slice yo (eraseA y).kids.length yc]:=by rw[←g1];rfl
    rw[hfy]
    have hR5:=bE HX.out.1 hc5 id
    have r0:=bC (hR5) 0
    have r1:=bC (hR5) 1
    have r2:=bC (hR5) 2
    have r3:=bC (hR5) 3
    have r4:=bC (hR5) 4
    simp only[lA,lZ,lS]at r0 r1 r2 r3 r4
    have u0:=froz_blk (hR5) 0
    have u1:=froz_blk (hR5) 1
    have u2:=froz_blk (hR5) 2
    have u3:=froz_blk (hR5) 3
    have u4:=froz_blk (hR5) 4
    have HZ:=hid (aI hR5 (aI (HX.out.2.1.trans hc5 (fun _ _ h=>h)) (aI ho5 (aI hnd5 (aI hfy (HFST.out HE.out _ _ hgr5))))))
    clear hR5 hc5 ho5 hnd5 hgr5 g1 g2 g3 g4 g5 hfy HGQ
    go_wp2
    obtain⟨hend,hcz⟩:=store5n HZ.out.1 (.int .i64 (eraseA y).op) (.int .i64 (eraseA y).k) (.string ⟨(eraseA y).r.1.toArray⟩) (.string ⟨(eraseA y).r.2.toArray⟩) (.slice yo (eraseA y).kids.length yc)
    refine bodyPost_ret (results_fmn rfl _ _ (w.heap.size+2) rfl hend) rfl ?_
    have hlt9:=ownA_lt y HZ.out.2.2.1
    exact⟨y,kk,by rw[HZ.out.2.2.2.2.1];rfl,ownA_low (by have:=HX.out.2.2;omega) y (ownA_keep hcz y HZ.out.2.2.1 (fun b hb e=>by have:=(hlt9 b hb).1;have e:b=w.heap.size+2:=e;have:=HX.out.2.2;omega)),HZ.out.2.2.2.1,HZ.out.2.2.2.2.2,HZ.out.2.1.trans hcz (fun i hi e=>by have e:i=w.heap.size+2:=e;omega)⟩
   ·have e1:eqC d c=false:=by
     cases h:eqC d c with
     | false=>rfl
     | true=>exact absurd (eqC_true.1 h) he
    have HE:=hid he
    clear he
    go_wp2
    go_roundw
    case rel=>exact⟨k+1,by omega,by go_num,hid ⟨HNX.out HE.out,HCN.out⟩⟩
    case measure=>simp [intOf];omega
  ·have hk2:k=p.creds.length:=by omega
   have hR5:=bE HB.out.2.2.1 hrel.out.2 id
   have r0:=bC (hR5) 0
   have r1:=bC (hR5) 1
   have r2:=bC (hR5) 2
   have r3:=bC (hR5) 3
   have r4:=bC (hR5) 4
   simp only[lA,lZ,lS]at r0 r1 r2 r3 r4
   have u0:=froz_blk (hR5) 0
   have u1:=froz_blk (hR5) 1
   have u2:=froz_blk (hR5) 2
   have u3:=froz_blk (hR5) 3
   have u4:=froz_blk (hR5) 4
   have HZ:=hid (aI hR5 (aI (HB.out.2.2.2.trans hrel.out.2 (fun _ _ h=>h)) (show OfR p c 42 noFm from of_none (fun j hj=>hrel.out.1 j hj (by omega)))))
   clear hR5 hrel hk2
   go_wp2
   obtain⟨hend,hcz⟩:=store5n HZ.out.1 (.int .i64 0) (.int .i64 0) (.string ⟨#[]⟩) (.string ⟨#[]⟩) (.slice none 0 0)
   refine bodyPost_ret (results_fmn rfl _ _ (w.heap.size+2) rfl hend) rfl ?_
   exact⟨zAT,42,rfl,zAT_own _ _,zAT_nd,HZ.out.2.2,HZ.out.2.1.trans hcz (fun i hi e=>by have e:i=w.heap.size+2:=e;omega)⟩
end
section
open Go.RowKit
/-- A function with a body is entered. -/
theorem enters {K : Nat} {fn : Func} (hf : Tryz.prog.funcs[K]? = some fn) (hn : (fn.name == "runtime.NumGoroutine") = false) (hb : fn.body.isNone = false) (args : Array Value) (w : World) :
  (callFunc K args).run Tryz.prog w = .ok (.enter K args) w:=by
 have h1 : fn.name ≠ "runtime.NumGoroutine" := by simpa using hn
 have h2:fn.body≠none:=by
  intro h
  rw[h]at hb
  simp at hb
 unfold callFunc
 simp [program,Sem.run,hf,h1,h2]
end
end Go.Proofs.YtkfinhpfdcjoeaaGreat
