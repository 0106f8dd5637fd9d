/- Texts that the proof leans on, in one: GgFree, RefCredHas, ModelAdds. -/
import Derived.Test.YtkfinhpfdcjoeaaGreatNa33
import Derived.Test.YtkfinhpfdcjoeaaGreatNa35
import Derived.Test.YtkfinhpfdcjoeaaGreatNa34
import Derived.Test.YtkfinhpfdcjoeaaGreatNa32
import Derived.Test.YtkfinhpfdcjoeaaGreatNa36
import Derived.Test.YtkfinhpfdcjoeaaGreatNa11
import Derived.Test.YtkfinhpfdcjoeaaGreatNa13
/- guard.Free. -/
namespace Go.Proofs.YtkfinhpfdcjoeaaGreat
section
open Go.RowKit Go.Maps
/-- Any credentials. -/
def ktA:KT CredB where
 ty:=34
 val:=credV
 lit:=credLit
 ok c:=credShort c 9223372036854775807∧(Lit.int .i64 c.kind).wf=true
 keyed:=mCredKeyed
 isKey _:=trivial
 reads _ h:=credReads h.1 h.2
 inj a b h:=ktC.inj a b h
/-- Amid the credentials that are held. -/
structure FInv (B mb:Nat) (T:RoleB→Bool) (p:PartyB) (w6:World) (k:Nat) (u:Value) (fr mt:List CredB) (wr:World):Prop where
 own:OwnC B wr u fr
 met:SMap ktA wr mb mt
 free:FreeTo T p k fr
 mto:MetTo p k mt
 ch:Chg (· = mb) w6 wr
section
variable {MA:(Nat→Prop)→World→Nat→List CredB→Prop}
set_option maxRecDepth 100000 in
set_option maxHeartbeats 8000000 in
theorem gg_free (HK:MGs MA) {D:Nat→Prop} (n:Nat) (p:PartyB) (po:Option Addr) (pc:Nat) (ao:Option Addr) (ac:Nat) {G:Nat→Prop} (ho:Option Addr) (hc:Nat) (ls:List CredB) (s:List UInt8) (w:World) (hp:PartyAt D w n p po pc ao ac) (hg:greatP p≤4000) (hst:CredsAt G w ho ls) (hG:∀i,G i→i<w.heap.size) (hz:ho=none→hc=0) (htl:totalC ls≤20000) (hsl:s.length≤1000) :
  Calls Tryz.prog 7 #[.agg #[.string ⟨p.name.toArray⟩,.slice po p.creds.length pc,.slice ao p.acks.length ac],.slice ho ls.length hc,.string ⟨s.toArray⟩] w fun e w'=>∃(xs:List FactB) (zs:List CredB) (zo:Option Addr) (zc:Nat),e = .returned (.slice zo zs.length zc)∧ModelOf ls xs∧FreeR (inM xs s) p zs∧CredsAt (fun k=>k<w'.heap.size) w' zo zs∧Chg (fun _=>False) w w':=by
 have hmm:=@run_makeMap Tryz.prog
 have k1:=alc w (.cells #[.string ⟨p.name.toArray⟩,.slice po p.creds.length pc,.slice ao p.acks.length ac] 25)
 have hP:=heap_alloc_new w (.cells #[.string ⟨p.name.toArray⟩,.slice po p.creds.length pc,.slice ao p.acks.length ac] 25)
 have HRO:=hid (gg_roles HK ho hc ls s (w.alloc (.cells #[.string ⟨p.name.toArray⟩,.slice po p.creds.length pc,.slice ao p.acks.length ac] 25)) (hst.keep k1 (fun _ _=>id)) (fun i hi=>by have:=hG i hi;have:=k1.size;omega) hz htl hsl)
 have HB:=hid (aI hP k1)
 have HP:=hid hp
 have HGS:=hid (gp_short hg)
 have HGG:=hid hg
 have hgp:=(gp_acks hg).2.1
 clear k1 hP hp hg hst hG hz htl hsl
 go_enter Tryz.func7,Tryz.ntmps7
 go_wp2_with fail
 refine HRO.out.mono ?_
 rintro e w3 ⟨bm,bw,xs,rfl,hxs,hask,hc3⟩
 have k4:=alc w3 (.map #[] 0)
 have hP3:=bE (bE HB.out.1 hc3 id) k4 id
 have y0:=bC (hP3) 0
 have y1:=bC (hP3) 1
 have y2:=bC (hP3) 2
 simp only[lA,lZ,lS]at y0 y1 y2
 obtain⟨w4,hw4⟩:∃W,W=w3.alloc (.map #[] 0):=⟨_,rfl⟩
 have HS4:Hid (w4.heap.size=w3.heap.size+1∧w.heap.size+1≤w3.heap.size):=hid ⟨by rw[hw4];simp,by have:=lt_blk (bE HB.out.1 hc3 id);omega⟩
 have HM4:Hid (SMap ktA w4 w3.heap.size []):=hid (by rw[hw4];exact smap_made _ _)
 have HX:=hid (aI hP3 (aI hask (aI ((HB.out.2.trans hc3 (fun _ _ h=>h)).trans k4 (fun _ _ h=>h)) (aI hxs k4))))
 rw[←hw4]at HX
 have HW4:=hid hw4
 clear k4 hP3 hask hc3 hxs HRO hw4
 go_wp2
 rw[←HW4.out]
 clear y0 y1 y2 hmm
 obtain⟨mb,hmb⟩:∃X,X=w3.heap.size:=⟨_,rfl⟩
 rw[←hmb]at HS4 HM4 ⊢
 have HMB:=hid hmb
 clear hmb HW4
 go_loopw [8,23] (fun v i wr=>∃(k:Nat) (u:Value) (fr mt:List CredB),k≤p.creds.length∧i = .int .i64 k∧v=u∧Hid (FInv w4.heap.size mb (inM xs s) p w4 k u fr mt wr)) (fun _ i _=>p.creds.length-(intOf i).toNat)
 case atStart=>exact⟨0,_,[],[],Nat.zero_le _,rfl,rfl,hid ⟨World.ownsRow_nil _ _ _ _,HM4.out,FreeTo.nil _ _,MetTo.nil _,Chg.refl _ _⟩⟩
 case round=>
  clear HM4
  obtain⟨k,u,fr,mt,hk,rfl,hu,hrel⟩:=hrel
  by_cases hlt:k<p.creds.length
  ·have hcw:=HX.out.2.2.1.trans hrel.out.ch (fun i hi e=>by have e:i=mb:=e;have:=HS4.out;omega)
   obtain⟨b,off,hpo,hDb,⟨⟨⟨a0,a1,a2,a3,a4,a5,a6,a7,a8⟩,⟨ta,tc,a9,hby⟩,hsh,hln⟩,hfm⟩⟩:=(HP.out.gds.keep hcw (fun _ _=>id)) k hlt
   have HSH:Hid (credShort (p.creds[k]).cred 20000∧nodesF (p.creds[k]).rel≤200):=hid (HGS.out _ (List.getElem_mem hlt))
   have HKD:Hid (ktA.ok (p.creds[k]).cred):=hid ⟨hsh,HP.out.kinds _ (List.getElem_mem hlt)⟩
   have HOLD:Hid ((p.creds[k]).cred∈mt→FreeTo (inM xs s) p (k+1) fr∧MetTo p (k+1) mt):=hid (fun h=>⟨hrel.out.free.old hrel.out.mto hlt h,hrel.out.mto.old hlt h⟩)
   have HNEW:Hid (MetTo p (k+1) (mt++[(p.creds[k]).cred])):=hid (hrel.out.mto.new hlt)
   have HGD:Hid ((p.creds[k]).cred∉mt→∀(e:Int) (y:FmB),GuardR (p.creds[k]) p.acks e y→(isF y=true∨e≠0)∧(e=0→holdsF (inM xs s) y=true→FreeTo (inM xs s) p (k+1) (fr++[(p.creds[k]).cred]))∧(¬(e=0∧holdsF (inM xs s) y=true)→FreeTo (inM xs s) p (k+1) fr)):=hid (fun hm e y hgr=>by
    have ho:=(met_first hrel.out.mto hlt hm e y).2 hgr
    refine⟨?_,fun h0 hT=>?_,fun h=>hrel.out.free.no hlt ho h⟩
    ·by_cases h0:e=0
     ·subst h0;exact .inl ho.zero.1
     ·exact .inr h0
    ·subst h0;exact hrel.out.free.yes hlt ho hT)
   have HLN:Hid (fr.length≤4000∧mt.length≤4000):=hid ⟨by have:=hrel.out.free.1;omega,by have:=hrel.out.mto.1;omega⟩
   generalize p.creds[k]=x at *
   obtain⟨d,tg,f⟩:=x
   obtain⟨n1,fo,fc,hn1,⟨f0,f1,f2,f3,f4⟩,hfo,hfz,hfk⟩:=hfm.open_
   change wr.cell? ⟨b,off+k*15+11,none⟩=_ at f1
   change wr.cell? ⟨b,off+k*15+12,none⟩=_ at f2
   change wr.cell? ⟨b,off+k*15+13,none⟩=_ at f3
   change wr.cell? ⟨b,off+k*15+14,none⟩=_ at f4
   simp only[GdB.sign]at a0 a1 a2 a3 a4 a5 a6 a7 a8 a9 f0 f1 f2 f3 f4 hfo hfk hfz hfm hsh HSH HKD HOLD HNEW HGD
   obtain⟨tl,htl⟩:∃tl,tl=tg.length:=⟨_,rfl⟩
   rw[←htl]at a9
   have hcA:=alc wr (.cells #[.int .i64 d.kind,.string ⟨d.head.1.toArray⟩,.string ⟨d.head.2.toArray⟩,.string ⟨d.who.toArray⟩,.string ⟨d.b.1.toArray⟩,.string ⟨d.b.2.toArray⟩,.string ⟨d.c.1.toArray⟩,.string ⟨d.c.2.toArray⟩,.string ⟨d.w2.toArray⟩,.slice ta tl tc,.int .i64 f.op,.int .i64 f.k,.string ⟨f.r.1.toArray⟩,.string ⟨f.r.2.toArray⟩,.slice fo f.kids.length fc] 48)
   have hcU:=alc (wr.alloc (.cells #[.int .i64 d.kind,.string ⟨d.head.1.toArray⟩,.string ⟨d.head.2.toArray⟩,.string ⟨d.who.toArray⟩,.string ⟨d.b.1.toArray⟩,.string ⟨d.b.2.toArray⟩,.string ⟨d.c.1.toArray⟩,.string ⟨d.c.2.toArray⟩,.string ⟨d.w2.toArray⟩,.slice ta tl tc,.int .i64 f.op,.int .i64 f.k,.string ⟨f.r.1.toArray⟩,.string ⟨f.r.2.toArray⟩,.slice fo f.kids.length fc] 48)) (.cells #[] 62)
   have hX:=heap_alloc_new wr (.cells #[.int .i64 d.kind,.string ⟨d.head.1.toArray⟩,.string ⟨d.head.2.toArray⟩,.string ⟨d.who.toArray⟩,.string ⟨d.b.1.toArray⟩,.string ⟨d.b.2.toArray⟩,.string ⟨d.c.1.toArray⟩,.string ⟨d.c.2.toArray⟩,.string ⟨d.w2.toArray⟩,.slice ta tl tc,.int .i64 f.op,.int .i64 f.k,.string ⟨f.r.1.toArray⟩,.string ⟨f.r.2.toArray⟩,.slice fo f.kids.length fc] 48)
   have hXU:=bE hX hcU id
   have hPw:=bE (bE (bE HX.out.1 hrel.out.ch (fun e=>by have e:w.heap.size=mb:=e;have:=HS4.out;omega)) hcA id) hcU id
   have z0:=bC (hX) 0
   have z1:=bC (hX) 1
   have z2:=bC (hX) 2
   have z3:=bC (hX) 3
   have z4:=bC (hX) 4
   have z5:=bC (hX) 5
   have z6:=bC (hX) 6
   have z7:=bC (hX) 7
   have z8:=bC (hX) 8
   have z9:=bC (hX) 9
   have z10:=bC (hX) 10
   have z11:=bC (hX) 11
   have z12:=bC (hX) 12
   have z13:=bC (hX) 13
   have z14:=bC (hX) 14
   simp only[lA,lZ,lS]at z0 z1 z2 z3 z4 z5 z6 z7 z8 z9 z10 z11 z12 z13 z14
   have q0:=bC (hXU) 0
   have q1:=bC (hXU) 1
   have q2:=bC (hXU) 2
   have q3:=bC (hXU) 3
   have q4:=bC (hXU) 4
   have q5:=bC (hXU) 5
   have q6:=bC (hXU) 6
   have q7:=bC (hXU) 7
   have q8:=bC (hXU) 8
   have q9:=bC (hXU) 9
   have q10:=bC (hXU) 10
   have q11:=bC (hXU) 11
   have q12:=bC (hXU) 12
   have q13:=bC (hXU) 13
   have q14:=bC (hXU) 14
   simp only[lA,lZ,lS]at q0 q1 q2 q3 q4 q5 q6 q7 q8 q9 q10 q11 q12 q13 q14
   have y0:=bC (hPw) 0
   have y1:=bC (hPw) 1
   have y2:=bC (hPw) 2
   simp only[lA,lZ,lS]at y0 y1 y2
   have hlk1:=(hrel.out.met.keep hcA id).look (t:=61) (e:=62) Tryz.underlying61 (mZeroUn _) HKD.out
   have hlk2:=((hrel.out.met.keep hcA id).keep hcU id).look (t:=61) (e:=62) Tryz.underlying61 (mZeroUn _) HKD.out
   have hl1:(Instr.lookup 61 (.map (some mb)) (.agg #[.int .i64 d.kind,.string ⟨d.head.1.toArray⟩,.string ⟨d.head.2.toArray⟩,.string ⟨d.who.toArray⟩,.string ⟨d.b.1.toArray⟩,.string ⟨d.b.2.toArray⟩,.string ⟨d.c.1.toArray⟩,.string ⟨d.c.2.toArray⟩,.string ⟨d.w2.toArray⟩]) true).run Tryz.prog (wr.alloc (.cells #[.int .i64 d.kind,.string ⟨d.head.1.toArray⟩,.string ⟨d.head.2.toArray⟩,.string ⟨d.who.toArray⟩,.string ⟨d.b.1.toArray⟩,.string ⟨d.b.2.toArray⟩,.string ⟨d.c.1.toArray⟩,.string ⟨d.c.2.toArray⟩,.string ⟨d.w2.toArray⟩,.slice ta tl tc,.int .i64 f.op,.int .i64 f.k,.string ⟨f.r.1.toArray⟩,.string ⟨f.r.2.toArray⟩,.slice fo f.kids.length fc] 48)) = .ok (.tuple #[.agg #[],.bool (decide (d∈mt))]) (wr.alloc (.cells #[.int .i64 d.kind,.string ⟨d.head.1.toArray⟩,.string ⟨d.head.2.toArray⟩,.string ⟨d.who.toArray⟩,.string ⟨d.b.1.toArray⟩,.string ⟨d.b.2.toArray⟩,.string ⟨d.c.1.toArray⟩,.string ⟨d.c.2.toArray⟩,.string ⟨d.w2.toArray⟩,.slice ta tl tc,.int .i64 f.op,.int .i64 f.k,.string ⟨f.r.1.toArray⟩,.string ⟨f.r.2.toArray⟩,.slice fo f.kids.length fc] 48)):=hlk1
   have hl2:(Instr.lookup 61 (.map (some mb)) (.agg #[.int .i64 d.kind,.string ⟨d.head.1.toArray⟩,.string ⟨d.head.2.toArray⟩,.string ⟨d.who.toArray⟩,.string ⟨d.b.1.toArray⟩,.string ⟨d.b.2.toArray⟩,.string ⟨d.c.1.toArray⟩,.string ⟨d.c.2.toArray⟩,.string ⟨d.w2.toArray⟩]) true).run Tryz.prog ((wr.alloc (.cells #[.int .i64 d.kind,.string ⟨d.head.1.toArray⟩,.string ⟨d.head.2.toArray⟩,.string ⟨d.who.toArray⟩,.string ⟨d.b.1.toArray⟩,.string ⟨d.b.2.toArray⟩,.string ⟨d.c.1.toArray⟩,.string ⟨d.c.2.toArray⟩,.string ⟨d.w2.toArray⟩,.slice ta tl tc,.int .i64 f.op,.int .i64 f.k,.string ⟨f.r.1.toArray⟩,.string ⟨f.r.2.toArray⟩,.slice fo f.kids.length fc] 48)).alloc (.cells #[] 62)) = .ok (.tuple #[.agg #[],.bool (decide (d∈mt))]) ((wr.alloc (.cells #[.int .i64 d.kind,.string ⟨d.head.1.toArray⟩,.string ⟨d.head.2.toArray⟩,.string ⟨d.who.toArray⟩,.string ⟨d.b.1.toArray⟩,.string ⟨d.b.2.toArray⟩,.string ⟨d.c.1.toArray⟩,.string ⟨d.c.2.toArray⟩,.string ⟨d.w2.toArray⟩,.slice ta tl tc,.int .i64 f.op,.int .i64 f.k,.string ⟨f.r.1.toArray⟩,.string ⟨f.r.2.toArray⟩,.slice fo f.kids.length fc] 48)).alloc (.cells #[] 62)):=hlk2
   have HMU:=hid (aI ((hrel.out.met.keep hcA id).keep hcU id) (aI (hrel.out.own.keep (hcA.trans hcU (fun _ _ h=>h)) (fun _ _=>id)) (aI (hrel.out.ch.trans (hcA.trans hcU (fun _ _ h=>h)) (fun _ _ h=>h.elim)) (aI hXU hPw))))
   have HGT:Hid (mb<wr.heap.size):=hid hrel.out.met.lt
   have HCW:=hid (hcw.trans (hcA.trans hcU (fun _ _ h=>h)) (fun _ _ h=>h))
   have HFK:=hid (aI (hfk.keep (hcA.trans hcU (fun _ _ h=>h)) (fun _ _=>id)) (aI hfo hsh))
   clear hlk1 hlk2 hcA hcU hX hXU hPw hrel hcw hfm hby hsh hln hfo hfz hfk hn1 htl hDb
   subst hpo
   by_cases hin:d∈mt
   ·have e1:decide (d∈mt)=true:=decide_eq_true hin
    have HO:=hid (HOLD.out hin)
    rw[e1]at hl1 hl2
    clear hin e1 HOLD HNEW HGD
    subst hu
    go_wp2
    go_roundw
    case rel=>exact⟨k+1,_,fr,mt,by omega,by go_num,rfl,hid ⟨HMU.out.2.1,HMU.out.1,HO.out.1,HO.out.2,HMU.out.2.2.1⟩⟩
    case measure=>simp [intOf];omega
   ·have e1:decide (d∈mt)=false:=decide_eq_false hin
    have HGN:=hid (HGD.out hin)
    rw[e1]at hl1 hl2
    obtain⟨w5,hset0,hm5,hc5⟩:=HMU.out.1.add (t:=61) (e:=62) Tryz.underlying61 (by have:=HLN.out.2;omega) HKD.out hin
    have hset:(Instr.mapUpdate 61 (.map (some mb)) (.agg #[.int .i64 d.kind,.string ⟨d.head.1.toArray⟩,.string ⟨d.head.2.toArray⟩,.string ⟨d.who.toArray⟩,.string ⟨d.b.1.toArray⟩,.string ⟨d.b.2.toArray⟩,.string ⟨d.c.1.toArray⟩,.string ⟨d.c.2.toArray⟩,.string ⟨d.w2.toArray⟩]) (.agg #[])).run Tryz.prog ((wr.alloc (.cells #[.int .i64 d.kind,.string ⟨d.head.1.toArray⟩,.string ⟨d.head.2.toArray⟩,.string ⟨d.who.toArray⟩,.string ⟨d.b.1.toArray⟩,.string ⟨d.b.2.toArray⟩,.string ⟨d.c.1.toArray⟩,.string ⟨d.c.2.toArray⟩,.string ⟨d.w2.toArray⟩,.slice ta tl tc,.int .i64 f.op,.int .i64 f.k,.string ⟨f.r.1.toArray⟩,.string ⟨f.r.2.toArray⟩,.slice fo f.kids.length fc] 48)).alloc (.cells #[] 62)) = .ok () w5:=hset0
    have hgt:=HGT.out
    have hX5:=bE HMU.out.2.2.2.1 hc5 (show ¬wr.heap.size=mb by omega)
    have hP5:=bE HMU.out.2.2.2.2 hc5 (show ¬w.heap.size=mb by have:=HS4.out;omega)
    have hcw5:=HCW.out.trans hc5 (fun i hi e=>by have e:i=mb:=e;have:=HS4.out;omega)
    have hDm:∀i,D i→¬i=mb:=fun i hi e=>by have:=HP.out.lt i hi;have:=HS4.out;omega
    have HGU:=hid (gg_guard (E:=D) n p _ pc ao ac d tg ta tl tc f n1 fo fc w5 (HP.out.keep hcw5 (fun _ _=>id)) HGG.out HSH.out.1 (HFK.out.1.keep hc5 hDm) (fun i hi=>by have:=HP.out.lt i hi;have:=hcw5.size;omega) HFK.out.2.1 HSH.out.2)
    have i0:=bC (hX5) 0
    have i1:=bC (hX5) 1
    have i2:=bC (hX5) 2
    have i3:=bC (hX5) 3
    have i4:=bC (hX5) 4
    have i5:=bC (hX5) 5
    have i6:=bC (hX5) 6
    have i7:=bC (hX5) 7
    have i8:=bC (hX5) 8
    have i9:=bC (hX5) 9
    have i10:=bC (hX5) 10
    have i11:=bC (hX5) 11
    have i12:=bC (hX5) 12
    have i13:=bC (hX5) 13
    have i14:=bC (hX5) 14
    simp only[lA,lZ,lS]at i0 i1 i2 i3 i4 i5 i6 i7 i8 i9 i10 i11 i12 i13 i14
    have j0:=bC (hP5) 0
    have j1:=bC (hP5) 1
    have j2:=bC (hP5) 2
    simp only[lA,lZ,lS]at j0 j1 j2
    have H5:=hid (aI hm5 (aI (HMU.out.2.1.keep hc5 (fun b hb e=>by have:=(HMU.out.2.1.lt b hb).1;have e:b=mb:=e;have:=HS4.out;omega)) (aI (HMU.out.2.2.1.trans hc5 (fun _ _ h=>h)) (aI hX5 hcw5))))
    have HSU:=hid HFK.out.2.2
    clear hset0 hm5 hc5 hX5 hP5 hcw5 hDm hin e1 HOLD HGD HFK HMU hgt
    subst hu
    go_wp2_with fail
    refine HGU.out.mono ?_
    rintro e w7 ⟨y,kk,rfl,ho7,hnd7,hgr7,hc7⟩
    obtain⟨yo,yc,g1,g5,g2,g3,g4⟩:=own_val ho7
    have hfy:fmV y = .agg #[.int .i64 (eraseA y).op,.int .i64 (eraseA y).k,.string ⟨(eraseA y).r.1.toArray⟩,.string ⟨(eraseA y).r.2.toArray⟩,.slice yo (eraseA y).kids.length yc]:=by rw[←g1];rfl
    rw[hfy]
    have hcF:=alc w7 (.cells #[.int .i64 (eraseA y).op,.int .i64 (eraseA y).k,.string ⟨(eraseA y).r.1.toArray⟩,.string ⟨(eraseA y).r.2.toArray⟩,.slice yo (eraseA y).kids.length yc] 46)
    have hFb:=heap_alloc_new w7 (.cells #[.int .i64 (eraseA y).op,.int .i64 (eraseA y).k,.string ⟨(eraseA y).r.1.toArray⟩,.string ⟨(eraseA y).r.2.toArray⟩,.slice yo (eraseA y).kids.length yc] 46)
    have s0:=bC (hFb) 0
    have s1:=bC (hFb) 1
    have s2:=bC (hFb) 2
    have s3:=bC (hFb) 3
    have s4:=bC (hFb) 4
    simp only[lA,lZ,lS]at s0 s1 s2 s3 s4
    have hX7:=bE (bE H5.out.2.2.2.1 hc7 id) hcF id
    have hc8:=hc7.trans hcF (fun _ _ h=>h)
    have hGN:=HGN.out _ _ hgr7
    have HN8:Hid (nodesF (eraseA y)≤4096):=hid (by have:=hgr7.few;omega)
    have hch8:=(H5.out.2.2.1.trans hc8 (fun _ _ h=>h.elim))
    have HTR:=hid (fm_true 32 #[] #[.pointer (some ⟨bm,0,none⟩),.pointer (some ⟨bw,0,none⟩)] (inM xs s) gg_ent _ (eraseA y) yo yc (w7.alloc (.cells #[.int .i64 (eraseA y).op,.int .i64 (eraseA y).k,.string ⟨(eraseA y).r.1.toArray⟩,.string ⟨(eraseA y).r.2.toArray⟩,.slice yo (eraseA y).kids.length yc] 46)) (g3.keep hcF (fun _ _=>id)) (fun i hi=>by have:=hi.2;have:=hcF.size;omega) g4 HN8.out (HX.out.2.1.later (HX.out.2.2.2.2.trans hch8 (fun i hi e=>by have e:i=mb:=e;have:=HMB.out;omega))))
    have H8:=hid (aI (H5.out.1.keep hc8 id) (aI (H5.out.2.1.keep hc8 (fun _ _=>id)) (aI hch8 (aI hX7 (aI hGN (show w4.heap.size≤(w7.alloc (.cells #[.int .i64 (eraseA y).op,.int .i64 (eraseA y).k,.string ⟨(eraseA y).r.1.toArray⟩,.string ⟨(eraseA y).r.2.toArray⟩,.slice yo (eraseA y).kids.length yc] 46)).heap.size by have:=hch8.size;omega))))))
    clear ho7 hnd7 hgr7 hc7 g1 g2 g3 g4 g5 hfy hcF hFb hX7 hc8 hGN hch8 H5 HGU HGN HN8
    by_cases h0:kk=0
    ·have e0:(kk==0)=true:=beq_iff_eq.2 h0
     have HF0:Hid (isF (eraseA y)=true):=hid (by rcases H8.out.2.2.2.2.1.1 with h|h;exact h;exact absurd h0 h)
     have H0:=hid h0
     clear h0
     go_wp2_with fail
     refine HTR.out.mono ?_
     rintro e w9 ⟨rfl,hc9⟩
     rw[HF0.out,Bool.true_and]
     have hX9:=bE H8.out.2.2.2.1 hc9 id
     have H9:=hid (aI (H8.out.1.keep hc9 id) (aI (H8.out.2.1.keep hc9 (fun _ _=>id)) (H8.out.2.2.1.trans hc9 (fun _ _ h=>h.elim))))
     have HS9:Hid (w4.heap.size≤w9.heap.size):=hid (by have:=H8.out.2.2.2.2.2;have:=hc9.size;omega)
     clear i0 i1 i2 i3 i4 i5 i6 i7 i8 i9 i10 i11 i12 i13 i14 z0 z1 z2 z3 z4 z5 z6 z7 z8 z9 z10 z11 z12 z13 z14 q0 q1 q2 q3 q4 q5 q6 q7 q8 q9 q10 q11 q12 q13 q14
     cases hT:holdsF (inM xs s) (eraseA y) with
     | true=>
      have z0:=bC (hX9) 0
      have z1:=bC (hX9) 1
      have z2:=bC (hX9) 2
      have z3:=bC (hX9) 3
      have z4:=bC (hX9) 4
      have z5:=bC (hX9) 5
      have z6:=bC (hX9) 6
      have z7:=bC (hX9) 7
      have z8:=bC (hX9) 8
      simp only[lA,lZ,lS]at z0 z1 z2 z3 z4 z5 z6 z7 z8
      have hcB:=alc w9 (.cells #[.int .i64 d.kind,.string ⟨d.head.1.toArray⟩,.string ⟨d.head.2.toArray⟩,.string ⟨d.who.toArray⟩,.string ⟨d.b.1.toArray⟩,.string ⟨d.b.2.toArray⟩,.string ⟨d.c.1.toArray⟩,.string ⟨d.c.2.toArray⟩,.string ⟨d.w2.toArray⟩] 34)
      have HCO:=hid (creds_one8 (heap_alloc_new w9 (.cells #[.int .i64 d.kind,.string ⟨d.head.1.toArray⟩,.string ⟨d.head.2.toArray⟩,.string ⟨d.who.toArray⟩,.string ⟨d.b.1.toArray⟩,.string ⟨d.b.2.toArray⟩,.string ⟨d.c.1.toArray⟩,.string ⟨d.c.2.toArray⟩,.string ⟨d.w2.toArray⟩] 34)) HSU.out)
      have HOW:=hid (OwnC.keep H9.out.2.1 hcB (fun _ _=>id))
      have HLN2:Hid (fr.length+([d]:List CredB).length≤33554432):=hid (by have:=HLN.out.1;simp;omega)
      have HSZ:Hid (w4.heap.size≤(w9.alloc (.cells #[.int .i64 d.kind,.string ⟨d.head.1.toArray⟩,.string ⟨d.head.2.toArray⟩,.string ⟨d.who.toArray⟩,.string ⟨d.b.1.toArray⟩,.string ⟨d.b.2.toArray⟩,.string ⟨d.c.1.toArray⟩,.string ⟨d.c.2.toArray⟩,.string ⟨d.w2.toArray⟩] 34)).heap.size):=hid (by have:=HS9.out;have:=hcB.size;omega)
      have HFR:=hid (H8.out.2.2.2.2.1.2.1 H0.out hT)
      have HM9:=hid (aI (H9.out.1.keep hcB id) (H9.out.2.2.trans hcB (fun _ _ h=>h.elim)))
      clear hX9 hc9 hcB hT H8 H9
      go_wp2_with (at_builtin;refine wpList_append_creds rfl (.tmp 54) (.tmp 58) rfl w4.heap.size _ _ rfl HOW.out (some ⟨w9.heap.size,0,none⟩) 1 [d] rfl HCO.out (fun e=>by cases e) HLN2.out HSZ.out ?_)
      intro v' w10 hown10 hgr10 _
      have hc10:Chg (fun i=>w4.heap.size≤i) (w9.alloc (.cells #[.int .i64 d.kind,.string ⟨d.head.1.toArray⟩,.string ⟨d.head.2.toArray⟩,.string ⟨d.who.toArray⟩,.string ⟨d.b.1.toArray⟩,.string ⟨d.b.2.toArray⟩,.string ⟨d.c.1.toArray⟩,.string ⟨d.c.2.toArray⟩,.string ⟨d.w2.toArray⟩] 34)) w10:=R0.grown hgr10 fun b e _=>(HOW.out.lt b e).1
      have HW10:=hid (aI hown10 (aI (HM9.out.1.keep hc10 (fun h=>by have:=HS4.out;have:=HMB.out;omega)) (HM9.out.2.trans hc10 (fun i hi h=>absurd hi (Nat.not_lt.2 h)))))
      clear hown10 hgr10 hc10 z0 z1 z2 z3 z4 z5 z6 z7 z8 HTR
      go_wp2
      go_roundw
      case rel=>exact⟨k+1,v',_,_,by omega,by go_num,rfl,hid ⟨HW10.out.1,HW10.out.2.1,HFR.out,HNEW.out,HW10.out.2.2⟩⟩
      case measure=>simp [intOf];omega
     | false=>
      have HFR:=hid (H8.out.2.2.2.2.1.2.2 (fun h=>by rw[hT]at h;cases h.2))
      clear hX9 hc9 hT H8 HTR
      go_wp2
      go_roundw
      case rel=>exact⟨k+1,_,fr,_,by omega,by go_num,rfl,hid ⟨H9.out.2.1,H9.out.1,HFR.out,HNEW.out,H9.out.2.2⟩⟩
      case measure=>simp [intOf];omega
    ·have e0:(kk==0)=false:=beq_eq_false_iff_ne.2 h0
     have HFR:=hid (H8.out.2.2.2.2.1.2.2 (fun h=>h0 h.1))
     clear h0 HTR i0 i1 i2 i3 i4 i5 i6 i7 i8 i9 i10 i11 i12 i13 i14 z0 z1 z2 z3 z4 z5 z6 z7 z8 z9 z10 z11 z12 z13 z14 q0 q1 q2 q3 q4 q5 q6 q7 q8 q9 q10 q11 q12 q13 q14
     go_wp2
     go_roundw
     case rel=>exact⟨k+1,_,fr,_,by omega,by go_num,rfl,hid ⟨H8.out.2.1,H8.out.1,HFR.out,HNEW.out,H8.out.2.2.1⟩⟩
     case measure=>simp [intOf];omega
  ·have hk2:k=p.creds.length:=by omega
   have hfr:=hrel.out.free
   rw[hk2]at hfr
   obtain⟨fo,fcp,hv,hcr,hfz⟩:=OwnC.creds hrel.out.own (fun x hx=>by
    obtain⟨⟨i,hi,_,e⟩,_⟩:=(hfr.2 x).1 hx
    rw[←e]
    exact(HGS.out _ (List.getElem_mem hi)).1.mono' (by decide))
   have HST:=hid (pcset fo fcp fr wr (by have:=hfr.1;omega) hcr (fun i hi=>hi.2) hfz)
   have HE:=hid (aI hfr (HX.out.2.2.1.trans hrel.out.ch (fun i hi e=>by have e:i=mb:=e;have:=HS4.out;have:=HMB.out;omega)))
   subst hu
   subst hv
   clear hrel hfr hcr hk2 hfz
   go_wp2_with fail
   refine HST.out.mono ?_
   rintro e w9 ⟨out,zo,zc,rfl,hset,hcr9,hc9,_⟩
   have HF:=hid (aI (HE.out.1.set hset) (aI (hcr9.mono (fun i hi=>hi.2)) (HE.out.2.trans hc9 (fun _ _ h=>h))))
   clear hset hcr9 hc9 HST
   go_wp2
   go_ret
   exact⟨xs,out,zo,zc,rfl,HX.out.2.2.2.1,HF.out.1,HF.out.2.1,HF.out.2.2⟩
end
end
section
open Go.RowKit
set_option maxRecDepth 100000 in
set_option maxHeartbeats 2000000 in
theorem chas_ref {D:Nat→Prop} (ao:Option Addr) (cp:Nat) (ls:List CredB) (c:CredB) (w:World) (hn:ls.length≤9223372036854775807) (h:CredsAt D w ao ls) :
  Calls Tryz.prog 8 #[.slice ao ls.length cp,credV c] w fun e w'=>e = .returned (.bool (hasC ls c))∧Chg (fun _=>False) w w':=by
 have hc:=alc w (.cells (credBox c) 34)
 have hA:=heap_alloc_new w (.cells (credBox c) 34)
 have h':=h.keep hc (fun _ _=>id)
 obtain⟨k',⟨ho',hw'⟩,who',⟨bo',bw'⟩,⟨co',cw'⟩,w2'⟩:=c
 show Calls Tryz.prog 8 #[.slice ao ls.length cp,.agg #[.int .i64 k',.string ⟨ho'.toArray⟩,.string ⟨hw'.toArray⟩,.string ⟨who'.toArray⟩,.string ⟨bo'.toArray⟩,.string ⟨bw'.toArray⟩,.string ⟨co'.toArray⟩,.string ⟨cw'.toArray⟩,.string ⟨w2'.toArray⟩]] w _
 simp only[credBox]at hc hA h'
 go_enter Tryz.func8,Tryz.ntmps8
 go_wp2
 generalize hw1:w.alloc (.cells #[.int .i64 k',.string ⟨ho'.toArray⟩,.string ⟨hw'.toArray⟩,.string ⟨who'.toArray⟩,.string ⟨bo'.toArray⟩,.string ⟨bw'.toArray⟩,.string ⟨co'.toArray⟩,.string ⟨cw'.toArray⟩,.string ⟨w2'.toArray⟩] 34)=w1 at *
 generalize w.heap.size=A at *
 clear h hw1
 go_loopw [9] (fun i wr=>∃k:Nat,k≤ls.length∧i = .int .i64 k∧Hid (hasC (ls.take k) ⟨k',(ho',hw'),who',(bo',bw'),(co',cw'),w2'⟩=false)∧Chg (fun _=>False) w1 wr) (fun i _=>ls.length-(intOf i).toNat)
 case atStart=>exact⟨0,Nat.zero_le _,rfl,by rw[List.take_zero];rfl,Chg.refl _ _⟩
 case round=>
  obtain⟨k,hk,rfl,hf,hc1⟩:=hrel
  have hA1:=cred_at_blk (c:=⟨k',(ho',hw'),who',(bo',bw'),(co',cw'),w2'⟩) (bE hA hc1 id)
  by_cases hlt:k<ls.length
  ·obtain⟨b,off,rfl,_,hat,_⟩:=(h'.keep hc1 (fun _ _=>id)) k hlt
   have HFT:=hid (hasC_take ls _ k hlt hf.out)
   clear h'
   have hmem:Hid (ls[k]∈ls):=hid (List.getElem_mem hlt)
   generalize ls[k]=q at *
   by_cases e:q=⟨k',(ho',hw'),who',(bo',bw'),(co',cw'),w2'⟩
   ·subst e
    have hh:Hid (hasC ls ⟨k',(ho',hw'),who',(bo',bw'),(co',cw'),w2'⟩=true):=hid (by simpa [hasC] using hmem.out)
    have hal:=alc wr (.cells (credBox ⟨k',(ho',hw'),who',(bo',bw'),(co',cw'),w2'⟩) 34)
    have hA2:=hA1.keep hal id
    obtain⟨a0,a1,a2,a3,a4,a5,a6,a7,a8⟩:=hat
    obtain⟨b0,b1,b2,b3,b4,b5,b6,b7,b8⟩:=hA2
    simp only[Nat.zero_add,credBox]at b0 b1 b2 b3 b4 b5 b6 b7 b8 a0 a1 a2 a3 a4 a5 a6 a7 a8
    have HC:=hid (hc.trans (hc1.trans hal (fun _ _ h=>h)) (fun _ _ h=>h))
    clear hc hc1 hA hA1 hal HFT hf
    go_wp2
    go_ret
    exact⟨by rw[hh.out];rfl,HC.out⟩
   ·have hx:=hid (HFT.out e)
    obtain⟨k0,⟨ho,hw⟩,who,⟨bo,bw⟩,⟨co,cw⟩,w2⟩:=q
    have hal:=alc wr (.cells (credBox ⟨k0,(ho,hw),who,(bo,bw),(co,cw),w2⟩) 34)
    have hA2:=hA1.keep hal id
    obtain⟨a0,a1,a2,a3,a4,a5,a6,a7,a8⟩:=hat
    obtain⟨b0,b1,b2,b3,b4,b5,b6,b7,b8⟩:=hA2
    simp only[Nat.zero_add,credBox]at b0 b1 b2 b3 b4 b5 b6 b7 b8 a0 a1 a2 a3 a4 a5 a6 a7 a8
    have HC:=hid hc1
    have HE:=hid e
    clear hc hc1 hA hA1 hal HFT hf e hmem
    go_wp2
    all_goals first
     | (refine(HE.out ?_).elim;simp only[CredB.mk.injEq,Prod.mk.injEq];refine⟨?_,⟨?_,?_⟩,?_,⟨?_,?_⟩,⟨?_,?_⟩,?_⟩ <;> assumption)
     | (go_roundw <;> first|exact⟨k+1,by omega,by go_num,hx,HC.out.alloc _⟩|(simp [intOf];omega))
  ·have hk2:k=ls.length:=by omega
   have hh:Hid (hasC ls ⟨k',(ho',hw'),who',(bo',bw'),(co',cw'),w2'⟩=false):=by have:=hf.out;rwa [List.take_of_length_le (by omega)]at this
   have HC:=hid (hc.trans hc1 (fun _ _ h=>h))
   clear h' hc hc1 hA hA1
   go_wp2
   go_ret
   exact⟨by rw[hh.out];rfl,HC.out⟩
end
section
open Go.RowKit
theorem totalC_app8 (a b:List CredB):totalC (a++b)=totalC a+totalC b:=by
 induction a with
 | nil=>simp [totalC]
 | cons x l ih=>rw[List.cons_append,totalC,totalC,ih];omega
theorem totalC_shorts {ls:List CredB} (h:totalC ls≤9223372036854775807):∀c∈ls,credShort c 9223372036854775807:=fun _ hc=>sizeC_short (Nat.le_trans (totalC_mem hc) h)
theorem own_lt8 {B:Nat} {w:World} {v:Value} {ls:List CredB} (h:OwnC B w v ls) (k:Nat) (e:v.ownBlock=some k):B≤k∧k<w.heap.size:=ownsRow_lt h k e
end
end Go.Proofs.YtkfinhpfdcjoeaaGreat
