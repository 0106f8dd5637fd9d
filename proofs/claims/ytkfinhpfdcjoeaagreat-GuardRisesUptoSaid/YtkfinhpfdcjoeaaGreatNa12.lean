/- How great a party is, by law 15. -/
import Derived.Test.YtkfinhpfdcjoeaaGreatNa11
import Derived.Test.YtkfinhpfdcjoeaaGreatNa4
namespace Go.Proofs.YtkfinhpfdcjoeaaGreat
open Go.RowKit
theorem sum_take_succ {α:Type} (f:α→Nat) (l:List α) (k:Nat) (h:k<l.length):((l.take (k+1)).map f).sum=((l.take k).map f).sum+f l[k]:=by
 rw[List.take_succ_eq_append_getElem h,List.map_append,List.sum_append]
 simp
theorem sum_take_le {α:Type} (f:α→Nat):∀(l:List α) (k:Nat),((l.take k).map f).sum≤(l.map f).sum
 | [],k=>by simp
 | x::l,0=>by simp
 | x::l,k+1=>by
  have:=sum_take_le f l k
  simp only[List.take_succ_cons,List.map_cons,List.sum_cons]
  omega
theorem greatL_one (f:FmB):greatL [f]=greatF f:=by simp [greatL]
theorem totals_one (c:CredB) (tg:List UInt8):totalK []+totalS [⟨c,tg⟩]=sizeS ⟨c,tg⟩:=by simp [totalK,totalS]
theorem fms_one9 {D:Nat→Prop} {w:World} {b n:Nat} {f:FmB} {fo:Option Addr} {fc:Nat} {ty:TypeId} {z:Nat×Nat} (hb:w.heap[b]? = some (.cells #[.int .i64 f.op,.int .i64 f.k,.string ⟨f.r.1.toArray⟩,.string ⟨f.r.2.toArray⟩,.slice fo f.kids.length fc] ty z)) (hk:FmsAt D w n fo f.kids) (hok:FmOk f) (hz:fo=none→fc=0):FmsAt (fun _=>True) w (n+1) (some ⟨b,0,none⟩) [f]:=fun i hi=>by
 have:i=0:=by simp at hi;omega
 subst this
 exact⟨b,0,rfl,trivial,fm_at_blk hb hok hz (hk.mono (fun _ _=>trivial))⟩
theorem signs_one9 {D:Nat→Prop} {w:World} {b:Nat} {c:CredB} {tg:List UInt8} {ta:Option Addr} {tc:Nat} {ty:TypeId} {z:Nat×Nat} (hb:w.heap[b]? = some (.cells #[.int .i64 c.kind,.string ⟨c.head.1.toArray⟩,.string ⟨c.head.2.toArray⟩,.string ⟨c.who.toArray⟩,.string ⟨c.b.1.toArray⟩,.string ⟨c.b.2.toArray⟩,.string ⟨c.c.1.toArray⟩,.string ⟨c.c.2.toArray⟩,.string ⟨c.w2.toArray⟩,.slice ta tg.length tc] ty z)) (hk:BytesAt D w (.slice ta tg.length tc) tg) (hs:credShort c 9223372036854775807) (hl:tg.length≤9223372036854775807):SignsAt (fun _=>True) w (some ⟨b,0,none⟩) [⟨c,tg⟩]:=fun i hi=>by
 have:i=0:=by simp at hi;omega
 subst this
 obtain⟨h1,h2⟩:=cred_at_sign hb
 exact⟨b,0,rfl,trivial,h1,⟨ta,tc,h2,hk.mono (fun _ _=>trivial)⟩,hs,hl⟩
theorem gd_blk {w:World} {b:Nat} {c:CredB} {ta fo:Option Addr} {tc fc:Nat} {tg:List UInt8} {f:FmB} {ty:TypeId} {z:Nat×Nat} (h:w.heap[b]? = some (.cells #[.int .i64 c.kind,.string ⟨c.head.1.toArray⟩,.string ⟨c.head.2.toArray⟩,.string ⟨c.who.toArray⟩,.string ⟨c.b.1.toArray⟩,.string ⟨c.b.2.toArray⟩,.string ⟨c.c.1.toArray⟩,.string ⟨c.c.2.toArray⟩,.string ⟨c.w2.toArray⟩,.slice ta tg.length tc,.int .i64 f.op,.int .i64 f.k,.string ⟨f.r.1.toArray⟩,.string ⟨f.r.2.toArray⟩,.slice fo f.kids.length fc] ty z)) :
  w.cell? ⟨b,0,none⟩=some (.int .i64 c.kind)∧w.cell? ⟨b,1,none⟩=some (.string ⟨c.head.1.toArray⟩)∧w.cell? ⟨b,2,none⟩=some (.string ⟨c.head.2.toArray⟩)∧w.cell? ⟨b,3,none⟩=some (.string ⟨c.who.toArray⟩)∧w.cell? ⟨b,4,none⟩=some (.string ⟨c.b.1.toArray⟩)∧w.cell? ⟨b,5,none⟩=some (.string ⟨c.b.2.toArray⟩)∧w.cell? ⟨b,6,none⟩=some (.string ⟨c.c.1.toArray⟩)∧w.cell? ⟨b,7,none⟩=some (.string ⟨c.c.2.toArray⟩)∧w.cell? ⟨b,8,none⟩=some (.string ⟨c.w2.toArray⟩)∧w.cell? ⟨b,9,none⟩=some (.slice ta tg.length tc)∧w.cell? ⟨b,10,none⟩=some (.int .i64 f.op)∧w.cell? ⟨b,11,none⟩=some (.int .i64 f.k)∧w.cell? ⟨b,12,none⟩=some (.string ⟨f.r.1.toArray⟩)∧w.cell? ⟨b,13,none⟩=some (.string ⟨f.r.2.toArray⟩)∧w.cell? ⟨b,14,none⟩=some (.slice fo f.kids.length fc):=
 ⟨bC h 0,bC h 1,bC h 2,bC h 3,bC h 4,bC h 5,bC h 6,bC h 7,bC h 8,bC h 9,bC h 10,bC h 11,bC h 12,bC h 13,bC h 14⟩
theorem ak_blk {w:World} {b:Nat} {r:RoleB} {fo co:Option Addr} {fc cc:Nat} {f:FmB} {cl:List CredB} {ty:TypeId} {z:Nat×Nat} (h:w.heap[b]? = some (.cells #[.string ⟨r.1.toArray⟩,.string ⟨r.2.toArray⟩,.int .i64 f.op,.int .i64 f.k,.string ⟨f.r.1.toArray⟩,.string ⟨f.r.2.toArray⟩,.slice fo f.kids.length fc,.slice co cl.length cc] ty z)) :
  w.cell? ⟨b,0,none⟩=some (.string ⟨r.1.toArray⟩)∧w.cell? ⟨b,1,none⟩=some (.string ⟨r.2.toArray⟩)∧w.cell? ⟨b,2,none⟩=some (.int .i64 f.op)∧w.cell? ⟨b,3,none⟩=some (.int .i64 f.k)∧w.cell? ⟨b,4,none⟩=some (.string ⟨f.r.1.toArray⟩)∧w.cell? ⟨b,5,none⟩=some (.string ⟨f.r.2.toArray⟩)∧w.cell? ⟨b,6,none⟩=some (.slice fo f.kids.length fc)∧w.cell? ⟨b,7,none⟩=some (.slice co cl.length cc):=
 ⟨bC h 0,bC h 1,bC h 2,bC h 3,bC h 4,bC h 5,bC h 6,bC h 7⟩
def Spec.signK (c:CredB) (tg:List UInt8) (ta:Option Addr) (tc:Nat):Spec:=⟨fun v w=>∃b,v = .slice (some ⟨b,0,none⟩) 1 1∧w.heap[b]? = some (.cells #[.int .i64 c.kind,.string ⟨c.head.1.toArray⟩,.string ⟨c.head.2.toArray⟩,.string ⟨c.who.toArray⟩,.string ⟨c.b.1.toArray⟩,.string ⟨c.b.2.toArray⟩,.string ⟨c.c.1.toArray⟩,.string ⟨c.c.2.toArray⟩,.string ⟨c.w2.toArray⟩,.slice ta tg.length tc] 43 (0,0)),fun _ _ _ hc ⟨b,h1,h2⟩=>⟨b,h1,bE h2 hc id⟩⟩
def Spec.fmK (f:FmB) (fo:Option Addr) (fc:Nat):Spec:=⟨fun v w=>∃b,v = .slice (some ⟨b,0,none⟩) 1 1∧w.heap[b]? = some (.cells #[.int .i64 f.op,.int .i64 f.k,.string ⟨f.r.1.toArray⟩,.string ⟨f.r.2.toArray⟩,.slice fo f.kids.length fc] 46 (0,0)),fun _ _ _ hc ⟨b,h1,h2⟩=>⟨b,h1,bE h2 hc id⟩⟩
def gg5 (X m gs:Nat) (c:CredB) (tg:List UInt8) (ta:Option Addr) (tc:Nat) (f:FmB) (fo:Option Addr) (fc:Nat):List Spec:=[.any,.any,.any,.eq (.int .i64 (m+(gs+20*greatF f):Nat)),.any,.eq (.pointer (some ⟨X,0,none⟩)),.any,.any,.any,.any,.any,.any,.any,.any,.any,.any,.any,.any,.eq (.int .i64 (m:Nat)),.eq (.pointer (some ⟨X,0,none⟩)),.eq (.agg #[.int .i64 c.kind,.string ⟨c.head.1.toArray⟩,.string ⟨c.head.2.toArray⟩,.string ⟨c.who.toArray⟩,.string ⟨c.b.1.toArray⟩,.string ⟨c.b.2.toArray⟩,.string ⟨c.c.1.toArray⟩,.string ⟨c.c.2.toArray⟩,.string ⟨c.w2.toArray⟩,.slice ta tg.length tc]),.signK c tg ta tc,.eq (.int .i64 (gs:Nat)),.eq (.pointer (some ⟨X,10,none⟩)),.eq (.agg #[.int .i64 f.op,.int .i64 f.k,.string ⟨f.r.1.toArray⟩,.string ⟨f.r.2.toArray⟩,.slice fo f.kids.length fc]),.fmK f fo fc,.eq (.int .i64 (greatF f:Nat)),.eq (.int .i64 (20*greatF f:Nat)),.eq (.int .i64 (gs+20*greatF f:Nat)),.eq (.int .i64 (m+(gs+20*greatF f):Nat)),.any,.any,.any,.any,.any,.any,.any,.any,.any,.any,.any,.any,.any,.any,.any,.any,.any,.any,.any,.any,.any,.any,.any,.any,.any,.any,.any,.any,.any,.any,.any]
def gg10 (X m tcl:Nat) (r:RoleB) (f:FmB) (fo:Option Addr) (fc:Nat) (cl:List CredB) (co:Option Addr) (cc:Nat):List Spec:=[.any,.any,.any,.eq (.int .i64 (m+(r.1.length+r.2.length+20*greatF f+tcl):Nat)),.any,.any,.any,.eq (.pointer (some ⟨X,0,none⟩)),.any,.any,.any,.any,.any,.any,.any,.any,.any,.any,.any,.any,.any,.any,.any,.any,.any,.any,.any,.any,.any,.any,.any,.any,.any,.any,.any,.any,.any,.any,.eq (.int .i64 (m:Nat)),.eq (.pointer (some ⟨X,0,none⟩)),.eq (.pointer (some ⟨X,0,none⟩)),.eq (.string ⟨r.1.toArray⟩),.eq (.int .i64 (r.1.length:Nat)),.eq (.pointer (some ⟨X,0,none⟩)),.eq (.pointer (some ⟨X,1,none⟩)),.eq (.string ⟨r.2.toArray⟩),.eq (.int .i64 (r.2.length:Nat)),.eq (.int .i64 (r.1.length+r.2.length:Nat)),.eq (.pointer (some ⟨X,2,none⟩)),.eq (.agg #[.int .i64 f.op,.int .i64 f.k,.string ⟨f.r.1.toArray⟩,.string ⟨f.r.2.toArray⟩,.slice fo f.kids.length fc]),.fmK f fo fc,.eq (.int .i64 (greatF f:Nat)),.eq (.int .i64 (20*greatF f:Nat)),.eq (.int .i64 (r.1.length+r.2.length+20*greatF f:Nat)),.eq (.pointer (some ⟨X,7,none⟩)),.eq (.slice co cl.length cc),.eq (.int .i64 (tcl:Nat)),.eq (.int .i64 (r.1.length+r.2.length+20*greatF f+tcl:Nat)),.eq (.int .i64 (m+(r.1.length+r.2.length+20*greatF f+tcl):Nat)),.any,.any]
def gsum (l:List GdB):Nat:=(l.map fun x=>sizeS x.sign+20*greatF x.rel).sum
def asum (l:List AkB):Nat:=(l.map fun a=>a.role.1.length+a.role.2.length+20*greatF a.rel+totalC a.clo).sum
theorem gsum_len:∀l:List GdB,l.length≤gsum l
 | []=>Nat.zero_le _
 | x::l=>by
  have ih:=gsum_len l
  unfold gsum at ih ⊢
  simp only[List.map_cons,List.sum_cons,List.length_cons]
  have:20≤sizeS x.sign:=by unfold sizeS sizeC;omega
  omega
theorem asum_len:∀l:List AkB,l.length≤asum l
 | []=>Nat.zero_le _
 | a::l=>by
  have ih:=asum_len l
  unfold asum at ih ⊢
  simp only[List.map_cons,List.sum_cons,List.length_cons]
  have:1≤greatF a.rel:=by rw[greatF_eq];omega
  omega
set_option maxRecDepth 100000 in
set_option maxHeartbeats 4000000 in
theorem gg_great {D:Nat→Prop} (n:Nat) (p:PartyB) (po:Option Addr) (pc:Nat) (ao:Option Addr) (ac:Nat) (w:World) (hp:PartyAt D w n p po pc ao ac) (hn:greatP p≤4503599627370496) :
  Calls Tryz.prog 5 #[.agg #[.string ⟨p.name.toArray⟩,.slice po p.creds.length pc,.slice ao p.acks.length ac]] w fun e w'=>e = .returned (.int .i64 (greatP p))∧Chg (fun _=>False) w w':=by
 have hc0:=alc w (.cells #[.string ⟨p.name.toArray⟩,.slice po p.creds.length pc,.slice ao p.acks.length ac] 25)
 have hb0:=heap_alloc_new w (.cells #[.string ⟨p.name.toArray⟩,.slice po p.creds.length pc,.slice ao p.acks.length ac] 25)
 have y0:=bC hb0 0
 have y1:=bC hb0 1
 have y2:=bC hb0 2
 simp only[lA,lZ,lS]at y0 y1 y2
 have hGP:greatP p=p.name.length+(gsum p.creds+asum p.acks):=rfl
 rw[hGP]at hn ⊢
 have HP:=hid hp
 have HB0:=hid (aI hb0 hc0)
 have HNL:=hp.name
 have hLG:p.creds.length≤4503599627370496:=by have:=gsum_len p.creds;omega
 have hLA:p.acks.length≤4503599627370496:=by have:=asum_len p.acks;omega
 clear hp hGP
 go_enter Tryz.func5,Tryz.ntmps5
 go_wp2
 clear y0 y1
 obtain⟨w1,hw1⟩:∃w1,w1=(w.alloc (.cells #[.string ⟨p.name.toArray⟩,.slice po p.creds.length pc,.slice ao p.acks.length ac] 25)):=⟨_,rfl⟩
 rw[←hw1]at HB0 hb0 hc0 y2 ⊢
 clear hw1
 obtain⟨Z,hZ⟩:∃Z,Z=w.heap.size:=⟨_,rfl⟩
 rw[←hZ]at HB0 hb0 y2 ⊢
 clear hZ hb0
 have HC0:=hid hc0
 clear hc0
 obtain⟨N0,hN0⟩:∃N0,N0=p.name.length:=⟨_,rfl⟩
 rw[←hN0]at hn HNL ⊢
 have HN0:=hid hN0
 clear hN0
 go_loopw [3,14] (fun v i wr=>∃k m:Nat,k≤p.creds.length∧i = .int .i64 k∧v = .int .i64 m∧Hid (m=N0+gsum (p.creds.take k))∧m≤4503599627370496∧Hid (Chg (fun _=>False) w1 wr)) (fun _ i _=>p.creds.length-(intOf i).toNat)
 case atStart=>exact⟨0,N0,Nat.zero_le _,rfl,rfl,hid (by simp [gsum]),by omega,hid R0⟩
 case round=>
  obtain⟨k,m,hk,rfl,rfl,hm,hml,hc⟩:=hrel
  by_cases hlt:k<p.creds.length
  ·obtain⟨b,off,hao,_,⟨⟨⟨a0,a1,a2,a3,a4,a5,a6,a7,a8⟩,⟨ta,tc,a9,hbt⟩,hsh,hln⟩,hfm⟩⟩:=(HP.out.gds.keep (HC0.out.trans hc.out (fun _ _ h=>h)) (fun _ _=>id)) k hlt
   have htk:gsum (p.creds.take (k+1))=gsum (p.creds.take k)+(sizeS (p.creds[k]).sign+20*greatF (p.creds[k]).rel):=sum_take_succ (fun x:GdB=>sizeS x.sign+20*greatF x.rel) p.creds k hlt
   have hle:gsum (p.creds.take (k+1))≤gsum p.creds:=sum_take_le _ p.creds (k+1)
   have HNX:Hid (m+(sizeS (p.creds[k]).sign+20*greatF (p.creds[k]).rel)=N0+gsum (p.creds.take (k+1))):=hid (by rw[htk,hm.out];omega)
   have hsz:m+(sizeS (p.creds[k]).sign+20*greatF (p.creds[k]).rel)≤4503599627370496:=by rw[HNX.out];omega
   have HKL:=hid hlt
   clear htk hle hm
   generalize p.creds[k]=x at *
   obtain⟨c,tg,f⟩:=x
   obtain⟨n1,fo,fc,_,⟨f0,f1,f2,f3,f4⟩,hok,hz,hks⟩:=hfm.open_
   change wr.cell? ⟨b,off+k*15+11,none⟩=_ at f1
   change wr.cell? ⟨b,off+k*15+12,none⟩=_ at f2
   change wr.cell? ⟨b,off+k*15+13,none⟩=_ at f3
   change wr.cell? ⟨b,off+k*15+14,none⟩=_ at f4
   simp only[GdB.sign]at a0 a1 a2 a3 a4 a5 a6 a7 a8 a9 hbt hsh hln f0 f1 f2 f3 f4 hok hks hsz HNX
   obtain⟨gs,hgs⟩:∃gs,gs=sizeS ⟨c,tg⟩:=⟨_,rfl⟩
   rw[←hgs]at hsz HNX
   have HGS:=hid hgs
   have HB:Hid (m+(gs+20*greatF f)≤4503599627370496):=hid hsz
   have hSb:(wr.alloc (.cells #[.int .i64 c.kind,.string ⟨c.head.1.toArray⟩,.string ⟨c.head.2.toArray⟩,.string ⟨c.who.toArray⟩,.string ⟨c.b.1.toArray⟩,.string ⟨c.b.2.toArray⟩,.string ⟨c.c.1.toArray⟩,.string ⟨c.c.2.toArray⟩,.string ⟨c.w2.toArray⟩,.slice ta tg.length tc,.int .i64 f.op,.int .i64 f.k,.string ⟨f.r.1.toArray⟩,.string ⟨f.r.2.toArray⟩,.slice fo f.kids.length fc] 48)).heap[wr.heap.size]? = some (.cells #[.int .i64 c.kind,.string ⟨c.head.1.toArray⟩,.string ⟨c.head.2.toArray⟩,.string ⟨c.who.toArray⟩,.string ⟨c.b.1.toArray⟩,.string ⟨c.b.2.toArray⟩,.string ⟨c.c.1.toArray⟩,.string ⟨c.c.2.toArray⟩,.string ⟨c.w2.toArray⟩,.slice ta tg.length tc,.int .i64 f.op,.int .i64 f.k,.string ⟨f.r.1.toArray⟩,.string ⟨f.r.2.toArray⟩,.slice fo f.kids.length fc] 48 (0,0)):=heap_alloc_new wr _
   have hcA:=alc wr (.cells #[.int .i64 c.kind,.string ⟨c.head.1.toArray⟩,.string ⟨c.head.2.toArray⟩,.string ⟨c.who.toArray⟩,.string ⟨c.b.1.toArray⟩,.string ⟨c.b.2.toArray⟩,.string ⟨c.c.1.toArray⟩,.string ⟨c.c.2.toArray⟩,.string ⟨c.w2.toArray⟩,.slice ta tg.length tc,.int .i64 f.op,.int .i64 f.k,.string ⟨f.r.1.toArray⟩,.string ⟨f.r.2.toArray⟩,.slice fo f.kids.length fc] 48)
   have HT:Hid ((wr.alloc (.cells #[.int .i64 c.kind,.string ⟨c.head.1.toArray⟩,.string ⟨c.head.2.toArray⟩,.string ⟨c.who.toArray⟩,.string ⟨c.b.1.toArray⟩,.string ⟨c.b.2.toArray⟩,.string ⟨c.c.1.toArray⟩,.string ⟨c.c.2.toArray⟩,.string ⟨c.w2.toArray⟩,.slice ta tg.length tc,.int .i64 f.op,.int .i64 f.k,.string ⟨f.r.1.toArray⟩,.string ⟨f.r.2.toArray⟩,.slice fo f.kids.length fc] 48)).heap[wr.heap.size]? = some (.cells #[.int .i64 c.kind,.string ⟨c.head.1.toArray⟩,.string ⟨c.head.2.toArray⟩,.string ⟨c.who.toArray⟩,.string ⟨c.b.1.toArray⟩,.string ⟨c.b.2.toArray⟩,.string ⟨c.c.1.toArray⟩,.string ⟨c.c.2.toArray⟩,.string ⟨c.w2.toArray⟩,.slice ta tg.length tc,.int .i64 f.op,.int .i64 f.k,.string ⟨f.r.1.toArray⟩,.string ⟨f.r.2.toArray⟩,.slice fo f.kids.length fc] 48 (0,0))∧True):=hid ⟨hSb,trivial⟩
   have HM:=hid (aI (hks.keep hcA (fun _ _=>id)) (aI hok hz))
   have HS:=hid (aI (hbt.keep hcA (fun _ _=>id)) (aI hsh hln))
   have HC2:=hid (hc.out.trans hcA (fun _ _ h=>h))
   have y2b:=hcA.cell (hc.out.cell y2 id) id
   clear hSb hcA hc hfm hok hz hks hbt hsh hln hgs y2b
   subst hao
   go_wp2_with fail
   clear a0 a1 a2 a3 a4 a5 a6 a7 a8 a9 f0 f1 f2 f3 f4
   generalize (wr.alloc (.cells #[.int .i64 c.kind,.string ⟨c.head.1.toArray⟩,.string ⟨c.head.2.toArray⟩,.string ⟨c.who.toArray⟩,.string ⟨c.b.1.toArray⟩,.string ⟨c.b.2.toArray⟩,.string ⟨c.c.1.toArray⟩,.string ⟨c.c.2.toArray⟩,.string ⟨c.w2.toArray⟩,.slice ta tg.length tc,.int .i64 f.op,.int .i64 f.k,.string ⟨f.r.1.toArray⟩,.string ⟨f.r.2.toArray⟩,.slice fo f.kids.length fc] 48))=w3 at *
   generalize wr.heap.size=X at *
   refine wp_region_specsE (gg5 X m gs c tg ta tc f fo fc) [18,19,20,21,22,23,24,25,26,27,28,29,3] [5] 3 (.int .i64 m) (by kernel_rfl) (by kernel_rfl) (by rfl) (by rfl) (by kernel_rfl) ?start ?obs ?fin
   case start=>
    simp only[List.forall_mem_cons];exact⟨⟨_,rfl,rfl⟩,fun _ h=>by cases h⟩
   case obs=>
    refine ObsE.cons none (by kernel_rfl) ?_ ?_
    ·refine ObE.plain fun a w hR hk K k9=>?_
     obtain⟨_,e3,f3⟩:=hk 3 (by decide)
     clear hk
     go_simp
     exact k9 _ _ R0 f3
    refine ObsE.cons none (by kernel_rfl) ?_ ?_
    ·refine ObE.plain fun a w hR hk K k9=>?_
     obtain⟨_,e5,rfl⟩:=hk 5 (by decide)
     clear hk
     go_simp
     exact k9 _ _ R0 rfl
    refine ObsE.cons none (by kernel_rfl) ?_ ?_
    ·refine ObE.plain fun a w hR hk K k9=>?_
     obtain⟨_,e19,rfl⟩:=hk 19 (by decide)
     clear hk
     obtain⟨z0,z1,z2,z3,z4,z5,z6,z7,z8,z9,z10,z11,z12,z13,z14⟩:=gd_blk (bE HT.out.1 hR id)
     go_simp
     exact k9 _ _ R0 rfl
    refine ObsE.cons none (by kernel_rfl) ?_ ?_
    ·refine ObE.plain fun a w hR hk K k9=>?_
     obtain⟨_,e20,rfl⟩:=hk 20 (by decide)
     clear hk
     have hb:=heap_alloc_new w (.cells #[.int .i64 c.kind,.string ⟨c.head.1.toArray⟩,.string ⟨c.head.2.toArray⟩,.string ⟨c.who.toArray⟩,.string ⟨c.b.1.toArray⟩,.string ⟨c.b.2.toArray⟩,.string ⟨c.c.1.toArray⟩,.string ⟨c.c.2.toArray⟩,.string ⟨c.w2.toArray⟩,.slice ta tg.length tc] 43)
     have hc:=alc w (.cells #[.int .i64 c.kind,.string ⟨c.head.1.toArray⟩,.string ⟨c.head.2.toArray⟩,.string ⟨c.who.toArray⟩,.string ⟨c.b.1.toArray⟩,.string ⟨c.b.2.toArray⟩,.string ⟨c.c.1.toArray⟩,.string ⟨c.c.2.toArray⟩,.string ⟨c.w2.toArray⟩,.slice ta tg.length tc] 43)
     go_simp
     exact k9 _ _ hc ⟨_,rfl,hb⟩
    refine ObsE.cons none (by kernel_rfl) ?_ ?_
    ·refine ObE.plain fun a w hR hk K k9=>?_
     obtain⟨_,e21,f21⟩:=hk 21 (by decide)
     clear hk
     obtain⟨b9,rfl,hb9⟩:=f21
     have hq:=kgreat_any (D:=fun _=>True) (E:=fun _=>True) none (some ⟨b9,0,none⟩) 0 1 [] [⟨c,tg⟩] w (by rw[totals_one];have:=HGS.out;have:=HB.out;omega) (KeysAt.nil _ _ _) (signs_one9 hb9 (HS.out.1.keep hR (fun _ _=>id)) HS.out.2.1 HS.out.2.2)
     rw[totals_one,←HGS.out]at hq
     go_simp
     refine hq.mono ?_
     rintro e w2 ⟨rfl,hc⟩
     exact k9 _ _ hc rfl
    refine ObsE.cons none (by kernel_rfl) ?_ ?_
    ·refine ObE.plain fun a w hR hk K k9=>?_
     obtain⟨_,e5,rfl⟩:=hk 5 (by decide)
     clear hk
     go_simp
     exact k9 _ _ R0 rfl
    refine ObsE.cons none (by kernel_rfl) ?_ ?_
    ·refine ObE.plain fun a w hR hk K k9=>?_
     obtain⟨_,e23,rfl⟩:=hk 23 (by decide)
     clear hk
     obtain⟨z0,z1,z2,z3,z4,z5,z6,z7,z8,z9,z10,z11,z12,z13,z14⟩:=gd_blk (bE HT.out.1 hR id)
     go_simp
     exact k9 _ _ R0 rfl
    refine ObsE.cons none (by kernel_rfl) ?_ ?_
    ·refine ObE.plain fun a w hR hk K k9=>?_
     obtain⟨_,e24,rfl⟩:=hk 24 (by decide)
     clear hk
     have hb:=heap_alloc_new w (.cells #[.int .i64 f.op,.int .i64 f.k,.string ⟨f.r.1.toArray⟩,.string ⟨f.r.2.toArray⟩,.slice fo f.kids.length fc] 46)
     have hc:=alc w (.cells #[.int .i64 f.op,.int .i64 f.k,.string ⟨f.r.1.toArray⟩,.string ⟨f.r.2.toArray⟩,.slice fo f.kids.length fc] 46)
     go_simp
     exact k9 _ _ hc ⟨_,rfl,hb⟩
    refine ObsE.cons none (by kernel_rfl) ?_ ?_
    ·refine ObE.plain fun a w hR hk K k9=>?_
     obtain⟨_,e25,f25⟩:=hk 25 (by decide)
     clear hk
     obtain⟨b9,rfl,hb9⟩:=f25
     have hq:=fm_great (D:=fun _=>True) (n1+1) (some ⟨b9,0,none⟩) 1 [f] w (by rw[greatL_one];have:=HB.out;omega) (fms_one9 hb9 (HM.out.1.keep hR (fun _ _=>id)) HM.out.2.1 HM.out.2.2)
     rw[greatL_one]at hq
     go_simp
     refine hq.mono ?_
     rintro e w2 ⟨rfl,hc⟩
     exact k9 _ _ hc rfl
    refine ObsE.cons none (by kernel_rfl) ?_ ?_
    ·refine ObE.plain fun a w hR hk K k9=>?_
     obtain⟨_,e26,rfl⟩:=hk 26 (by decide)
     clear hk
     have e1:IntKind.i64.wrap (20*((greatF f:Nat):Int))=((20*greatF f:Nat):Int):=by rw[IntKind.wrap_i64];have:=HB.out;omega
     go_simp
     exact k9 _ _ R0 (by first|rfl|(show Value.int _ _=Value.int _ _;first|exact congrArg _ e1|(simp only[Int.natCast_add,Int.natCast_mul]at e1 ⊢;first|exact congrArg _ e1|rw[e1])))
    refine ObsE.cons none (by kernel_rfl) ?_ ?_
    ·refine ObE.plain fun a w hR hk K k9=>?_
     obtain⟨_,e22,rfl⟩:=hk 22 (by decide)
     obtain⟨_,e27,rfl⟩:=hk 27 (by decide)
     clear hk
     have e1:IntKind.i64.wrap (((gs:Nat):Int)+((20*greatF f:Nat):Int))=((gs+20*greatF f:Nat):Int):=by rw[IntKind.wrap_i64];have:=HB.out;omega
     go_simp
     exact k9 _ _ R0 (by first|rfl|(show Value.int _ _=Value.int _ _;first|exact congrArg _ e1|(simp only[Int.natCast_add,Int.natCast_mul]at e1 ⊢;first|exact congrArg _ e1|rw[e1])))
    refine ObsE.cons none (by kernel_rfl) ?_ ?_
    ·refine ObE.plain fun a w hR hk K k9=>?_
     obtain⟨_,e18,rfl⟩:=hk 18 (by decide)
     obtain⟨_,e28,rfl⟩:=hk 28 (by decide)
     clear hk
     have e1:IntKind.i64.wrap (((m:Nat):Int)+((gs+20*greatF f:Nat):Int))=((m+(gs+20*greatF f):Nat):Int):=by rw[IntKind.wrap_i64];have:=HB.out;omega
     go_simp
     exact k9 _ _ R0 (by first|rfl|(show Value.int _ _=Value.int _ _;first|exact congrArg _ e1|(simp only[Int.natCast_add,Int.natCast_mul]at e1 ⊢;first|exact congrArg _ e1|rw[e1])))
    refine ObsE.cons none (by kernel_rfl) ?_ ?_
    ·refine ObE.plain fun a w hR hk K k9=>?_
     obtain⟨_,e29,f29⟩:=hk 29 (by decide)
     clear hk
     go_simp
     exact k9 _ _ R0 f29
    exact ObsE.nil
   case fin=>
    intro vals w9 hc9 hv
    have h3:vals 3 = .int .i64 (m+(gs+20*greatF f):Nat):=hv 3 (by decide)
    have HC9:=hid (HC2.out.trans hc9 (fun _ _ h=>h))
    simp only[putAll,List.setIfInBounds_toArray,List.set_cons_zero,List.set_cons_succ,h3]
    clear hv h3 hc9
    go_wp2
    go_roundw
    case rel=>exact⟨k+1,m+(gs+20*greatF f),by have:=HKL.out;omega,by go_num,rfl,HNX,hsz,HC9⟩
    case measure=>have:=HKL.out;simp [intOf];omega
  ·have hk2:k=p.creds.length:=by omega
   have hx:m=N0+gsum p.creds:=by have:=hm.out;rwa [hk2,List.take_length]at this
   have y2w:=hc.out.cell y2 id
   have HY2:=hid y2
   clear hm y2
   go_wp2
   clear y2w
   go_loopw [3,34] (fun v i wr=>∃k m:Nat,k≤p.acks.length∧i = .int .i64 k∧v = .int .i64 m∧Hid (m=N0+gsum p.creds+asum (p.acks.take k))∧m≤4503599627370496∧Hid (Chg (fun _=>False) w1 wr)) (fun _ i _=>p.acks.length-(intOf i).toNat)
   case atStart=>exact⟨0,m,Nat.zero_le _,rfl,rfl,hid (by rw[hx];simp [asum]),hml,hc⟩
   case round=>
    clear hx hk2 hlt hk hml hc
    obtain⟨k,m,hk,rfl,rfl,hm,hml,hc⟩:=hrel
    by_cases hlt:k<p.acks.length
    ·obtain⟨b,off,hao,_,⟨⟨a0,a1,hr1,hr2⟩,hfm,⟨co,cc,a7,hcz,hcr⟩⟩⟩:=(HP.out.aks.keep (HC0.out.trans hc.out (fun _ _ h=>h)) (fun _ _=>id)) k hlt
     have htk:asum (p.acks.take (k+1))=asum (p.acks.take k)+((p.acks[k]).role.1.length+(p.acks[k]).role.2.length+20*greatF (p.acks[k]).rel+totalC (p.acks[k]).clo):=sum_take_succ (fun a:AkB=>a.role.1.length+a.role.2.length+20*greatF a.rel+totalC a.clo) p.acks k hlt
     have hle:asum (p.acks.take (k+1))≤asum p.acks:=sum_take_le _ p.acks (k+1)
     have HNX:Hid (m+((p.acks[k]).role.1.length+(p.acks[k]).role.2.length+20*greatF (p.acks[k]).rel+totalC (p.acks[k]).clo)=N0+gsum p.creds+asum (p.acks.take (k+1))):=hid (by rw[htk,hm.out];omega)
     have hsz:m+((p.acks[k]).role.1.length+(p.acks[k]).role.2.length+20*greatF (p.acks[k]).rel+totalC (p.acks[k]).clo)≤4503599627370496:=by rw[HNX.out];omega
     have HKL:=hid hlt
     clear htk hle hm
     generalize p.acks[k]=x at *
     obtain⟨r,f,cl⟩:=x
     obtain⟨n1,fo,fc,_,⟨f0,f1,f2,f3,f4⟩,hok,hz,hks⟩:=hfm.open_
     change wr.cell? ⟨b,off+k*8+3,none⟩=_ at f1
     change wr.cell? ⟨b,off+k*8+4,none⟩=_ at f2
     change wr.cell? ⟨b,off+k*8+5,none⟩=_ at f3
     change wr.cell? ⟨b,off+k*8+6,none⟩=_ at f4
     simp only[]at a0 a1 a7 hr1 hr2 hcr f0 f1 f2 f3 f4 hok hks hsz HNX
     obtain⟨tcl,htl⟩:∃tcl,tcl=totalC cl:=⟨_,rfl⟩
     rw[←htl]at hsz HNX
     have HGS:=hid htl
     have HB:Hid (m+(r.1.length+r.2.length+20*greatF f+tcl)≤4503599627370496):=hid hsz
     have hSb:(wr.alloc (.cells #[.string ⟨r.1.toArray⟩,.string ⟨r.2.toArray⟩,.int .i64 f.op,.int .i64 f.k,.string ⟨f.r.1.toArray⟩,.string ⟨f.r.2.toArray⟩,.slice fo f.kids.length fc,.slice co cl.length cc] 54)).heap[wr.heap.size]? = some (.cells #[.string ⟨r.1.toArray⟩,.string ⟨r.2.toArray⟩,.int .i64 f.op,.int .i64 f.k,.string ⟨f.r.1.toArray⟩,.string ⟨f.r.2.toArray⟩,.slice fo f.kids.length fc,.slice co cl.length cc] 54 (0,0)):=heap_alloc_new wr _
     have hcA:=alc wr (.cells #[.string ⟨r.1.toArray⟩,.string ⟨r.2.toArray⟩,.int .i64 f.op,.int .i64 f.k,.string ⟨f.r.1.toArray⟩,.string ⟨f.r.2.toArray⟩,.slice fo f.kids.length fc,.slice co cl.length cc] 54)
     have HT:Hid ((wr.alloc (.cells #[.string ⟨r.1.toArray⟩,.string ⟨r.2.toArray⟩,.int .i64 f.op,.int .i64 f.k,.string ⟨f.r.1.toArray⟩,.string ⟨f.r.2.toArray⟩,.slice fo f.kids.length fc,.slice co cl.length cc] 54)).heap[wr.heap.size]? = some (.cells #[.string ⟨r.1.toArray⟩,.string ⟨r.2.toArray⟩,.int .i64 f.op,.int .i64 f.k,.string ⟨f.r.1.toArray⟩,.string ⟨f.r.2.toArray⟩,.slice fo f.kids.length fc,.slice co cl.length cc] 54 (0,0))∧True):=hid ⟨hSb,trivial⟩
     have HM:=hid (aI (hks.keep hcA (fun _ _=>id)) (aI hok hz))
     have HS:=hid (hcr.keep hcA (fun _ _=>id))
     have HC2:=hid (hc.out.trans hcA (fun _ _ h=>h))
     have HRL:=hid (aI hr1 hr2)
     clear hSb hcA hc hfm hok hz hks hcr htl hcz
     subst hao
     go_wp2_with fail
     clear a0 a1 a7 f0 f1 f2 f3 f4
     generalize (wr.alloc (.cells #[.string ⟨r.1.toArray⟩,.string ⟨r.2.toArray⟩,.int .i64 f.op,.int .i64 f.k,.string ⟨f.r.1.toArray⟩,.string ⟨f.r.2.toArray⟩,.slice fo f.kids.length fc,.slice co cl.length cc] 54))=w3 at *
     generalize wr.heap.size=X at *
     refine wp_region_specsE (gg10 X m tcl r f fo fc cl co cc) [38,39,40,41,42,43,44,45,46,47,48,49,50,51,52,53,54,55,56,57,58,3] [7] 3 (.int .i64 m) (by kernel_rfl) (by kernel_rfl) (by rfl) (by rfl) (by kernel_rfl) ?start10 ?obs10 ?fin10
     case start10=>
      simp only[List.forall_mem_cons];exact⟨⟨_,rfl,rfl⟩,fun _ h=>by cases h⟩
     case obs10=>
      refine ObsE.cons none (by kernel_rfl) ?_ ?_
      ·refine ObE.plain fun a w hR hk K k9=>?_
       obtain⟨_,e3,f3⟩:=hk 3 (by decide)
       clear hk
       go_simp
       exact k9 _ _ R0 f3
      refine ObsE.cons none (by kernel_rfl) ?_ ?_
      ·refine ObE.plain fun a w hR hk K k9=>?_
       obtain⟨_,e7,rfl⟩:=hk 7 (by decide)
       clear hk
       go_simp
       exact k9 _ _ R0 rfl
      refine ObsE.cons none (by kernel_rfl) ?_ ?_
      ·refine ObE.plain fun a w hR hk K k9=>?_
       obtain⟨_,e39,rfl⟩:=hk 39 (by decide)
       clear hk
       go_simp
       exact k9 _ _ R0 rfl
      refine ObsE.cons none (by kernel_rfl) ?_ ?_
      ·refine ObE.plain fun a w hR hk K k9=>?_
       obtain⟨_,e40,rfl⟩:=hk 40 (by decide)
       clear hk
       obtain⟨z0,z1,z2,z3,z4,z5,z6,z7⟩:=ak_blk (bE HT.out.1 hR id)
       go_simp
       exact k9 _ _ R0 rfl
      refine ObsE.cons none (by kernel_rfl) ?_ ?_
      ·refine ObE.plain fun a w hR hk K k9=>?_
       obtain⟨_,e41,rfl⟩:=hk 41 (by decide)
       clear hk
       go_simp
       exact k9 _ _ R0 rfl
      refine ObsE.cons none (by kernel_rfl) ?_ ?_
      ·refine ObE.plain fun a w hR hk K k9=>?_
       obtain⟨_,e7,rfl⟩:=hk 7 (by decide)
       clear hk
       go_simp
       exact k9 _ _ R0 rfl
      refine ObsE.cons none (by kernel_rfl) ?_ ?_
      ·refine ObE.plain fun a w hR hk K k9=>?_
       obtain⟨_,e43,rfl⟩:=hk 43 (by decide)
       clear hk
       go_simp
       exact k9 _ _ R0 rfl
      refine ObsE.cons none (by kernel_rfl) ?_ ?_
      ·refine ObE.plain fun a w hR hk K k9=>?_
       obtain⟨_,e44,rfl⟩:=hk 44 (by decide)
       clear hk
       obtain⟨z0,z1,z2,z3,z4,z5,z6,z7⟩:=ak_blk (bE HT.out.1 hR id)
       go_simp
       exact k9 _ _ R0 rfl
      refine ObsE.cons none (by kernel_rfl) ?_ ?_
      ·refine ObE.plain fun a w hR hk K k9=>?_
       obtain⟨_,e45,rfl⟩:=hk 45 (by decide)
       clear hk
       go_simp
       exact k9 _ _ R0 rfl
      refine ObsE.cons none (by kernel_rfl) ?_ ?_
      ·refine ObE.plain fun a w hR hk K k9=>?_
       obtain⟨_,e42,rfl⟩:=hk 42 (by decide)
       obtain⟨_,e46,rfl⟩:=hk 46 (by decide)
       clear hk
       have e1:IntKind.i64.wrap (((r.1.length:Nat):Int)+((r.2.length:Nat):Int))=((r.1.length+r.2.length:Nat):Int):=by rw[IntKind.wrap_i64];have:=HB.out;omega
       go_simp
       exact k9 _ _ R0 (by first|rfl|(show Value.int _ _=Value.int _ _;first|exact congrArg _ e1|(simp only[Int.natCast_add,Int.natCast_mul]at e1 ⊢;first|exact congrArg _ e1|rw[e1])))
      refine ObsE.cons none (by kernel_rfl) ?_ ?_
      ·refine ObE.plain fun a w hR hk K k9=>?_
       obtain⟨_,e7,rfl⟩:=hk 7 (by decide)
       clear hk
       go_simp
       exact k9 _ _ R0 rfl
      refine ObsE.cons none (by kernel_rfl) ?_ ?_
      ·refine ObE.plain fun a w hR hk K k9=>?_
       obtain⟨_,e48,rfl⟩:=hk 48 (by decide)
       clear hk
       obtain⟨z0,z1,z2,z3,z4,z5,z6,z7⟩:=ak_blk (bE HT.out.1 hR id)
       go_simp
       exact k9 _ _ R0 rfl
      refine ObsE.cons none (by kernel_rfl) ?_ ?_
      ·refine ObE.plain fun a w hR hk K k9=>?_
       obtain⟨_,e49,rfl⟩:=hk 49 (by decide)
       clear hk
       have hb:=heap_alloc_new w (.cells #[.int .i64 f.op,.int .i64 f.k,.string ⟨f.r.1.toArray⟩,.string ⟨f.r.2.toArray⟩,.slice fo f.kids.length fc] 46)
       have hc:=alc w (.cells #[.int .i64 f.op,.int .i64 f.k,.string ⟨f.r.1.toArray⟩,.string ⟨f.r.2.toArray⟩,.slice fo f.kids.length fc] 46)
       go_simp
       exact k9 _ _ hc ⟨_,rfl,hb⟩
      refine ObsE.cons none (by kernel_rfl) ?_ ?_
      ·refine ObE.plain fun a w hR hk K k9=>?_
       obtain⟨_,e50,f50⟩:=hk 50 (by decide)
       clear hk
       obtain⟨b9,rfl,hb9⟩:=f50
       have hq:=fm_great (D:=fun _=>True) (n1+1) (some ⟨b9,0,none⟩) 1 [f] w (by rw[greatL_one];have:=HB.out;omega) (fms_one9 hb9 (HM.out.1.keep hR (fun _ _=>id)) HM.out.2.1 HM.out.2.2)
       rw[greatL_one]at hq
       go_simp
       refine hq.mono ?_
       rintro e w2 ⟨rfl,hc⟩
       exact k9 _ _ hc rfl
      refine ObsE.cons none (by kernel_rfl) ?_ ?_
      ·refine ObE.plain fun a w hR hk K k9=>?_
       obtain⟨_,e51,rfl⟩:=hk 51 (by decide)
       clear hk
       have e1:IntKind.i64.wrap (20*((greatF f:Nat):Int))=((20*greatF f:Nat):Int):=by rw[IntKind.wrap_i64];have:=HB.out;omega
       go_simp
       exact k9 _ _ R0 (by first|rfl|(show Value.int _ _=Value.int _ _;first|exact congrArg _ e1|(simp only[Int.natCast_add,Int.natCast_mul]at e1 ⊢;first|exact congrArg _ e1|rw[e1])))
      refine ObsE.cons none (by kernel_rfl) ?_ ?_
      ·refine ObE.plain fun a w hR hk K k9=>?_
       obtain⟨_,e47,rfl⟩:=hk 47 (by decide)
       obtain⟨_,e52,rfl⟩:=hk 52 (by decide)
       clear hk
       have e1:IntKind.i64.wrap (((r.1.length+r.2.length:Nat):Int)+((20*greatF f:Nat):Int))=((r.1.length+r.2.length+20*greatF f:Nat):Int):=by rw[IntKind.wrap_i64];have:=HB.out;omega
       go_simp
       exact k9 _ _ R0 (by first|rfl|(show Value.int _ _=Value.int _ _;first|exact congrArg _ e1|(simp only[Int.natCast_add,Int.natCast_mul]at e1 ⊢;first|exact congrArg _ e1|rw[e1])))
      refine ObsE.cons none (by kernel_rfl) ?_ ?_
      ·refine ObE.plain fun a w hR hk K k9=>?_
       obtain⟨_,e7,rfl⟩:=hk 7 (by decide)
       clear hk
       go_simp
       exact k9 _ _ R0 rfl
      refine ObsE.cons none (by kernel_rfl) ?_ ?_
      ·refine ObE.plain fun a w hR hk K k9=>?_
       obtain⟨_,e54,rfl⟩:=hk 54 (by decide)
       clear hk
       obtain⟨z0,z1,z2,z3,z4,z5,z6,z7⟩:=ak_blk (bE HT.out.1 hR id)
       go_simp
       exact k9 _ _ R0 rfl
      refine ObsE.cons none (by kernel_rfl) ?_ ?_
      ·refine ObE.plain fun a w hR hk K k9=>?_
       obtain⟨_,e55,rfl⟩:=hk 55 (by decide)
       clear hk
       have hq:=great_any co cc cl w (by have:=HGS.out;have:=HB.out;omega) (HS.out.keep hR (fun _ _=>id))
       rw[←HGS.out]at hq
       go_simp
       refine hq.mono ?_
       rintro e w2 ⟨rfl,hc⟩
       exact k9 _ _ hc rfl
      refine ObsE.cons none (by kernel_rfl) ?_ ?_
      ·refine ObE.plain fun a w hR hk K k9=>?_
       obtain⟨_,e53,rfl⟩:=hk 53 (by decide)
       obtain⟨_,e56,rfl⟩:=hk 56 (by decide)
       clear hk
       have e1:IntKind.i64.wrap (((r.1.length+r.2.length+20*greatF f:Nat):Int)+((tcl:Nat):Int))=((r.1.length+r.2.length+20*greatF f+tcl:Nat):Int):=by rw[IntKind.wrap_i64];have:=HB.out;omega
       go_simp
       exact k9 _ _ R0 (by first|rfl|(show Value.int _ _=Value.int _ _;first|exact congrArg _ e1|(simp only[Int.natCast_add,Int.natCast_mul]at e1 ⊢;first|exact congrArg _ e1|rw[e1])))
      refine ObsE.cons none (by kernel_rfl) ?_ ?_
      ·refine ObE.plain fun a w hR hk K k9=>?_
       obtain⟨_,e38,rfl⟩:=hk 38 (by decide)
       obtain⟨_,e57,rfl⟩:=hk 57 (by decide)
       clear hk
       have e1:IntKind.i64.wrap (((m:Nat):Int)+((r.1.length+r.2.length+20*greatF f+tcl:Nat):Int))=((m+(r.1.length+r.2.length+20*greatF f+tcl):Nat):Int):=by rw[IntKind.wrap_i64];have:=HB.out;omega
       go_simp
       exact k9 _ _ R0 (by first|rfl|(show Value.int _ _=Value.int _ _;first|exact congrArg _ e1|(simp only[Int.natCast_add,Int.natCast_mul]at e1 ⊢;first|exact congrArg _ e1|rw[e1])))
      refine ObsE.cons none (by kernel_rfl) ?_ ?_
      ·refine ObE.plain fun a w hR hk K k9=>?_
       obtain⟨_,e58,f58⟩:=hk 58 (by decide)
       clear hk
       go_simp
       exact k9 _ _ R0 f58
      exact ObsE.nil
     case fin10=>
      intro vals w9 hc9 hv
      have h3:vals 3 = .int .i64 (m+(r.1.length+r.2.length+20*greatF f+tcl):Nat):=hv 3 (by decide)
      have HC9:=hid (HC2.out.trans hc9 (fun _ _ h=>h))
      simp only[putAll,List.setIfInBounds_toArray,List.set_cons_zero,List.set_cons_succ,h3]
      clear hv h3 hc9
      go_wp2
      go_roundw
      case rel=>exact⟨k+1,m+(r.1.length+r.2.length+20*greatF f+tcl),by have:=HKL.out;omega,by go_num,rfl,HNX,hsz,HC9⟩
      case measure=>have:=HKL.out;simp [intOf];omega
    ·have hk2:k=p.acks.length:=by omega
     have hx:m=N0+(gsum p.creds+asum p.acks):=by have:=hm.out;rw[hk2,List.take_length]at this;omega
     subst hx
     clear hm
     go_wp2
     go_ret
     refine⟨?_,HC0.out.trans hc.out (fun _ _ h=>h)⟩
     rw[←HN0.out]
     rfl
end Go.Proofs.YtkfinhpfdcjoeaaGreat
