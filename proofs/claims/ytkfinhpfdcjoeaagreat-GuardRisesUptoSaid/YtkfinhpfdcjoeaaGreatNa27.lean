/- Texts that the proof leans on, in one: PcHas, GgLocks. -/
import Derived.Test.YtkfinhpfdcjoeaaGreatNa26
import Derived.Test.YtkfinhpfdcjoeaaGreatNa3
/- Is a credential in a list: slices.Index and slices.Contains at credentials; cred.Has. -/
namespace Go.Proofs.YtkfinhpfdcjoeaaGreat
section
open Go.RowKit
def indexSpecs (A b o k n cp:Nat) (ao:Option Addr) (q c:CredB):List Spec:=[.eq (.slice ao n cp),.any,.any,.eq (.pointer (some ⟨A,0,none⟩)),.any,.eq (.int .i64 k),.any,.any,.any,.any,.any,.eq (credV c),.eq (.slice ao n cp),.eq (.int .i64 k),.eq (.pointer (some ⟨b,o,none⟩)),.eq (credV q),.eq (.bool (eqC c q))]
set_option maxRecDepth 100000 in
set_option maxHeartbeats 1000000 in
theorem pcindex {D:Nat→Prop} (ao:Option Addr) (cp:Nat) (ls:List CredB) (c:CredB) (w:World) (hn:ls.length≤4194304) (h:CredsAt D w ao ls) :
  Calls Tryz.prog 100 #[.slice ao ls.length cp,credV c] w fun e w'=>(∃i:Int,e = .returned (.int .i64 i)∧decide (0≤i)=hasC ls c)∧Chg (fun _=>False) w w':=by
 have hc:=alc w (.cells (credBox c) 34)
 have hA:=heap_alloc_new w (.cells (credBox c) 34)
 have h':=h.keep hc (fun _ _=>id)
 show Calls Tryz.prog 100 #[.slice ao ls.length cp,.agg #[.int .i64 c.kind,.string ⟨c.head.1.toArray⟩,.string ⟨c.head.2.toArray⟩,.string ⟨c.who.toArray⟩,.string ⟨c.b.1.toArray⟩,.string ⟨c.b.2.toArray⟩,.string ⟨c.c.1.toArray⟩,.string ⟨c.c.2.toArray⟩,.string ⟨c.w2.toArray⟩]] w _
 simp only[credBox]at hc hA h'
 go_enter Tryz.func100,Tryz.ntmps100
 go_wp2
 generalize hw1:w.alloc (.cells #[.int .i64 c.kind,.string ⟨c.head.1.toArray⟩,.string ⟨c.head.2.toArray⟩,.string ⟨c.who.toArray⟩,.string ⟨c.b.1.toArray⟩,.string ⟨c.b.2.toArray⟩,.string ⟨c.c.1.toArray⟩,.string ⟨c.c.2.toArray⟩,.string ⟨c.w2.toArray⟩] 34)=w1 at *
 generalize w.heap.size=A at *
 clear h hw1
 go_loopw [8] (fun i wr=>∃k:Nat,k≤ls.length∧i = .int .i64 k∧Hid (hasC (ls.take k) c=false)∧Chg (fun _=>False) w1 wr) (fun i _=>ls.length-(intOf i).toNat)
 case atStart=>exact⟨0,Nat.zero_le _,rfl,by rw[List.take_zero];rfl,Chg.refl _ _⟩
 case round=>
  obtain⟨k,hk,rfl,hf,hc1⟩:=hrel
  have hA1:=cred_at_blk (c:=c) (bE hA hc1 id)
  by_cases hlt:k<ls.length
  ·obtain⟨b,off,rfl,_,hat,_⟩:=(h'.keep hc1 (fun _ _=>id)) k hlt
   have HFT:=hid (hasC_take ls c k hlt hf.out)
   have hmem:Hid (ls[k]∈ls):=hid (List.getElem_mem hlt)
   have HX:=hid (aI hA1 hat)
   have HC:=hid (aI hc hc1)
   clear h' hA1 hat hc hc1 hA hf
   generalize ls[k]=q at *
   go_wp2
   refine wp_region_specs (indexSpecs A b (off+k*9) k ls.length cp (some ⟨b,off,none⟩) q c) [11,12,13,14,15,16] [0,3,5] (by kernel_rfl) (by kernel_rfl) (by rfl) (by kernel_rfl) ?start ?obs ?fin
   case start=>
    simp only[List.forall_mem_cons]
    exact⟨⟨_,rfl,rfl⟩,⟨_,rfl,rfl⟩,⟨_,rfl,rfl⟩,fun _ h=>by cases h⟩
   case obs=>
    clear HC HFT hmem
    refine Obs.cons none (by kernel_rfl) ?_ ?_
    ·refine Ob.plain fun a w hR hk K k9=>?_
     obtain⟨_,e3,rfl⟩:=hk 3 (by decide)
     clear hk
     obtain⟨HA,HB⟩:=HX.out
     obtain⟨a0,a1,a2,a3,a4,a5,a6,a7,a8⟩:=HA.keep hR id
     simp only[Nat.zero_add]at a0 a1 a2 a3 a4 a5 a6 a7 a8
     clear HA HB
     go_simp
     exact k9 _ _ R0 rfl
    refine Obs.cons none (by kernel_rfl) ?_ ?_
    ·refine Ob.plain fun a w hR hk K k9=>?_
     obtain⟨_,e0,f0⟩:=hk 0 (by decide)
     clear hk
     go_simp
     exact k9 _ _ R0 f0
    refine Obs.cons none (by kernel_rfl) ?_ ?_
    ·refine Ob.plain fun a w hR hk K k9=>?_
     obtain⟨_,e5,f5⟩:=hk 5 (by decide)
     clear hk
     go_simp
     exact k9 _ _ R0 f5
    refine Obs.cons none (by kernel_rfl) ?_ ?_
    ·refine Ob.plain fun a w hR hk K k9=>?_
     obtain⟨_,e12,rfl⟩:=hk 12 (by decide)
     obtain⟨_,e13,rfl⟩:=hk 13 (by decide)
     clear hk
     go_simp
     exact k9 _ _ R0 rfl
    refine Obs.cons none (by kernel_rfl) ?_ ?_
    ·refine Ob.plain fun a w hR hk K k9=>?_
     obtain⟨_,e14,rfl⟩:=hk 14 (by decide)
     clear hk
     obtain⟨HA,HB⟩:=HX.out
     obtain⟨a0,a1,a2,a3,a4,a5,a6,a7,a8⟩:=HB.keep hR id
     clear HA HB
     go_simp
     exact k9 _ _ R0 rfl
    refine Obs.cons none (by kernel_rfl) ?_ ?_
    ·refine Ob.plain fun a w hR hk K k9=>?_
     obtain⟨_,e11,rfl⟩:=hk 11 (by decide)
     obtain⟨_,e15,rfl⟩:=hk 15 (by decide)
     clear hk
     clear HX
     go_simp
     simp only[run_eqgC,run_eqlC,Result.andThen]
     go_simp
     exact k9 _ _ R0 rfl
    exact Obs.nil
   case fin=>
    intro vals w9 hc9 hv
    have h6:vals 16 = .bool (eqC c q):=hv 16 (by decide)
    have h5:vals 13 = .int .i64 k:=hv 13 (by decide)
    simp only[putAll,List.setIfInBounds_toArray,List.set_cons_zero,List.set_cons_succ,h6]
    have HC9:=hid (HC.out.2.trans hc9 (fun _ _ h=>h))
    have HW:=hid HC.out.1
    clear hc9 hv h6 h5 HC HX
    cases hq:eqC c q with
    | true=>
     have hh:Hid (hasC ls c=true):=hid (by rw[eqC_true.1 hq];simpa [hasC] using hmem.out)
     clear hq hmem HFT
     go_wp2
     go_ret
     exact⟨⟨_,rfl,by rw[hh.out];simp⟩,HW.out.trans HC9.out (fun _ _ h=>h)⟩
    | false=>
     have hx:Hid (hasC (ls.take (k+1)) c=false):=hid (HFT.out (fun e=>by rw[e]at hq;rw[eqC_true.2 rfl]at hq;cases hq))
     clear hq hmem HFT
     go_wp2
     go_roundw
     case rel=>exact⟨k+1,by omega,by go_num,hx,HC9.out⟩
     case measure=>simp [intOf];omega
  ·have hk2:k=ls.length:=by omega
   have hh:Hid (hasC ls c=false):=by have:=hf.out;rwa [List.take_of_length_le (by omega)]at this
   have HC:=hid (hc.trans hc1 (fun _ _ h=>h))
   clear h' hc hc1 hA hA1
   go_wp2
   go_ret
   exact⟨⟨-1,rfl,by rw[hh.out];rfl⟩,HC.out⟩
set_option maxRecDepth 100000 in
theorem pccontains {D:Nat→Prop} (ao:Option Addr) (cp:Nat) (ls:List CredB) (c:CredB) (w:World) (hn:ls.length≤4194304) (h:CredsAt D w ao ls) :
  Calls Tryz.prog 77 #[.slice ao ls.length cp,credV c] w fun e w'=>e = .returned (.bool (hasC ls c))∧Chg (fun _=>False) w w':=by
 have hc:=alc w (.cells (credBox c) 34)
 have hi:=pcindex ao cp ls c (w.alloc (.cells (credBox c) 34)) hn (h.keep hc (fun _ _=>id))
 have HH:=hid (aI hi hc)
 clear hi hc h
 show Calls Tryz.prog 77 #[.slice ao ls.length cp,.agg #[.int .i64 c.kind,.string ⟨c.head.1.toArray⟩,.string ⟨c.head.2.toArray⟩,.string ⟨c.who.toArray⟩,.string ⟨c.b.1.toArray⟩,.string ⟨c.b.2.toArray⟩,.string ⟨c.c.1.toArray⟩,.string ⟨c.c.2.toArray⟩,.string ⟨c.w2.toArray⟩]] w _
 go_enter Tryz.func77,Tryz.ntmps77
 go_wp2_with fail
 obtain⟨hi,hc⟩:=HH.out
 refine hi.mono ?_
 rintro e w' ⟨⟨i,rfl,hi2⟩,hc2⟩
 have HC:=hid (hc.trans hc2 (fun _ _ h=>h))
 have H2:=hid hi2
 clear HH hi hc hc2 hi2
 go_wp2
 go_ret
 exact⟨congrArg (fun b=>Ending.returned (.bool b)) H2.out,HC.out⟩
set_option maxRecDepth 100000 in
theorem pchas {D:Nat→Prop} (ao:Option Addr) (cp:Nat) (ls:List CredB) (c:CredB) (w:World) (hn:ls.length≤4194304) (_:credShort c 1048576) (h:CredsAt D w ao ls) :
  Calls Tryz.prog 56 #[.slice ao ls.length cp,credV c] w fun e w'=>e = .returned (.bool (hasC ls c))∧Chg (fun _=>False) w w':=by
 have hc:=alc w (.cells (credBox c) 34)
 have hi:=pccontains ao cp ls c (w.alloc (.cells (credBox c) 34)) hn (h.keep hc (fun _ _=>id))
 have HH:=hid (aI hi hc)
 clear hi hc h
 show Calls Tryz.prog 56 #[.slice ao ls.length cp,.agg #[.int .i64 c.kind,.string ⟨c.head.1.toArray⟩,.string ⟨c.head.2.toArray⟩,.string ⟨c.who.toArray⟩,.string ⟨c.b.1.toArray⟩,.string ⟨c.b.2.toArray⟩,.string ⟨c.c.1.toArray⟩,.string ⟨c.c.2.toArray⟩,.string ⟨c.w2.toArray⟩]] w _
 go_enter Tryz.func56,Tryz.ntmps56
 go_wp2_with fail
 obtain⟨hi,hc⟩:=HH.out
 refine hi.mono ?_
 rintro e w' ⟨rfl,hc2⟩
 have HC:=hid (hc.trans hc2 (fun _ _ h=>h))
 clear HH hi hc hc2
 go_wp2
 go_ret
 exact⟨rfl,HC.out⟩
end
section
open Go.RowKit
theorem mem_le_sum {α:Type} (f:α→Nat):∀(l:List α) {a:α},a∈l→f a≤(l.map f).sum
 | [],_,h=>by cases h
 | x::l,a,h=>by
  simp only[List.map_cons,List.sum_cons]
  rcases List.mem_cons.1 h with rfl|h
  ·omega
  ·have:=mem_le_sum f l h;omega
theorem gp_acks {p:PartyB} (h:greatP p≤4000):p.acks.length≤4000∧p.creds.length≤4000∧∀a∈p.acks,a.clo.length≤4000∧greatF a.rel≤200:=by
 have h9:greatP p=p.name.length+(gsum p.creds+asum p.acks):=rfl
 have h1:=gsum_len p.creds
 have h2:=asum_len p.acks
 refine⟨by omega,by omega,fun a ha=>?_⟩
 have h3:a.role.1.length+a.role.2.length+20*greatF a.rel+totalC a.clo≤asum p.acks:=by
  unfold asum
  exact mem_le_sum (fun a:AkB=>a.role.1.length+a.role.2.length+20*greatF a.rel+totalC a.clo) p.acks ha
 have h4:=totalC_len a.clo
 omega
theorem gp_creds {p:PartyB} (h:greatP p≤4000):∀x∈p.creds,greatF x.rel≤200∧sizeS x.sign≤4000:=by
 have h9:greatP p=p.name.length+(gsum p.creds+asum p.acks):=rfl
 intro x hx
 have h3:sizeS x.sign+20*greatF x.rel≤gsum p.creds:=by
  unfold gsum
  exact mem_le_sum (fun x:GdB=>sizeS x.sign+20*greatF x.rel) p.creds hx
 omega
theorem PartyAt.roles {D:Nat→Prop} {w:World} {n:Nat} {p:PartyB} {po:Option Addr} {pc:Nat} {ao:Option Addr} {ac:Nat} (h:PartyAt D w n p po pc ao ac) (c:CredB):∀r∈acksB p c,r.1.length≤9223372036854775807∧r.2.length≤9223372036854775807:=fun r hr=>by
 obtain⟨a,ha,rfl⟩:=List.mem_map.1 hr
 obtain⟨i,hi,rfl⟩:=List.getElem_of_mem (List.mem_filter.1 ha).1
 obtain⟨b,off,_,_,h1⟩:=h.aks i hi
 exact⟨h1.ro.2.2.1,h1.ro.2.2.2⟩
theorem AksAt.mono {D E:Nat→Prop} {w:World} {n:Nat} {ao:Option Addr} {ls:List AkB} (h:AksAt D w n ao ls) (hD:∀i,D i→E i):AksAt E w n ao ls:=fun i hi=>by
 obtain⟨b,off,h1,h2,h3,h4,co,cc,h5,h6,h7⟩:=h i hi
 exact⟨b,off,h1,hD b h2,h3,h4.mono hD,co,cc,h5,h6,h7.mono hD⟩
theorem map_snoc {xs:List AkW} {l:List AkB} {x:AkW} (h:xs.map (·.a)=l):(xs++[x]).map (·.a)=l++[x.a]:=by rw[List.map_append,h];rfl
/-- The locks, told. -/
def LocksPost (D:Nat→Prop) (n:Nat) (p:PartyB) (c:CredB) (w:World) (e:Ending) (w':World):Prop:=∃lo lc,e = .returned (.slice lo (locksB p c).length lc)∧AksAt (fun k=>D k∨(w.heap.size≤k∧k<w'.heap.size)) w' n lo (locksB p c)∧Chg (fun _=>False) w w'
set_option maxRecDepth 100000 in
set_option maxHeartbeats 4000000 in
theorem gg_locks {D:Nat→Prop} (n:Nat) (p:PartyB) (po:Option Addr) (pc:Nat) (ao:Option Addr) (ac:Nat) (c:CredB) (w:World) (hp:PartyAt D w n p po pc ao ac) (hg:greatP p≤4000) (hc:credShort c 20000) :
  Calls Tryz.prog 27 #[.agg #[.string ⟨p.name.toArray⟩,.slice po p.creds.length pc,.slice ao p.acks.length ac],.agg #[.int .i64 c.kind,.string ⟨c.head.1.toArray⟩,.string ⟨c.head.2.toArray⟩,.string ⟨c.who.toArray⟩,.string ⟨c.b.1.toArray⟩,.string ⟨c.b.2.toArray⟩,.string ⟨c.c.1.toArray⟩,.string ⟨c.c.2.toArray⟩,.string ⟨c.w2.toArray⟩]] w (LocksPost D n p c w):=by
 have hs1:(w.alloc (.cells #[.string ⟨p.name.toArray⟩,.slice po p.creds.length pc,.slice ao p.acks.length ac] 25)).heap.size=w.heap.size+1:=by simp
 have k1:=alc w (.cells #[.string ⟨p.name.toArray⟩,.slice po p.creds.length pc,.slice ao p.acks.length ac] 25)
 have k2:=alc (w.alloc (.cells #[.string ⟨p.name.toArray⟩,.slice po p.creds.length pc,.slice ao p.acks.length ac] 25)) (.cells #[.int .i64 c.kind,.string ⟨c.head.1.toArray⟩,.string ⟨c.head.2.toArray⟩,.string ⟨c.who.toArray⟩,.string ⟨c.b.1.toArray⟩,.string ⟨c.b.2.toArray⟩,.string ⟨c.c.1.toArray⟩,.string ⟨c.c.2.toArray⟩,.string ⟨c.w2.toArray⟩] 34)
 have hP:=bE (heap_alloc_new w (.cells #[.string ⟨p.name.toArray⟩,.slice po p.creds.length pc,.slice ao p.acks.length ac] 25)) k2 id
 have hC:=heap_alloc_new (w.alloc (.cells #[.string ⟨p.name.toArray⟩,.slice po p.creds.length pc,.slice ao p.acks.length ac] 25)) (.cells #[.int .i64 c.kind,.string ⟨c.head.1.toArray⟩,.string ⟨c.head.2.toArray⟩,.string ⟨c.who.toArray⟩,.string ⟨c.b.1.toArray⟩,.string ⟨c.b.2.toArray⟩,.string ⟨c.c.1.toArray⟩,.string ⟨c.c.2.toArray⟩,.string ⟨c.w2.toArray⟩] 34)
 rw[hs1]at hC
 have HB:=hid (aI hP (aI hC (k1.trans k2 (fun _ _ h=>h))))
 have HP:=hid hp
 have hgp:=gp_acks hg
 have HGP:=hid hgp
 have hla:=hgp.1
 have HCS:=hid hc
 have y0:=bC (hP) 0
 have y1:=bC (hP) 1
 have y2:=bC (hP) 2
 simp only[lA,lZ,lS]at y0 y1 y2
 clear hs1 k1 k2 hP hC hp hgp hc
 go_enter Tryz.func27,Tryz.ntmps27
 go_wp2
 clear y0 y1 y2
 obtain⟨w2,hw2⟩:∃W,W=((w.alloc (.cells #[.string ⟨p.name.toArray⟩,.slice po p.creds.length pc,.slice ao p.acks.length ac] 25)).alloc (.cells #[.int .i64 c.kind,.string ⟨c.head.1.toArray⟩,.string ⟨c.head.2.toArray⟩,.string ⟨c.who.toArray⟩,.string ⟨c.b.1.toArray⟩,.string ⟨c.b.2.toArray⟩,.string ⟨c.c.1.toArray⟩,.string ⟨c.c.2.toArray⟩,.string ⟨c.w2.toArray⟩] 34)):=⟨_,rfl⟩
 rw[←hw2]at HB ⊢
 obtain⟨Pb,hPb⟩:∃X,X=w.heap.size:=⟨_,rfl⟩
 obtain⟨Cb,hCb⟩:∃X,X=w.heap.size+1:=⟨_,rfl⟩
 rw[←hCb,←hPb]at HB ⊢
 have HLT:=hid (fun i hi=>Nat.lt_of_lt_of_le (HP.out.lt i hi) HB.out.2.2.size)
 clear hw2 hPb hCb
 go_loopw [5,11] (fun v i wr=>∃(k:Nat) (u:Value) (xs:List AkW),k≤p.acks.length∧i = .int .i64 k∧v=u∧Hid (OwnAk w2.heap.size wr u xs∧xs.map (·.a)=locksTo p c k∧(∀x∈xs,x.Ok D wr n)∧Chg (fun _=>False) w2 wr)) (fun _ i _=>p.acks.length-(intOf i).toNat)
 case atStart=>exact⟨0,_,[],Nat.zero_le _,rfl,rfl,hid ⟨OwnAk.nil _ _,rfl,fun _ h=>(by cases h),Chg.refl _ _⟩⟩
 case round=>
  obtain⟨k,u,xs,hk,rfl,hu,hrel⟩:=hrel
  by_cases hlt:k<p.acks.length
  ·have hcw:=HB.out.2.2.trans hrel.out.2.2.2 (fun _ _ h=>h)
   obtain⟨b,off,hao,_,⟨⟨a0,a1,hr1,hr2⟩,hfm,⟨co,cc,a7,hcz,hcr⟩⟩⟩:=(HP.out.aks.keep hcw (fun _ _=>id)) k hlt
   have hcl:(p.acks[k]).clo.length≤4000:=(HGP.out.2.2 _ (List.getElem_mem hlt)).1
   have HY:Hid (c∈(p.acks[k]).clo→locksTo p c (k+1)=locksTo p c k++[p.acks[k]]):=hid (locksTo_yes hlt)
   have HN:Hid (¬c∈(p.acks[k]).clo→locksTo p c (k+1)=locksTo p c k):=hid (locksTo_no hlt)
   have HLN:Hid (xs.length≤4000):=hid (by have:=locksTo_len p c k;rw[←hrel.out.2.1,List.length_map]at this;omega)
   generalize p.acks[k]=x at *
   obtain⟨r,f,cl⟩:=x
   obtain⟨n1,fo,fc,hn1,⟨f0,f1,f2,f3,f4⟩,hfo,hfz,hfk⟩:=hfm.open_
   change wr.cell? ⟨b,off+k*8+3,none⟩=_ at f1
   change wr.cell? ⟨b,off+k*8+4,none⟩=_ at f2
   change wr.cell? ⟨b,off+k*8+5,none⟩=_ at f3
   change wr.cell? ⟨b,off+k*8+6,none⟩=_ at f4
   simp only[]at a0 a1 a7 hr1 hr2 hcr f0 f1 f2 f3 f4 hcl HY HN hfo hfk
   have hcA:=alc wr (.cells #[.string ⟨r.1.toArray⟩,.string ⟨r.2.toArray⟩,.int .i64 f.op,.int .i64 f.k,.string ⟨f.r.1.toArray⟩,.string ⟨f.r.2.toArray⟩,.slice fo f.kids.length fc,.slice co cl.length cc] 54)
   have hX:=heap_alloc_new wr (.cells #[.string ⟨r.1.toArray⟩,.string ⟨r.2.toArray⟩,.int .i64 f.op,.int .i64 f.k,.string ⟨f.r.1.toArray⟩,.string ⟨f.r.2.toArray⟩,.slice fo f.kids.length fc,.slice co cl.length cc] 54)
   obtain⟨z0,z1,z2,z3,z4,z5,z6,z7⟩:=ak_blk hX
   have hCw:=bE HB.out.2.1 (hrel.out.2.2.2.trans hcA (fun _ _ h=>h)) id
   have q0:=bC (hCw) 0
   have q1:=bC (hCw) 1
   have q2:=bC (hCw) 2
   have q3:=bC (hCw) 3
   have q4:=bC (hCw) 4
   have q5:=bC (hCw) 5
   have q6:=bC (hCw) 6
   have q7:=bC (hCw) 7
   have q8:=bC (hCw) 8
   simp only[lA,lZ,lS]at q0 q1 q2 q3 q4 q5 q6 q7 q8
   have HQ:=hid (pchas co cc cl c (wr.alloc (.cells #[.string ⟨r.1.toArray⟩,.string ⟨r.2.toArray⟩,.int .i64 f.op,.int .i64 f.k,.string ⟨f.r.1.toArray⟩,.string ⟨f.r.2.toArray⟩,.slice fo f.kids.length fc,.slice co cl.length cc] 54)) (by omega) (HCS.out.mono' (by decide)) (hcr.keep hcA (fun _ _=>id)))
   unfold credV credBox at HQ
   have HOK:Hid (AkW.Ok D (wr.alloc (.cells #[.string ⟨r.1.toArray⟩,.string ⟨r.2.toArray⟩,.int .i64 f.op,.int .i64 f.k,.string ⟨f.r.1.toArray⟩,.string ⟨f.r.2.toArray⟩,.slice fo f.kids.length fc,.slice co cl.length cc] 54)) n ⟨⟨r,f,cl⟩,fo,fc,co,cc⟩):=hid (AkW.Ok.keep (w:=wr) ⟨hr1,hr2,⟨n1,hn1,hfk⟩,hfo,hfz,hcr,hcz⟩ hcA (fun _ _=>id))
   have HX:=hid (aI hX (aI (OwnAk.keep hrel.out.1 hcA (fun _ _ _=>id)) (hrel.out.2.2.2.trans hcA (fun _ _ h=>h))))
   have HXS:Hid (xs.map (·.a)=locksTo p c k∧∀x∈xs,x.Ok D (wr.alloc (.cells #[.string ⟨r.1.toArray⟩,.string ⟨r.2.toArray⟩,.int .i64 f.op,.int .i64 f.k,.string ⟨f.r.1.toArray⟩,.string ⟨f.r.2.toArray⟩,.slice fo f.kids.length fc,.slice co cl.length cc] 54)) n):=hid ⟨hrel.out.2.1,fun x hx=>(hrel.out.2.2.1 x hx).keep hcA (fun _ _=>id)⟩
   clear hcA hX hCw hrel hcw hfm hcz hcr hr1 hr2 hfk hfo hfz hn1
   subst hao
   go_wp2_with fail
   refine HQ.out.mono ?_
   rintro e w5 ⟨rfl,hc5⟩
   have hX5:=bE HX.out.1 hc5 id
   have HX5:=hid (aI (OwnAk.keep HX.out.2.1 hc5 (fun _ _ _=>id)) (aI (HX.out.2.2.trans hc5 (fun _ _ h=>h)) (aI (HOK.out.keep hc5 (fun _ _=>id)) (fun x hx=>(HXS.out.2 x hx).keep hc5 (fun _ _=>id)))))
   obtain⟨Xb,hXb⟩:∃X,X=wr.heap.size:=⟨_,rfl⟩
   rw[←hXb]at hX5 ⊢
   clear hXb
   clear a0 a1 a7 f0 f1 f2 f3 f4 z0 z1 z2 z3 z4 z5 z6 z7 q0 q1 q2 q3 q4 q5 q6 q7 q8 HQ HX HOK
   by_cases hin:c∈cl
   ·have hh:hasC cl c=true:=by unfold hasC;simp [hin]
    rw[hh]
    obtain⟨z0,z1,z2,z3,z4,z5,z6,z7⟩:=ak_blk hX5
    have hAR:=alc w5 (.cells #[.string ⟨r.1.toArray⟩,.string ⟨r.2.toArray⟩,.int .i64 f.op,.int .i64 f.k,.string ⟨f.r.1.toArray⟩,.string ⟨f.r.2.toArray⟩,.slice fo f.kids.length fc,.slice co cl.length cc] 54)
    have HRO:=hid (heap_alloc_new w5 (.cells #[.string ⟨r.1.toArray⟩,.string ⟨r.2.toArray⟩,.int .i64 f.op,.int .i64 f.k,.string ⟨f.r.1.toArray⟩,.string ⟨f.r.2.toArray⟩,.slice fo f.kids.length fc,.slice co cl.length cc] 54))
    have HOW:Hid (OwnAk w2.heap.size (w5.alloc (.cells #[.string ⟨r.1.toArray⟩,.string ⟨r.2.toArray⟩,.int .i64 f.op,.int .i64 f.k,.string ⟨f.r.1.toArray⟩,.string ⟨f.r.2.toArray⟩,.slice fo f.kids.length fc,.slice co cl.length cc] 54)) u xs):=hid (OwnAk.keep HX5.out.1 hAR (fun _ _ _=>id))
    have HSZ:Hid (w2.heap.size≤(w5.alloc (.cells #[.string ⟨r.1.toArray⟩,.string ⟨r.2.toArray⟩,.int .i64 f.op,.int .i64 f.k,.string ⟨f.r.1.toArray⟩,.string ⟨f.r.2.toArray⟩,.slice fo f.kids.length fc,.slice co cl.length cc] 54)).heap.size):=hid (HX5.out.2.1.trans hAR (fun _ _ h=>h)).size
    have HAR:=hid hAR
    have HLN2:Hid (xs.length≤1048576):=hid (by have:=HLN.out;omega)
    clear hh hX5 hAR
    subst hu
    go_wp2_with (at_builtin;refine wpList_append_ak rfl (.tmp 19) (.tmp 21) rfl w2.heap.size _ _ rfl HOW.out w5.heap.size ⟨⟨r,f,cl⟩,fo,fc,co,cc⟩ rfl HRO.out HLN2.out HSZ.out ?_)
    intro v' w7 ho7 hc7
    have hD7:∀i,D i→¬w2.heap.size≤i:=fun i hi h=>absurd (HLT.out i hi) (Nat.not_lt.2 h)
    have HW7:=hid (aI ho7 (aI ((HX5.out.2.1.trans HAR.out (fun _ _ h=>h)).trans hc7 (fun i hi h=>absurd hi (Nat.not_lt.2 h))) (aI ((HX5.out.2.2.1.keep HAR.out (fun _ _=>id)).keep hc7 hD7) (fun x hx=>((HX5.out.2.2.2 x hx).keep HAR.out (fun _ _=>id)).keep hc7 hD7))))
    clear ho7 hc7 z0 z1 z2 z3 z4 z5 z6 z7 hD7
    go_wp2
    go_roundw
    case rel=>
     refine⟨k+1,v',_,by omega,by go_num,rfl,hid ⟨HW7.out.1,?_,fun x hx=>?_,HW7.out.2.1⟩⟩
     ·rw[HY.out hin];exact map_snoc HXS.out.1
     ·rcases List.mem_append.1 hx with hx|hx
      ·exact HW7.out.2.2.2 x hx
      ·rw[List.mem_singleton.1 hx];exact HW7.out.2.2.1
    case measure=>simp [intOf];omega
   ·have hh:hasC cl c=false:=by unfold hasC;simp [hin]
    rw[hh]
    subst hu
    clear hh hX5
    go_wp2
    go_roundw
    case rel=>exact⟨k+1,_,xs,by omega,by go_num,rfl,hid ⟨HX5.out.1,by rw[HN.out hin];exact HXS.out.1,HX5.out.2.2.2,HX5.out.2.1⟩⟩
    case measure=>simp [intOf];omega
  ·have hk2:k=p.acks.length:=by omega
   have hcw:=HB.out.2.2.trans hrel.out.2.2.2 (fun _ _ h=>h)
   obtain⟨ro,rc,hv,hra,_⟩:=OwnAk.acks hrel.out.1 hrel.out.2.2.1
   have hm:=hrel.out.2.1
   rw[hk2,locksTo_all]at hm
   have hlen:xs.length=(locksB p c).length:=by rw[←hm,List.length_map]
   rw[hm]at hra
   have hra:=hra.mono (E:=fun k=>D k∨(w.heap.size≤k∧k<wr.heap.size)) (fun i hi=>hi.imp id fun h=>⟨by have:=HB.out.2.2.size;omega,h.2⟩)
   rw[hlen]at hv
   have HE:=hid (aI hra hcw)
   subst hu
   subst hv
   clear hrel hra hcw hm hlen
   go_wp2
   go_ret
   exact⟨_,_,rfl,HE.out.1,HE.out.2⟩
def rolesTo (L:List AkB) (k:Nat):List RoleB:=(L.take k).map (·.role)
theorem rolesTo_succ {L:List AkB} {k:Nat} (h:k<L.length):rolesTo L (k+1)=rolesTo L k++[(L[k]).role]:=by
 unfold rolesTo
 rw[List.take_succ_eq_append_getElem h,List.map_append]
 rfl
set_option maxRecDepth 100000 in
set_option maxHeartbeats 4000000 in
theorem gg_acks {D:Nat→Prop} (n:Nat) (p:PartyB) (po:Option Addr) (pc:Nat) (ao:Option Addr) (ac:Nat) (c:CredB) (w:World) (hp:PartyAt D w n p po pc ao ac) (hg:greatP p≤4000) (hc:credShort c 20000) :
  Calls Tryz.prog 10 #[.agg #[.string ⟨p.name.toArray⟩,.slice po p.creds.length pc,.slice ao p.acks.length ac],.agg #[.int .i64 c.kind,.string ⟨c.head.1.toArray⟩,.string ⟨c.head.2.toArray⟩,.string ⟨c.who.toArray⟩,.string ⟨c.b.1.toArray⟩,.string ⟨c.b.2.toArray⟩,.string ⟨c.c.1.toArray⟩,.string ⟨c.c.2.toArray⟩,.string ⟨c.w2.toArray⟩]] w fun e w'=>∃ro rc,e = .returned (.slice ro (acksB p c).length rc)∧RolesAt (fun k=>k<w'.heap.size) w' ro (acksB p c)∧Chg (fun _=>False) w w':=by
 have hs1:(w.alloc (.cells #[.string ⟨p.name.toArray⟩,.slice po p.creds.length pc,.slice ao p.acks.length ac] 25)).heap.size=w.heap.size+1:=by simp
 have k1:=alc w (.cells #[.string ⟨p.name.toArray⟩,.slice po p.creds.length pc,.slice ao p.acks.length ac] 25)
 have k2:=alc (w.alloc (.cells #[.string ⟨p.name.toArray⟩,.slice po p.creds.length pc,.slice ao p.acks.length ac] 25)) (.cells #[.int .i64 c.kind,.string ⟨c.head.1.toArray⟩,.string ⟨c.head.2.toArray⟩,.string ⟨c.who.toArray⟩,.string ⟨c.b.1.toArray⟩,.string ⟨c.b.2.toArray⟩,.string ⟨c.c.1.toArray⟩,.string ⟨c.c.2.toArray⟩,.string ⟨c.w2.toArray⟩] 34)
 have hP:=bE (heap_alloc_new w (.cells #[.string ⟨p.name.toArray⟩,.slice po p.creds.length pc,.slice ao p.acks.length ac] 25)) k2 id
 have hC:=heap_alloc_new (w.alloc (.cells #[.string ⟨p.name.toArray⟩,.slice po p.creds.length pc,.slice ao p.acks.length ac] 25)) (.cells #[.int .i64 c.kind,.string ⟨c.head.1.toArray⟩,.string ⟨c.head.2.toArray⟩,.string ⟨c.who.toArray⟩,.string ⟨c.b.1.toArray⟩,.string ⟨c.b.2.toArray⟩,.string ⟨c.c.1.toArray⟩,.string ⟨c.c.2.toArray⟩,.string ⟨c.w2.toArray⟩] 34)
 rw[hs1]at hC
 have HB:=hid (aI hP (aI hC (k1.trans k2 (fun _ _ h=>h))))
 have HP:=hid hp
 have hgp:=gp_acks hg
 have HGP:=hid hgp
 have hla:=hgp.1
 have HCS:=hid hc
 have y0:=bC (hP) 0
 have y1:=bC (hP) 1
 have y2:=bC (hP) 2
 simp only[lA,lZ,lS]at y0 y1 y2
 have q0:=bC (hC) 0
 have q1:=bC (hC) 1
 have q2:=bC (hC) 2
 have q3:=bC (hC) 3
 have q4:=bC (hC) 4
 have q5:=bC (hC) 5
 have q6:=bC (hC) 6
 have q7:=bC (hC) 7
 have q8:=bC (hC) 8
 simp only[lA,lZ,lS]at q0 q1 q2 q3 q4 q5 q6 q7 q8
 have HLK:=hid (gg_locks n p po pc ao ac c ((w.alloc (.cells #[.string ⟨p.name.toArray⟩,.slice po p.creds.length pc,.slice ao p.acks.length ac] 25)).alloc (.cells #[.int .i64 c.kind,.string ⟨c.head.1.toArray⟩,.string ⟨c.head.2.toArray⟩,.string ⟨c.who.toArray⟩,.string ⟨c.b.1.toArray⟩,.string ⟨c.b.2.toArray⟩,.string ⟨c.c.1.toArray⟩,.string ⟨c.c.2.toArray⟩,.string ⟨c.w2.toArray⟩] 34)) (hp.keep (k1.trans k2 (fun _ _ h=>h)) (fun _ _=>id)) hg hc)
 clear hs1 k1 k2 hP hC hp hgp hc
 obtain⟨L,hL⟩:∃L,L=locksB p c:=⟨_,rfl⟩
 have HL:=hid hL
 unfold LocksPost at HLK
 rw[←hL]at HLK
 have HLL:Hid (L.length≤4000):=hid (by rw[hL];have:=locks_len p c;omega)
 have HRS:Hid (∀r∈rolesTo L L.length,r.1.length≤9223372036854775807∧r.2.length≤9223372036854775807):=hid (by
  unfold rolesTo;rw[List.take_length,hL];exact HP.out.roles c)
 clear hL
 go_enter Tryz.func10,Tryz.ntmps10
 go_wp2_with fail
 refine HLK.out.mono ?_
 rintro e w3 ⟨lo,lc,rfl,hlk,hc3⟩
 have HLA:=hid hlk
 have HC3:=hid (HB.out.2.2.trans hc3 (fun _ _ h=>h))
 clear y0 y1 y2 q0 q1 q2 q3 q4 q5 q6 q7 q8 hlk hc3 HLK
 obtain⟨ln,hln⟩:∃ln,ln=L.length:=⟨_,rfl⟩
 rw[←hln]at HLL ⊢
 have hll:=HLL.out
 have HLN:=hid hln
 clear hln
 go_wp2
 go_loopw [5,12] (fun v i wr=>∃(k:Nat) (u:Value),k≤ln∧i = .int .i64 k∧v=u∧Hid (OwnR w3.heap.size wr u (rolesTo L k)∧Chg (fun _=>False) w3 wr)) (fun _ i _=>ln-(intOf i).toNat)
 case atStart=>exact⟨0,_,Nat.zero_le _,rfl,rfl,hid ⟨World.ownsRow_nil _ _ _ _,Chg.refl _ _⟩⟩
 case round=>
  obtain⟨k,u,hk,rfl,hu,hrel⟩:=hrel
  by_cases hlt:k<ln
  ·have hlt2:k<L.length:=by rw[←HLN.out];exact hlt
   obtain⟨b,off,hao,_,⟨⟨a0,a1,hr1,hr2⟩,hfm,⟨co,cc,a7,hcz,hcr⟩⟩⟩:=(HLA.out.keep hrel.out.2 (fun _ _=>id)) k hlt2
   have HY:Hid (rolesTo L (k+1)=rolesTo L k++[(L[k]).role]):=hid (rolesTo_succ hlt2)
   have HLR:Hid ((rolesTo L k).length≤4000):=hid (by unfold rolesTo;rw[List.length_map,List.length_take];omega)
   generalize L[k]=x at *
   clear hlt2
   obtain⟨r,f,cl⟩:=x
   obtain⟨n1,fo,fc,hn1,⟨f0,f1,f2,f3,f4⟩,hfo,hfz,hfk⟩:=hfm.open_
   change wr.cell? ⟨b,off+k*8+3,none⟩=_ at f1
   change wr.cell? ⟨b,off+k*8+4,none⟩=_ at f2
   change wr.cell? ⟨b,off+k*8+5,none⟩=_ at f3
   change wr.cell? ⟨b,off+k*8+6,none⟩=_ at f4
   simp only[]at a0 a1 a7 hr1 hr2 hcr f0 f1 f2 f3 f4 HY
   have hcA:=alc wr (.cells #[.string ⟨r.1.toArray⟩,.string ⟨r.2.toArray⟩,.int .i64 f.op,.int .i64 f.k,.string ⟨f.r.1.toArray⟩,.string ⟨f.r.2.toArray⟩,.slice fo f.kids.length fc,.slice co cl.length cc] 54)
   have hX:=heap_alloc_new wr (.cells #[.string ⟨r.1.toArray⟩,.string ⟨r.2.toArray⟩,.int .i64 f.op,.int .i64 f.k,.string ⟨f.r.1.toArray⟩,.string ⟨f.r.2.toArray⟩,.slice fo f.kids.length fc,.slice co cl.length cc] 54)
   obtain⟨z0,z1,z2,z3,z4,z5,z6,z7⟩:=ak_blk hX
   have hcR:Chg (fun _=>False) wr ((wr.alloc (.cells #[.string ⟨r.1.toArray⟩,.string ⟨r.2.toArray⟩,.int .i64 f.op,.int .i64 f.k,.string ⟨f.r.1.toArray⟩,.string ⟨f.r.2.toArray⟩,.slice fo f.kids.length fc,.slice co cl.length cc] 54)).alloc (.cells #[.string ⟨r.1.toArray⟩,.string ⟨r.2.toArray⟩] 32)):=hcA.alloc _
   have HRO:=hid (roles_one (heap_alloc_new (wr.alloc (.cells #[.string ⟨r.1.toArray⟩,.string ⟨r.2.toArray⟩,.int .i64 f.op,.int .i64 f.k,.string ⟨f.r.1.toArray⟩,.string ⟨f.r.2.toArray⟩,.slice fo f.kids.length fc,.slice co cl.length cc] 54)) (.cells #[.string ⟨r.1.toArray⟩,.string ⟨r.2.toArray⟩] 32)) hr1 hr2)
   have HOW:Hid (OwnR w3.heap.size ((wr.alloc (.cells #[.string ⟨r.1.toArray⟩,.string ⟨r.2.toArray⟩,.int .i64 f.op,.int .i64 f.k,.string ⟨f.r.1.toArray⟩,.string ⟨f.r.2.toArray⟩,.slice fo f.kids.length fc,.slice co cl.length cc] 54)).alloc (.cells #[.string ⟨r.1.toArray⟩,.string ⟨r.2.toArray⟩] 32)) u (rolesTo L k)):=hid (OwnR.keep hrel.out.1 hcR (fun _ _=>id))
   have HSZ:Hid (w3.heap.size≤((wr.alloc (.cells #[.string ⟨r.1.toArray⟩,.string ⟨r.2.toArray⟩,.int .i64 f.op,.int .i64 f.k,.string ⟨f.r.1.toArray⟩,.string ⟨f.r.2.toArray⟩,.slice fo f.kids.length fc,.slice co cl.length cc] 54)).alloc (.cells #[.string ⟨r.1.toArray⟩,.string ⟨r.2.toArray⟩] 32)).heap.size):=hid (hrel.out.2.trans hcR (fun _ _ h=>h)).size
   have HAR:=hid (hrel.out.2.trans hcR (fun _ _ h=>h))
   have HLN2:Hid ((rolesTo L k).length+([r]:List RoleB).length≤33554432):=hid (by have:=HLR.out;simp;omega)
   have HS1:Hid ((wr.alloc (.cells #[.string ⟨r.1.toArray⟩,.string ⟨r.2.toArray⟩,.int .i64 f.op,.int .i64 f.k,.string ⟨f.r.1.toArray⟩,.string ⟨f.r.2.toArray⟩,.slice fo f.kids.length fc,.slice co cl.length cc] 54)).heap.size=wr.heap.size+1):=hid (by simp)
   clear hcA hcR hX hrel hfm hcz hcr hr1 hr2 hn1 hfo hfz hfk
   subst hao
   subst hu
   go_wp2_with (at_builtin;refine wpList_append_roles rfl (.tmp 16) (.tmp 19) rfl w3.heap.size _ _ rfl HOW.out (some ⟨(wr.alloc (.cells #[.string ⟨r.1.toArray⟩,.string ⟨r.2.toArray⟩,.int .i64 f.op,.int .i64 f.k,.string ⟨f.r.1.toArray⟩,.string ⟨f.r.2.toArray⟩,.slice fo f.kids.length fc,.slice co cl.length cc] 54)).heap.size,0,none⟩) 1 [r] (by rw[HS1.out];rfl) HRO.out (fun e=>by cases e) HLN2.out HSZ.out ?_)
   intro v' w7 ho7 hc7
   have HW7:=hid (aI ho7 (HAR.out.trans hc7 (fun i hi h=>absurd hi (Nat.not_lt.2 h))))
   clear ho7 hc7 a0 a1 a7 f0 f1 f2 f3 f4 z0 z1 z2 z3 z4 z5 z6 z7
   go_wp2
   go_roundw
   case rel=>exact⟨k+1,v',by omega,by go_num,rfl,hid ⟨by rw[HY.out];exact HW7.out.1,HW7.out.2⟩⟩
   case measure=>simp [intOf];omega
  ·have hk2:k=L.length:=by rw[←HLN.out];omega
   have ho:=hrel.out.1
   rw[hk2]at ho
   have HRS2:=HRS.out
   have e2:rolesTo L L.length=acksB p c:=by rw[acksB_locks,←HL.out];unfold rolesTo;rw[List.take_length]
   rw[e2]at ho HRS2
   obtain⟨ro,rc,hv,hra⟩:=ho.told HRS2
   have HE:=hid (aI hra (HC3.out.trans hrel.out.2 (fun _ _ h=>h)))
   subst hu
   subst hv
   clear hrel ho hra HRS2 e2 hk2
   go_wp2
   go_ret
   exact⟨_,_,rfl,HE.out.1,HE.out.2⟩
end
end Go.Proofs.YtkfinhpfdcjoeaaGreat
