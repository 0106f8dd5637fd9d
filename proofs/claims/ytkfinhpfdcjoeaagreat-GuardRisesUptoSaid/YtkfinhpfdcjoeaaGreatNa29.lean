/- Texts that the proof leans on, in one: GgEach, GgAdj, PcCompare. -/
import Derived.Test.YtkfinhpfdcjoeaaGreatNa28
import Derived.Test.YtkfinhpfdcjoeaaGreatNa20
import Derived.Test.YtkfinhpfdcjoeaaGreatNa9
import Derived.Test.YtkfinhpfdcjoeaaGreatNa14
import Derived.Test.YtkfinhpfdcjoeaaGreatNa3
/- guard's all, at three types. -/
namespace Go.Proofs.YtkfinhpfdcjoeaaGreat
section
open Go.RowKit
set_option maxRecDepth 100000 in
set_option maxHeartbeats 8000000 in
theorem gg_eachC {D:Nat→Prop} (ao:Option Addr) (cp:Nat) (ls:List CredB) (gf:Nat) (cap:Array Value) (P:CredB→Bool) (w:World) (eg:∀args w,(callFunc gf args).run Tryz.prog w = .ok (.enter gf args) w) (hst:CredsAt D w ao ls) (hl:ls.length≤4000)
  (hask:∀(d:CredB) (W:World),d∈ls→Chg (fun _=>False) w W→credShort d 9223372036854775807→Calls Tryz.prog gf (#[.agg #[.int .i64 d.kind,.string ⟨d.head.1.toArray⟩,.string ⟨d.head.2.toArray⟩,.string ⟨d.who.toArray⟩,.string ⟨d.b.1.toArray⟩,.string ⟨d.b.2.toArray⟩,.string ⟨d.c.1.toArray⟩,.string ⟨d.c.2.toArray⟩,.string ⟨d.w2.toArray⟩]]++cap) W fun e w'=>e = .returned (.bool (P d))∧Chg (fun _=>False) W w') :
  Calls Tryz.prog 74 #[.slice ao ls.length cp,.func (.func gf) #[] cap] w fun e w'=>e = .returned (.bool (ls.all P))∧Chg (fun _=>False) w w':=by
 have HST:=hid hst
 have HASK:=hid hask
 obtain⟨ln,hln⟩:∃ln,ln=ls.length:=⟨_,rfl⟩
 rw[←hln]at hl ⊢
 have HLN:=hid hln
 clear hst hask hln
 go_enter Tryz.func74,Tryz.ntmps74
 go_wp2
 go_loopw [9] (fun i wr=>∃k:Nat,k≤ln∧i = .int .i64 k∧Hid ((ls.take k).all P=true∧Chg (fun _=>False) w wr)) (fun i _=>ln-(intOf i).toNat)
 case atStart=>exact⟨0,Nat.zero_le _,rfl,hid ⟨rfl,Chg.refl _ _⟩⟩
 case round=>
  obtain⟨k,hk,rfl,hrel⟩:=hrel
  by_cases hlk:k<ln
  ·have hlt:k<ls.length:=by rw[←HLN.out];exact hlk
   have hcw:=HST.out.keep hrel.out.2 (fun _ _=>id)
   have hmem:=List.getElem_mem hlt
   have HY:Hid (P (ls[k]'hlt)=true→(ls.take (k+1)).all P=true):=hid (fun h=>by
    rw[List.take_succ_eq_append_getElem hlt,List.all_append,hrel.out.1]
    simp [h])
   have HN:Hid (P (ls[k]'hlt)=false→ls.all P=false):=hid (fun h=>by
    rw[List.all_eq_false]
    exact⟨_,List.getElem_mem hlt,by rw[h];simp⟩)
   obtain⟨b,off,hao,hD,⟨a0,a1,a2,a3,a4,a5,a6,a7,a8⟩,hsh⟩:=hcw k hlt
   generalize ls[k]=x at *
   obtain⟨d,hd⟩:∃d,d=x:=⟨_,rfl⟩
   subst hd
   skip
   skip
   have hcA:=alc wr (.cells #[.int .i64 d.kind,.string ⟨d.head.1.toArray⟩,.string ⟨d.head.2.toArray⟩,.string ⟨d.who.toArray⟩,.string ⟨d.b.1.toArray⟩,.string ⟨d.b.2.toArray⟩,.string ⟨d.c.1.toArray⟩,.string ⟨d.c.2.toArray⟩,.string ⟨d.w2.toArray⟩] 34)
   have hX:=heap_alloc_new wr (.cells #[.int .i64 d.kind,.string ⟨d.head.1.toArray⟩,.string ⟨d.head.2.toArray⟩,.string ⟨d.who.toArray⟩,.string ⟨d.b.1.toArray⟩,.string ⟨d.b.2.toArray⟩,.string ⟨d.c.1.toArray⟩,.string ⟨d.c.2.toArray⟩,.string ⟨d.w2.toArray⟩] 34)
   have z0:=bC (hX) 0
   have z1:=bC (hX) 1
   have z2:=bC (hX) 2
   have z3:=bC (hX) 3
   have z4:=bC (hX) 4
   have z5:=bC (hX) 5
   have z6:=bC (hX) 6
   have z7:=bC (hX) 7
   have z8:=bC (hX) 8
   simp only[lA,lZ,lS]at z0 z1 z2 z3 z4 z5 z6 z7 z8
   have HQ:=hid (HASK.out d (wr.alloc (.cells #[.int .i64 d.kind,.string ⟨d.head.1.toArray⟩,.string ⟨d.head.2.toArray⟩,.string ⟨d.who.toArray⟩,.string ⟨d.b.1.toArray⟩,.string ⟨d.b.2.toArray⟩,.string ⟨d.c.1.toArray⟩,.string ⟨d.c.2.toArray⟩,.string ⟨d.w2.toArray⟩] 34)) hmem (hrel.out.2.trans hcA (fun _ _ h=>h)) hsh)
   skip
   have HC1:=hid (hrel.out.2.trans hcA (fun _ _ h=>h))
   obtain⟨pv,hpv⟩:∃pv,pv=P d:=⟨_,rfl⟩
   rw[←hpv]at HQ HY HN
   clear hpv hrel hcw hmem hlt hcA hX hsh
   subst hao
   go_wp2_with fail
   refine HQ.out.mono ?_
   rintro e w5 ⟨rfl,hc5⟩
   have HC5:=hid (HC1.out.trans hc5 (fun _ _ h=>h))
   clear hc5 HQ HC1
   cases pv with
   | true=>
    have HT:=hid (HY.out rfl)
    go_wp2
    go_roundw
    case rel=>exact⟨k+1,by omega,by go_num,hid ⟨HT.out,HC5.out⟩⟩
    case measure=>simp [intOf];omega
   | false=>
    have HT:=hid (HN.out rfl)
    go_wp2
    go_ret
    exact⟨by rw[HT.out];rfl,HC5.out⟩
  ·have hk2:k=ls.length:=by rw[←HLN.out];omega
   have HE:=hid (aI (show ls.all P=true by have:=hrel.out.1;rw[hk2,List.take_length]at this;exact this) hrel.out.2)
   clear hrel hk2
   go_wp2
   go_ret
   exact⟨by rw[HE.out.1];rfl,HE.out.2⟩
set_option maxRecDepth 100000 in
set_option maxHeartbeats 8000000 in
theorem gg_eachA {D:Nat→Prop} (n:Nat) (ao:Option Addr) (cp:Nat) (ls:List AkB) (gf:Nat) (cap:Array Value) (P:AkB→Bool) (w:World) (eg:∀args w,(callFunc gf args).run Tryz.prog w = .ok (.enter gf args) w) (hst:AksAt D w n ao ls) (hl:ls.length≤4000)
  (hask:∀(r:RoleB) (f:FmB) (cl:List CredB) (m:Nat) (fo:Option Addr) (fc:Nat) (co:Option Addr) (cc:Nat) (W:World),(⟨r,f,cl⟩:AkB)∈ls→Chg (fun _=>False) w W→FmsAt D W m fo f.kids→FmOk f→(fo=none→fc=0)→CredsAt D W co cl→(co=none→cc=0)→Calls Tryz.prog gf (#[.agg #[.string ⟨r.1.toArray⟩,.string ⟨r.2.toArray⟩,.int .i64 f.op,.int .i64 f.k,.string ⟨f.r.1.toArray⟩,.string ⟨f.r.2.toArray⟩,.slice fo f.kids.length fc,.slice co cl.length cc]]++cap) W fun e w'=>e = .returned (.bool (P (⟨r,f,cl⟩:AkB)))∧Chg (fun _=>False) W w') :
  Calls Tryz.prog 51 #[.slice ao ls.length cp,.func (.func gf) #[] cap] w fun e w'=>e = .returned (.bool (ls.all P))∧Chg (fun _=>False) w w':=by
 have HST:=hid hst
 have HASK:=hid hask
 obtain⟨ln,hln⟩:∃ln,ln=ls.length:=⟨_,rfl⟩
 rw[←hln]at hl ⊢
 have HLN:=hid hln
 clear hst hask hln
 go_enter Tryz.func51,Tryz.ntmps51
 go_wp2
 go_loopw [9] (fun i wr=>∃k:Nat,k≤ln∧i = .int .i64 k∧Hid ((ls.take k).all P=true∧Chg (fun _=>False) w wr)) (fun i _=>ln-(intOf i).toNat)
 case atStart=>exact⟨0,Nat.zero_le _,rfl,hid ⟨rfl,Chg.refl _ _⟩⟩
 case round=>
  obtain⟨k,hk,rfl,hrel⟩:=hrel
  by_cases hlk:k<ln
  ·have hlt:k<ls.length:=by rw[←HLN.out];exact hlk
   have hcw:=HST.out.keep hrel.out.2 (fun _ _=>id)
   have hmem:=List.getElem_mem hlt
   have HY:Hid (P (ls[k]'hlt)=true→(ls.take (k+1)).all P=true):=hid (fun h=>by
    rw[List.take_succ_eq_append_getElem hlt,List.all_append,hrel.out.1]
    simp [h])
   have HN:Hid (P (ls[k]'hlt)=false→ls.all P=false):=hid (fun h=>by
    rw[List.all_eq_false]
    exact⟨_,List.getElem_mem hlt,by rw[h];simp⟩)
   obtain⟨b,off,hao,hD,⟨⟨a0,a1,hr1,hr2⟩,hfm,⟨co,cc,a7,hcz,hcr⟩⟩⟩:=hcw k hlt
   generalize ls[k]=x at *
   obtain⟨r,f,cl⟩:=x
   skip
   obtain⟨n1,fo,fc,hn1,⟨a2,a3,a4,a5,a6⟩,hfo,hfz,hfk⟩:=hfm.open_
   change _=some (Value.int .i64 f.op) at a2
   change wr.cell? ⟨b,off+k*8+3,none⟩=some (.int .i64 f.k) at a3
   change wr.cell? ⟨b,off+k*8+4,none⟩=some (.string ⟨f.r.1.toArray⟩) at a4
   change wr.cell? ⟨b,off+k*8+5,none⟩=some (.string ⟨f.r.2.toArray⟩) at a5
   change wr.cell? ⟨b,off+k*8+6,none⟩=some (.slice fo f.kids.length fc) at a6
   simp only[]at a0 a1 a7 hr1 hr2 hcr hfo hfk hfz
   skip
   have hcA:=alc wr (.cells #[.string ⟨r.1.toArray⟩,.string ⟨r.2.toArray⟩,.int .i64 f.op,.int .i64 f.k,.string ⟨f.r.1.toArray⟩,.string ⟨f.r.2.toArray⟩,.slice fo f.kids.length fc,.slice co cl.length cc] 54)
   have hX:=heap_alloc_new wr (.cells #[.string ⟨r.1.toArray⟩,.string ⟨r.2.toArray⟩,.int .i64 f.op,.int .i64 f.k,.string ⟨f.r.1.toArray⟩,.string ⟨f.r.2.toArray⟩,.slice fo f.kids.length fc,.slice co cl.length cc] 54)
   have z0:=bC (hX) 0
   have z1:=bC (hX) 1
   have z2:=bC (hX) 2
   have z3:=bC (hX) 3
   have z4:=bC (hX) 4
   have z5:=bC (hX) 5
   have z6:=bC (hX) 6
   have z7:=bC (hX) 7
   simp only[lA,lZ,lS]at z0 z1 z2 z3 z4 z5 z6 z7
   have HQ:=hid (HASK.out r f cl n1 fo fc co cc (wr.alloc (.cells #[.string ⟨r.1.toArray⟩,.string ⟨r.2.toArray⟩,.int .i64 f.op,.int .i64 f.k,.string ⟨f.r.1.toArray⟩,.string ⟨f.r.2.toArray⟩,.slice fo f.kids.length fc,.slice co cl.length cc] 54)) hmem (hrel.out.2.trans hcA (fun _ _ h=>h)) (hfk.keep hcA (fun _ _=>id)) hfo hfz (hcr.keep hcA (fun _ _=>id)) hcz)
   skip
   have HC1:=hid (hrel.out.2.trans hcA (fun _ _ h=>h))
   obtain⟨pv,hpv⟩:∃pv,pv=P (⟨r,f,cl⟩:AkB):=⟨_,rfl⟩
   rw[←hpv]at HQ HY HN
   clear hpv hrel hcw hmem hlt hcA hX hfm hfz hfo hfk hn1 hcz hcr hr1 hr2
   subst hao
   go_wp2_with fail
   refine HQ.out.mono ?_
   rintro e w5 ⟨rfl,hc5⟩
   have HC5:=hid (HC1.out.trans hc5 (fun _ _ h=>h))
   clear hc5 HQ HC1
   cases pv with
   | true=>
    have HT:=hid (HY.out rfl)
    go_wp2
    go_roundw
    case rel=>exact⟨k+1,by omega,by go_num,hid ⟨HT.out,HC5.out⟩⟩
    case measure=>simp [intOf];omega
   | false=>
    have HT:=hid (HN.out rfl)
    go_wp2
    go_ret
    exact⟨by rw[HT.out];rfl,HC5.out⟩
  ·have hk2:k=ls.length:=by rw[←HLN.out];omega
   have HE:=hid (aI (show ls.all P=true by have:=hrel.out.1;rw[hk2,List.take_length]at this;exact this) hrel.out.2)
   clear hrel hk2
   go_wp2
   go_ret
   exact⟨by rw[HE.out.1];rfl,HE.out.2⟩
set_option maxRecDepth 100000 in
set_option maxHeartbeats 8000000 in
theorem gg_eachG {D:Nat→Prop} (n:Nat) (ao:Option Addr) (cp:Nat) (ls:List GdB) (gf:Nat) (cap:Array Value) (P:GdB→Bool) (w:World) (eg:∀args w,(callFunc gf args).run Tryz.prog w = .ok (.enter gf args) w) (hst:GdsAt D w n ao ls) (hl:ls.length≤4000)
  (hask:∀(d:CredB) (tg:List UInt8) (f:FmB) (ta:Option Addr) (tl tc m:Nat) (fo:Option Addr) (fc:Nat) (W:World),(⟨d,tg,f⟩:GdB)∈ls→Chg (fun _=>False) w W→tl=tg.length→credShort d 9223372036854775807→FmsAt D W m fo f.kids→FmOk f→(fo=none→fc=0)→Calls Tryz.prog gf (#[.agg #[.int .i64 d.kind,.string ⟨d.head.1.toArray⟩,.string ⟨d.head.2.toArray⟩,.string ⟨d.who.toArray⟩,.string ⟨d.b.1.toArray⟩,.string ⟨d.b.2.toArray⟩,.string ⟨d.c.1.toArray⟩,.string ⟨d.c.2.toArray⟩,.string ⟨d.w2.toArray⟩,.slice ta tl tc,.int .i64 f.op,.int .i64 f.k,.string ⟨f.r.1.toArray⟩,.string ⟨f.r.2.toArray⟩,.slice fo f.kids.length fc]]++cap) W fun e w'=>e = .returned (.bool (P (⟨d,tg,f⟩:GdB)))∧Chg (fun _=>False) W w') :
  Calls Tryz.prog 47 #[.slice ao ls.length cp,.func (.func gf) #[] cap] w fun e w'=>e = .returned (.bool (ls.all P))∧Chg (fun _=>False) w w':=by
 have HST:=hid hst
 have HASK:=hid hask
 obtain⟨ln,hln⟩:∃ln,ln=ls.length:=⟨_,rfl⟩
 rw[←hln]at hl ⊢
 have HLN:=hid hln
 clear hst hask hln
 go_enter Tryz.func47,Tryz.ntmps47
 go_wp2
 go_loopw [9] (fun i wr=>∃k:Nat,k≤ln∧i = .int .i64 k∧Hid ((ls.take k).all P=true∧Chg (fun _=>False) w wr)) (fun i _=>ln-(intOf i).toNat)
 case atStart=>exact⟨0,Nat.zero_le _,rfl,hid ⟨rfl,Chg.refl _ _⟩⟩
 case round=>
  obtain⟨k,hk,rfl,hrel⟩:=hrel
  by_cases hlk:k<ln
  ·have hlt:k<ls.length:=by rw[←HLN.out];exact hlk
   have hcw:=HST.out.keep hrel.out.2 (fun _ _=>id)
   have hmem:=List.getElem_mem hlt
   have HY:Hid (P (ls[k]'hlt)=true→(ls.take (k+1)).all P=true):=hid (fun h=>by
    rw[List.take_succ_eq_append_getElem hlt,List.all_append,hrel.out.1]
    simp [h])
   have HN:Hid (P (ls[k]'hlt)=false→ls.all P=false):=hid (fun h=>by
    rw[List.all_eq_false]
    exact⟨_,List.getElem_mem hlt,by rw[h];simp⟩)
   obtain⟨b,off,hao,hD,⟨⟨⟨a0,a1,a2,a3,a4,a5,a6,a7,a8⟩,⟨ta,tc,a9,hby⟩,hsh,hln⟩,hfm⟩⟩:=hcw k hlt
   generalize ls[k]=x at *
   obtain⟨d,tg,f⟩:=x
   skip
   obtain⟨n1,fo,fc,hn1,⟨a10,a11,a12,a13,a14⟩,hfo,hfz,hfk⟩:=hfm.open_
   change _=some (Value.int .i64 f.op) at a10
   change wr.cell? ⟨b,off+k*15+11,none⟩=some (.int .i64 f.k) at a11
   change wr.cell? ⟨b,off+k*15+12,none⟩=some (.string ⟨f.r.1.toArray⟩) at a12
   change wr.cell? ⟨b,off+k*15+13,none⟩=some (.string ⟨f.r.2.toArray⟩) at a13
   change wr.cell? ⟨b,off+k*15+14,none⟩=some (.slice fo f.kids.length fc) at a14
   obtain⟨tl,htl⟩:∃tl,tl=tg.length:=⟨_,rfl⟩
   simp only[GdB.sign]at a0 a1 a2 a3 a4 a5 a6 a7 a8 a9 hfo hfk hfz hsh
   rw[←htl]at a9
   skip
   have hcA:=alc wr (.cells #[.int .i64 d.kind,.string ⟨d.head.1.toArray⟩,.string ⟨d.head.2.toArray⟩,.string ⟨d.who.toArray⟩,.string ⟨d.b.1.toArray⟩,.string ⟨d.b.2.toArray⟩,.string ⟨d.c.1.toArray⟩,.string ⟨d.c.2.toArray⟩,.string ⟨d.w2.toArray⟩,.slice ta tl tc,.int .i64 f.op,.int .i64 f.k,.string ⟨f.r.1.toArray⟩,.string ⟨f.r.2.toArray⟩,.slice fo f.kids.length fc] 48)
   have hX:=heap_alloc_new wr (.cells #[.int .i64 d.kind,.string ⟨d.head.1.toArray⟩,.string ⟨d.head.2.toArray⟩,.string ⟨d.who.toArray⟩,.string ⟨d.b.1.toArray⟩,.string ⟨d.b.2.toArray⟩,.string ⟨d.c.1.toArray⟩,.string ⟨d.c.2.toArray⟩,.string ⟨d.w2.toArray⟩,.slice ta tl tc,.int .i64 f.op,.int .i64 f.k,.string ⟨f.r.1.toArray⟩,.string ⟨f.r.2.toArray⟩,.slice fo f.kids.length fc] 48)
   have z0:=bC (hX) 0
   have z1:=bC (hX) 1
   have z2:=bC (hX) 2
   have z3:=bC (hX) 3
   have z4:=bC (hX) 4
   have z5:=bC (hX) 5
   have z6:=bC (hX) 6
   have z7:=bC (hX) 7
   have z8:=bC (hX) 8
   have z9:=bC (hX) 9
   have z10:=bC (hX) 10
   have z11:=bC (hX) 11
   have z12:=bC (hX) 12
   have z13:=bC (hX) 13
   have z14:=bC (hX) 14
   simp only[lA,lZ,lS]at z0 z1 z2 z3 z4 z5 z6 z7 z8 z9 z10 z11 z12 z13 z14
   have HQ:=hid (HASK.out d tg f ta tl tc n1 fo fc (wr.alloc (.cells #[.int .i64 d.kind,.string ⟨d.head.1.toArray⟩,.string ⟨d.head.2.toArray⟩,.string ⟨d.who.toArray⟩,.string ⟨d.b.1.toArray⟩,.string ⟨d.b.2.toArray⟩,.string ⟨d.c.1.toArray⟩,.string ⟨d.c.2.toArray⟩,.string ⟨d.w2.toArray⟩,.slice ta tl tc,.int .i64 f.op,.int .i64 f.k,.string ⟨f.r.1.toArray⟩,.string ⟨f.r.2.toArray⟩,.slice fo f.kids.length fc] 48)) hmem (hrel.out.2.trans hcA (fun _ _ h=>h)) htl hsh (hfk.keep hcA (fun _ _=>id)) hfo hfz)
   skip
   have HC1:=hid (hrel.out.2.trans hcA (fun _ _ h=>h))
   obtain⟨pv,hpv⟩:∃pv,pv=P (⟨d,tg,f⟩:GdB):=⟨_,rfl⟩
   rw[←hpv]at HQ HY HN
   clear hpv hrel hcw hmem hlt hcA hX hby hln hfm hfz hfo hfk hn1 htl hsh
   subst hao
   go_wp2_with fail
   refine HQ.out.mono ?_
   rintro e w5 ⟨rfl,hc5⟩
   have HC5:=hid (HC1.out.trans hc5 (fun _ _ h=>h))
   clear hc5 HQ HC1
   cases pv with
   | true=>
    have HT:=hid (HY.out rfl)
    go_wp2
    go_roundw
    case rel=>exact⟨k+1,by omega,by go_num,hid ⟨HT.out,HC5.out⟩⟩
    case measure=>simp [intOf];omega
   | false=>
    have HT:=hid (HN.out rfl)
    go_wp2
    go_ret
    exact⟨by rw[HT.out];rfl,HC5.out⟩
  ·have hk2:k=ls.length:=by rw[←HLN.out];omega
   have HE:=hid (aI (show ls.all P=true by have:=hrel.out.1;rw[hk2,List.take_length]at this;exact this) hrel.out.2)
   clear hrel hk2
   go_wp2
   go_ret
   exact⟨by rw[HE.out.1];rfl,HE.out.2⟩
end
section
open Go.RowKit
/-- Each is beneath the next one. -/
def AdjP {α:Type} (lt:α→α→Prop) (ls:List α):Prop:=∀i (h:i+1<ls.length),lt (ls[i]'(by omega)) ls[i+1]
theorem AdjP.nil {α:Type} (lt:α→α→Prop):AdjP lt []:=fun _ h=>absurd h (Nat.not_lt_zero _)
theorem rising_adj {α:Type} {lt:α→α→Bool} (ho:Ord lt):∀(ls:List α),RisingG lt ls↔AdjP (fun a b=>lt a b=true) ls
 | []=>⟨fun _=>AdjP.nil _,fun _=>trivial⟩
 | [x]=>⟨fun _ i h=>absurd h (by simp),fun _=>⟨fun _ h=>(by cases h),trivial⟩⟩
 | x::y::l=>by
  constructor
  ·intro h i hi
   exact h.lt_get i (i+1) hi (by omega)
  ·intro h
   have h0:=h 0 (by simp)
   have ht:RisingG lt (y::l):=(rising_adj ho (y::l)).2 (fun i hi=>h (i+1) (by simpa using hi))
   refine⟨fun z hz=>?_,ht⟩
   rcases List.mem_cons.1 hz with rfl|hz
   ·exact h0
   ·exact ho.trans _ _ _ h0 (ht.1 z hz)
theorem adj_map {α β:Type} (f:α→β) (lt:β→β→Prop) (ls:List α):AdjP lt (ls.map f)↔AdjP (fun a b=>lt (f a) (f b)) ls:=by
 constructor
 ·intro h i hi
  have:=h i (by simpa using hi)
  simpa using this
 ·intro h i hi
  have:=h i (by simpa using hi)
  simpa using this
theorem adj_congr {α:Type} {lt lt':α→α→Prop} {ls:List α} (h:∀a∈ls,∀b∈ls,lt a b↔lt' a b):AdjP lt ls↔AdjP lt' ls:=
 ⟨fun h1 i hi=>(h _ (List.getElem_mem _) _ (List.getElem_mem _)).1 (h1 i hi),fun h1 i hi=>(h _ (List.getElem_mem _) _ (List.getElem_mem _)).2 (h1 i hi)⟩
theorem cmpC_neg_iff (x y:CredB):cmpC x y<0↔ltS (credBytes x) (credBytes y)=true:=by
 unfold cmpC
 split
 ·next h=>simp [h]
 ·next h=>
  split
  ·simp [h]
  ·simp [h]
/-- Right credentials that rise. -/
theorem rises_creds {ls:List CredB} (hr:∀c∈ls,isCred c=true):AdjP (fun a b=>cmpC a b<0) ls↔RisingG ltC ls:=by
 rw[rising_adj ltC_ord]
 exact adj_congr fun a ha b hb=>by rw[cmpC_neg_iff,ltC_right (hr a ha) (hr b hb)]
theorem rises_roles (ls:List RoleB):AdjP (fun a b=>cmpR a b<0) ls↔RisingG ltR ls:=by
 rw[rising_adj ltR_ord]
 exact adj_congr fun a _ b _=>by rw[←cmpR_neg_iff];simp
end
section
open Go.RowKit
theorem cmpC_eq (a b:CredB):Lib.compareBytes (credBytes a) (credBytes b)=cmpC a b:=by rw[cmpB_eq];rfl
def compareSpecs (A B:Nat) (a b:CredB):List Spec:=[.any,.any,.eq (.pointer (some ⟨A,0,none⟩)),.eq (.pointer (some ⟨B,0,none⟩)),.eq (.int .i64 (cmpC a b)),.eq (credV a),.bytes (credBytes a).length (credBytes a),.eq (credV b),.bytes (credBytes b).length (credBytes b),.eq (.int .i64 (cmpC a b))]
set_option maxRecDepth 100000 in
theorem pccompare (x y:CredB) (w:World) (hsa:credShort x 9223372036854775807) (hsb:credShort y 9223372036854775807) :
  Calls Tryz.prog 73 #[credV x,credV y] w fun e w'=>e = .returned (.int .i64 (cmpC x y))∧Chg (fun _=>False) w w':=by
 have hA1:=heap_alloc_new w (.cells (credBox x) 34)
 have hc1:=alc w (.cells (credBox x) 34)
 have hB:=heap_alloc_new (w.alloc (.cells (credBox x) 34)) (.cells (credBox y) 34)
 have hc2:=alc (w.alloc (.cells (credBox x) 34)) (.cells (credBox y) 34)
 have hA:=bE hA1 hc2 id
 have hc:=hc1.trans hc2 (fun _ _ h=>h)
 have hsz:(w.alloc (.cells (credBox x) 34)).heap.size=w.heap.size+1:=by simp
 rw[hsz]at hB
 have HX:=hid (aI hA hB)
 have HC:=hid hc
 clear hA1 hc1 hB hc2 hA hc hsz
 show Calls Tryz.prog 73 #[.agg #[.int .i64 x.kind,.string ⟨x.head.1.toArray⟩,.string ⟨x.head.2.toArray⟩,.string ⟨x.who.toArray⟩,.string ⟨x.b.1.toArray⟩,.string ⟨x.b.2.toArray⟩,.string ⟨x.c.1.toArray⟩,.string ⟨x.c.2.toArray⟩,.string ⟨x.w2.toArray⟩],.agg #[.int .i64 y.kind,.string ⟨y.head.1.toArray⟩,.string ⟨y.head.2.toArray⟩,.string ⟨y.who.toArray⟩,.string ⟨y.b.1.toArray⟩,.string ⟨y.b.2.toArray⟩,.string ⟨y.c.1.toArray⟩,.string ⟨y.c.2.toArray⟩,.string ⟨y.w2.toArray⟩]] w _
 go_enter Tryz.func73,Tryz.ntmps73
 go_wp2_with fail
 change (Code.region _ _ _).wp _ _ _ ((w.alloc (.cells (credBox x) 34)).alloc (.cells (credBox y) 34))
 generalize (w.alloc (.cells (credBox x) 34)).alloc (.cells (credBox y) 34)=w1 at *
 generalize w.heap.size+1=B at *
 generalize w.heap.size=A at *
 refine wp_region_specs (compareSpecs A B x y) [5,6,7,8,9,4] [2,3] (by kernel_rfl) (by kernel_rfl) (by rfl) (by kernel_rfl) ?start ?obs ?fin
 case start=>
  simp only[List.forall_mem_cons]
  exact⟨⟨_,rfl,rfl⟩,⟨_,rfl,rfl⟩,fun _ h=>by cases h⟩
 case obs=>
  clear HC
  refine Obs.cons none (by kernel_rfl) ?_ ?_
  ·refine Ob.plain fun a w hR hk K k=>?_
   obtain⟨_,e2,rfl⟩:=hk 2 (by decide)
   clear hk
   obtain⟨hA,hB⟩:=HX.out
   obtain⟨a0,a1,a2,a3,a4,a5,a6,a7,a8⟩:=(cred_at_blk hA).keep hR id
   simp only[Nat.zero_add]at a0 a1 a2 a3 a4 a5 a6 a7 a8
   clear hA hB
   go_simp
   exact k _ _ R0 rfl
  refine Obs.cons none (by kernel_rfl) ?_ ?_
  ·refine Ob.plain fun a w hR hk K k=>?_
   obtain⟨_,e5,rfl⟩:=hk 5 (by decide)
   clear hk
   go_simp
   refine(pcbytes x _ hsa).mono ?_
   rintro e w2 ⟨ao,cap,rfl,hb,hc⟩
   exact k _ _ hc ⟨ao,cap,rfl,rfl,hb.mono (fun _ _=>trivial)⟩
  refine Obs.cons none (by kernel_rfl) ?_ ?_
  ·refine Ob.plain fun a w hR hk K k=>?_
   obtain⟨_,e3,rfl⟩:=hk 3 (by decide)
   clear hk
   obtain⟨hA,hB⟩:=HX.out
   obtain⟨a0,a1,a2,a3,a4,a5,a6,a7,a8⟩:=(cred_at_blk hB).keep hR id
   simp only[Nat.zero_add]at a0 a1 a2 a3 a4 a5 a6 a7 a8
   clear hA hB
   go_simp
   exact k _ _ R0 rfl
  refine Obs.cons none (by kernel_rfl) ?_ ?_
  ·refine Ob.plain fun a w hR hk K k=>?_
   obtain⟨_,e7,rfl⟩:=hk 7 (by decide)
   clear hk
   go_simp
   refine(pcbytes y _ hsb).mono ?_
   rintro e w2 ⟨ao,cap,rfl,hb,hc⟩
   exact k _ _ hc ⟨ao,cap,rfl,rfl,hb.mono (fun _ _=>trivial)⟩
  refine Obs.cons none (by kernel_rfl) ?_ ?_
  ·refine Ob.plain fun a w hR hk K k=>?_
   obtain⟨_,e6,f6⟩:=hk 6 (by decide)
   obtain⟨_,e8,f8⟩:=hk 8 (by decide)
   clear hk
   obtain⟨ao,cap,rfl,_,hb1⟩:=f6
   obtain⟨ao2,cap2,rfl,_,hb2⟩:=f8
   have hcmp:=bytes_compare w hb1 hb2
   rw[cmpC_eq]at hcmp
   have HC:=hid hcmp
   clear hb1 hb2 hcmp
   go_simp
   refine HC.out.mono ?_
   rintro e w2 ⟨rfl,rfl⟩
   exact k _ _ R0 rfl
  refine Obs.cons none (by kernel_rfl) ?_ ?_
  ·refine Ob.plain fun a w hR hk K k=>?_
   obtain⟨_,e9,f9⟩:=hk 9 (by decide)
   clear hk
   go_simp
   exact k _ _ R0 f9
  exact Obs.nil
 case fin=>
  intro vals w9 hc9 hv
  have h6:vals 4 = .int .i64 (cmpC x y):=hv 4 (by decide)
  simp only[putAll,List.setIfInBounds_toArray,List.set_cons_zero,List.set_cons_succ,h6]
  have HC9:=hid (HC.out.trans hc9 (fun _ _ h=>h))
  clear hc9 hv h6 HC
  go_wp2
  go_ret
  exact⟨rfl,HC9.out⟩
end
end Go.Proofs.YtkfinhpfdcjoeaaGreat
