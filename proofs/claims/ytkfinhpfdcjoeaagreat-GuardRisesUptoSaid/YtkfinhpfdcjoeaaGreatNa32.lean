/- Texts that the proof leans on, in one: GgMany, PkMap, PkAdd, PkNew, RefKey, PkIssuer, TagRef, RefCheck, RefSign, TagSum, TagMake, PkSign, TagGood, PkCheck, GgRight, FactMap, ModelFound, CredApp. -/
import Derived.Test.YtkfinhpfdcjoeaaGreatNa31
import Derived.Test.YtkfinhpfdcjoeaaGreatNa11
import Derived.Maps.OwnSet
import Derived.Sort.KeysCollected
import Derived.Test.YtkfinhpfdcjoeaaGreatNa5
import Derived.Test.YtkfinhpfdcjoeaaGreatNa3
import Derived.Test.YtkfinhpfdcjoeaaGreatNa13
import Derived.Test.YtkfinhpfdcjoeaaGreatNa1
import Derived.Test.YtkfinhpfdcjoeaaGreatNa8
import Derived.Test.YtkfinhpfdcjoeaaGreatRows
import Derived.Test.YtkfinhpfdcjoeaaGreatNa9
import Derived.Test.YtkfinhpfdcjoeaaGreatNa25
import Derived.DeepKeys4
import Derived.Carry
import Derived.Test.YtkfinhpfdcjoeaaGreatNa28
import Derived.Test.YtkfinhpfdcjoeaaGreatNa7
/- guard's tooMany. -/
namespace Go.Proofs.YtkfinhpfdcjoeaaGreat
section
open Go.RowKit
set_option maxRecDepth 100000 in
theorem gg_many1 (r:RoleB) (f:FmB) (cl:List CredB) (fo:Option Addr) (fc:Nat) (co:Option Addr) (cc:Nat) (w:World) :
  Calls Tryz.prog 46 #[.agg #[.string ⟨r.1.toArray⟩,.string ⟨r.2.toArray⟩,.int .i64 f.op,.int .i64 f.k,.string ⟨f.r.1.toArray⟩,.string ⟨f.r.2.toArray⟩,.slice fo f.kids.length fc,.slice co cl.length cc]] w fun e w'=>e = .returned (.bool (decide (32<cl.length)))∧Chg (fun _=>False) w w':=by
 have hcA:=alc w (.cells #[.string ⟨r.1.toArray⟩,.string ⟨r.2.toArray⟩,.int .i64 f.op,.int .i64 f.k,.string ⟨f.r.1.toArray⟩,.string ⟨f.r.2.toArray⟩,.slice fo f.kids.length fc,.slice co cl.length cc] 54)
 have hX:=heap_alloc_new w (.cells #[.string ⟨r.1.toArray⟩,.string ⟨r.2.toArray⟩,.int .i64 f.op,.int .i64 f.k,.string ⟨f.r.1.toArray⟩,.string ⟨f.r.2.toArray⟩,.slice fo f.kids.length fc,.slice co cl.length cc] 54)
 have z0:=bC (hX) 0
 have z1:=bC (hX) 1
 have z2:=bC (hX) 2
 have z3:=bC (hX) 3
 have z4:=bC (hX) 4
 have z5:=bC (hX) 5
 have z6:=bC (hX) 6
 have z7:=bC (hX) 7
 simp only[lA,lZ,lS]at z0 z1 z2 z3 z4 z5 z6 z7
 have HC:=hid hcA
 have HE:Hid (decide ((32:Int)<(cl.length:Int))=decide (32<cl.length)):=hid (by rw[Bool.eq_iff_iff,decide_eq_true_iff,decide_eq_true_iff];omega)
 clear hcA hX
 go_enter Tryz.func46,Tryz.ntmps46
 go_wp2
 go_ret
 exact⟨by rw[←HE.out];rfl,HC.out⟩
set_option maxRecDepth 100000 in
set_option maxHeartbeats 4000000 in
theorem gg_manyIx {D:Nat→Prop} (n:Nat) (ao:Option Addr) (cp:Nat) (ls:List AkB) (w:World) (hst:AksAt D w n ao ls) (hl:ls.length≤4000) :
  Calls Tryz.prog 72 #[.slice ao ls.length cp,.func (.func 46) #[] #[]] w fun e w'=>(∃j:Int,e = .returned (.int .i64 j)∧decide (0≤j)=ls.any (fun a=>decide (32<a.clo.length)))∧Chg (fun _=>False) w w':=by
 have eg:=enters Tryz.func46 rfl rfl
 have HST:=hid hst
 obtain⟨ln,hln⟩:∃ln,ln=ls.length:=⟨_,rfl⟩
 rw[←hln]at hl ⊢
 have HLN:=hid hln
 clear hst hln
 go_enter Tryz.func72,Tryz.ntmps72
 go_wp2
 go_loopw [8] (fun i wr=>∃k:Nat,k≤ln∧i = .int .i64 k∧Hid ((ls.take k).any (fun a=>decide (32<a.clo.length))=false∧Chg (fun _=>False) w wr)) (fun i _=>ln-(intOf i).toNat)
 case atStart=>exact⟨0,Nat.zero_le _,rfl,hid ⟨rfl,Chg.refl _ _⟩⟩
 case round=>
  obtain⟨k,hk,rfl,hrel⟩:=hrel
  by_cases hlk:k<ln
  ·have hlt:k<ls.length:=by rw[←HLN.out];exact hlk
   have hcw:=HST.out.keep hrel.out.2 (fun _ _=>id)
   have HY:Hid (decide (32<(ls[k]'hlt).clo.length)=false→(ls.take (k+1)).any (fun a=>decide (32<a.clo.length))=false):=hid (fun h=>by
    rw[List.take_succ_eq_append_getElem hlt,List.any_append,hrel.out.1]
    simpa using h)
   have HN:Hid (decide (32<(ls[k]'hlt).clo.length)=true→ls.any (fun a=>decide (32<a.clo.length))=true):=hid (fun h=>by
    rw[List.any_eq_true]
    exact⟨_,List.getElem_mem hlt,h⟩)
   obtain⟨b,off,hao,hD,⟨⟨a0,a1,hr1,hr2⟩,hfm,⟨co,cc,a7,hcz,hcr⟩⟩⟩:=hcw k hlt
   generalize ls[k]=x at *
   obtain⟨r,f,cl⟩:=x
   obtain⟨n1,fo,fc,hn1,⟨a2,a3,a4,a5,a6⟩,hfo,hfz,hfk⟩:=hfm.open_
   change _=some (Value.int .i64 f.op) at a2
   change wr.cell? ⟨b,off+k*8+3,none⟩=some (.int .i64 f.k) at a3
   change wr.cell? ⟨b,off+k*8+4,none⟩=some (.string ⟨f.r.1.toArray⟩) at a4
   change wr.cell? ⟨b,off+k*8+5,none⟩=some (.string ⟨f.r.2.toArray⟩) at a5
   change wr.cell? ⟨b,off+k*8+6,none⟩=some (.slice fo f.kids.length fc) at a6
   simp only[]at a0 a1 a7 hr1 hr2 hcr hfo hfk hfz
   have HQ:=hid (fun W=>gg_many1 r f cl fo fc co cc W)
   have HC1:=hid hrel.out.2
   obtain⟨pv,hpv⟩:∃pv,pv=decide (32<cl.length):=⟨_,rfl⟩
   simp only[←hpv]at HQ
   have HP0:=hid hpv
   clear hpv hrel hcw hlt hfm hfz hfo hfk hn1 hcz hcr hr1 hr2
   subst hao
   go_wp2_with fail
   refine(HQ.out _).mono ?_
   rintro e w5 ⟨rfl,hc5⟩
   have HC5:=hid (HC1.out.trans hc5 (fun _ _ h=>h))
   clear hc5 HQ HC1
   cases pv with
   | false=>
    have HT:=hid (HY.out HP0.out.symm)
    go_wp2
    go_roundw
    case rel=>exact⟨k+1,by omega,by go_num,hid ⟨HT.out,HC5.out⟩⟩
    case measure=>simp [intOf];omega
   | true=>
    have HT:=hid (HN.out HP0.out.symm)
    go_wp2
    go_ret
    exact⟨⟨_,rfl,by rw[HT.out];exact decide_eq_true (by omega)⟩,HC5.out⟩
  ·have hk2:k=ls.length:=by rw[←HLN.out];omega
   have HE:=hid (aI (show ls.any (fun a=>decide (32<a.clo.length))=false by have:=hrel.out.1;rw[hk2,List.take_length]at this;exact this) hrel.out.2)
   clear hrel hk2
   go_wp2
   go_ret
   exact⟨⟨-1,rfl,by rw[HE.out.1];rfl⟩,HE.out.2⟩
set_option maxRecDepth 100000 in
theorem gg_manyC {D:Nat→Prop} (n:Nat) (ao:Option Addr) (cp:Nat) (ls:List AkB) (w:World) (hst:AksAt D w n ao ls) (hl:ls.length≤4000) :
  Calls Tryz.prog 45 #[.slice ao ls.length cp,.func (.func 46) #[] #[]] w fun e w'=>e = .returned (.bool (ls.any (fun a=>decide (32<a.clo.length))))∧Chg (fun _=>False) w w':=by
 have HQ:=hid (gg_manyIx n ao cp ls w hst hl)
 clear hst hl
 go_enter Tryz.func45,Tryz.ntmps45
 go_wp2_with fail
 refine HQ.out.mono ?_
 rintro e w5 ⟨⟨j,rfl,hj⟩,hc5⟩
 have HE:=hid (aI hj hc5)
 clear hj hc5 HQ
 go_wp2
 go_ret
 exact⟨by rw[←HE.out.1];rfl,HE.out.2⟩
def manyB (p:PartyB):Bool:=decide (256<p.creds.length)||(decide (8<p.acks.length)||p.acks.any (fun a=>decide (32<a.clo.length)))
set_option maxRecDepth 100000 in
set_option maxHeartbeats 4000000 in
theorem gg_tooMany {D:Nat→Prop} (n:Nat) (p:PartyB) (po:Option Addr) (pc:Nat) (ao:Option Addr) (ac:Nat) (w:World) (hp:PartyAt D w n p po pc ao ac) (hg:greatP p≤4000) :
  Calls Tryz.prog 23 #[.agg #[.string ⟨p.name.toArray⟩,.slice po p.creds.length pc,.slice ao p.acks.length ac]] w fun e w'=>e = .returned (.bool (manyB p))∧Chg (fun _=>False) w w':=by
 have k1:=alc w (.cells #[.string ⟨p.name.toArray⟩,.slice po p.creds.length pc,.slice ao p.acks.length ac] 25)
 have hP:=heap_alloc_new w (.cells #[.string ⟨p.name.toArray⟩,.slice po p.creds.length pc,.slice ao p.acks.length ac] 25)
 have y0:=bC (hP) 0
 have y1:=bC (hP) 1
 have y2:=bC (hP) 2
 simp only[lA,lZ,lS]at y0 y1 y2
 have hpk:=hp.keep k1 (fun _ _=>id)
 have HQ:=hid (gg_manyC n ao ac p.acks (w.alloc (.cells #[.string ⟨p.name.toArray⟩,.slice po p.creds.length pc,.slice ao p.acks.length ac] 25)) hpk.aks (gp_acks hg).1)
 have HC:=hid k1
 have HM:Hid (manyB p=(decide (256<p.creds.length)||(decide (8<p.acks.length)||p.acks.any (fun a=>decide (32<a.clo.length))))):=hid rfl
 clear hpk k1 hP hp hg
 go_enter Tryz.func23,Tryz.ntmps23
 by_cases h1:256<p.creds.length
 ·have e1:decide ((256:Int)<(p.creds.length:Int))=true:=decide_eq_true (by omega)
  have HE:Hid (manyB p=true):=hid (by rw[HM.out,decide_eq_true h1];rfl)
  clear h1
  go_wp2
  go_ret
  exact⟨by rw[HE.out];rfl,HC.out⟩
 ·have e1:decide ((256:Int)<(p.creds.length:Int))=false:=decide_eq_false (by omega)
  by_cases h2:8<p.acks.length
  ·have e2:decide ((8:Int)<(p.acks.length:Int))=true:=decide_eq_true (by omega)
   have HE:Hid (manyB p=true):=hid (by rw[HM.out,decide_eq_true h2];simp)
   clear h1 h2
   go_wp2
   go_ret
   exact⟨by rw[HE.out];rfl,HC.out⟩
  ·have e2:decide ((8:Int)<(p.acks.length:Int))=false:=decide_eq_false (by omega)
   have HE:Hid (manyB p=p.acks.any (fun a=>decide (32<a.clo.length))):=hid (by rw[HM.out,decide_eq_false h1,decide_eq_false h2];rfl)
   clear h1 h2
   go_wp2_with fail
   refine HQ.out.mono ?_
   rintro e w5 ⟨rfl,hc5⟩
   have HC5:=hid (HC.out.trans hc5 (fun _ _ h=>h))
   clear hc5 HQ
   rw[←HE.out]
   go_wp2
   go_ret
   exact⟨rfl,HC5.out⟩
end
section
open Go.RowKit Go.Maps Go.ChangeMaps Go.WideMaps
theorem isKey (o:List UInt8):WideAt.IsKeyLit (.string o):=trivial
end
section
open Go.RowKit Go.Maps
end
section
open Go.RowKit Go.Maps
end
section
open Go.RowKit
end
section
open Go.RowKit Go.Maps
theorem piss_nil (c:CredB) (w:World):Calls Tryz.prog 59 #[.pointer none,credV c] w fun e w'=>e = .returned (.tuple #[.slice none 0 0,.int .i64 1])∧Chg (fun _=>False) w w':=by
 have HC:=hid (show Chg (fun _=>False) w (w.alloc (.cells #[.int .i64 c.kind,.string ⟨c.head.1.toArray⟩,.string ⟨c.head.2.toArray⟩,.string ⟨c.who.toArray⟩,.string ⟨c.b.1.toArray⟩,.string ⟨c.b.2.toArray⟩,.string ⟨c.c.1.toArray⟩,.string ⟨c.c.2.toArray⟩,.string ⟨c.w2.toArray⟩] 34)) from (Chg.refl _ w).alloc _)
 show Calls Tryz.prog 59 #[.pointer none,.agg #[.int .i64 c.kind,.string ⟨c.head.1.toArray⟩,.string ⟨c.head.2.toArray⟩,.string ⟨c.who.toArray⟩,.string ⟨c.b.1.toArray⟩,.string ⟨c.b.2.toArray⟩,.string ⟨c.c.1.toArray⟩,.string ⟨c.c.2.toArray⟩,.string ⟨c.w2.toArray⟩]] w _
 go_enter Tryz.func59,Tryz.ntmps59
 go_wp2
 go_ret2
 exact⟨rfl,HC.out⟩
end
section
open Go.RowKit
end
section
open Go.RowKit
end
section
open Go.RowKit
end
section
open Go.RowKit
end
section
open Go.RowKit
end
section
open Go.RowKit Go.Maps
end
section
open Go.RowKit
end
section
open Go.RowKit Go.Maps
def pckSpecsN (A:Nat) (e:Int):List Spec:=[.any,.any,.any,.eq (.pointer (some ⟨A,0,none⟩)),.any,.any,.eq (.int .i64 e),.any,.any,.any,.any,.any,.any,.any,.eq (.int .i64 e),.eq (.bool false),.eq (.bool false),.any,.any,.any,.any,.any,.any,.any,.any,.eq (.bool false),.any]
set_option maxRecDepth 100000 in
set_option maxHeartbeats 2000000 in
/-- Of a nil registry. -/
theorem pcheck_nil (c:CredB) (n:Nat) (ta:Option Addr) (cap:Nat) (w:World) :
  Calls Tryz.prog 30 #[.pointer none,signV c (.slice ta n cap)] w fun e w'=>e = .returned (.int .i64 1)∧Chg (fun _=>False) w w':=by
 have hc1:=alc w (.cells #[.int .i64 c.kind,.string ⟨c.head.1.toArray⟩,.string ⟨c.head.2.toArray⟩,.string ⟨c.who.toArray⟩,.string ⟨c.b.1.toArray⟩,.string ⟨c.b.2.toArray⟩,.string ⟨c.c.1.toArray⟩,.string ⟨c.c.2.toArray⟩,.string ⟨c.w2.toArray⟩,.slice ta n cap] 43)
 have hkc:=piss_nil c (w.alloc (.cells #[.int .i64 c.kind,.string ⟨c.head.1.toArray⟩,.string ⟨c.head.2.toArray⟩,.string ⟨c.who.toArray⟩,.string ⟨c.b.1.toArray⟩,.string ⟨c.b.2.toArray⟩,.string ⟨c.c.1.toArray⟩,.string ⟨c.c.2.toArray⟩,.string ⟨c.w2.toArray⟩,.slice ta n cap] 43))
 have HH:=hid (aI hkc hc1)
 clear hkc hc1
 show Calls Tryz.prog 30 #[.pointer none,.agg #[.int .i64 c.kind,.string ⟨c.head.1.toArray⟩,.string ⟨c.head.2.toArray⟩,.string ⟨c.who.toArray⟩,.string ⟨c.b.1.toArray⟩,.string ⟨c.b.2.toArray⟩,.string ⟨c.c.1.toArray⟩,.string ⟨c.c.2.toArray⟩,.string ⟨c.w2.toArray⟩,.slice ta n cap]] w _
 go_enter Tryz.func30,Tryz.ntmps30
 go_wp2_with fail
 obtain⟨hkc,hc1⟩:=HH.out
 clear HH
 generalize (w.alloc (.cells #[.int .i64 c.kind,.string ⟨c.head.1.toArray⟩,.string ⟨c.head.2.toArray⟩,.string ⟨c.who.toArray⟩,.string ⟨c.b.1.toArray⟩,.string ⟨c.b.2.toArray⟩,.string ⟨c.c.1.toArray⟩,.string ⟨c.c.2.toArray⟩,.string ⟨c.w2.toArray⟩,.slice ta n cap] 43))=w1 at *
 refine hkc.mono ?_
 rintro e w2 ⟨rfl,hc12⟩
 have hc2:=hc1.trans hc12 (fun _ _ h=>h)
 clear hkc hc1 hc12
 generalize w.heap.size=A at *
 have HC:=hid hc2
 clear hc2
 ·obtain⟨e0,he0⟩:∃e0:Int,1=e0:=⟨_,rfl⟩
  have hne:(e0==0)=false:=beq_eq_false_iff_ne.2 (by omega)
  rw[he0]
  have HE:=hid he0
  have HNE:=hid hne
  clear he0 hne
  go_wp2_with fail
  refine wp_region_specs (pckSpecsN A e0) [14,15,16,17,18,19,20,21,22,23,24,25] [3,5,6] (by kernel_rfl) (by kernel_rfl) (by rfl) (by kernel_rfl) ?start2 ?obs2 ?fin2
  case start2=>
   simp only[List.forall_mem_cons]
   exact⟨⟨_,rfl,rfl⟩,⟨_,rfl,trivial⟩,⟨_,rfl,rfl⟩,fun _ h=>by cases h⟩
  case obs2=>
   clear HC
   have hne:=HNE.out
   refine Obs.cons none (by kernel_rfl) ?_ ?_
   ·refine Ob.plain fun a w hR hk K k=>?_
    obtain⟨_,e6,f6⟩:=hk 6 (by decide)
    clear hk
    go_simp
    exact k _ _ R0 f6
   refine Obs.cons none (by kernel_rfl) ?_ ?_
   ·refine Ob.plain fun a w hR hk K k=>?_
    obtain⟨_,e14,rfl⟩:=hk 14 (by decide)
    clear hk
    go_simp
    exact k _ _ R0 rfl
   refine Obs.cons none (by kernel_rfl) ?_ ?_
   ·refine Ob.plain fun a w hR hk K k=>?_
    obtain⟨_,e15,f15⟩:=hk 15 (by decide)
    clear hk
    go_simp
    exact k _ _ R0 f15
   refine Obs.cons (some (16,true)) (by kernel_rfl) ?_ ?_
   ·exact Ob.no (fun _ _ h=>h) (Chg.refl _) (fun _ _=>trivial)
   refine Obs.cons (some (16,true)) (by kernel_rfl) ?_ ?_
   ·exact Ob.no (fun _ _ h=>h) (Chg.refl _) (fun _ _=>trivial)
   refine Obs.cons (some (16,true)) (by kernel_rfl) ?_ ?_
   ·exact Ob.no (fun _ _ h=>h) (Chg.refl _) (fun _ _=>trivial)
   refine Obs.cons (some (16,true)) (by kernel_rfl) ?_ ?_
   ·exact Ob.no (fun _ _ h=>h) (Chg.refl _) (fun _ _=>trivial)
   refine Obs.cons (some (16,true)) (by kernel_rfl) ?_ ?_
   ·exact Ob.no (fun _ _ h=>h) (Chg.refl _) (fun _ _=>trivial)
   refine Obs.cons (some (16,true)) (by kernel_rfl) ?_ ?_
   ·exact Ob.no (fun _ _ h=>h) (Chg.refl _) (fun _ _=>trivial)
   refine Obs.cons (some (16,true)) (by kernel_rfl) ?_ ?_
   ·exact Ob.no (fun _ _ h=>h) (Chg.refl _) (fun _ _=>trivial)
   refine Obs.cons (some (16,true)) (by kernel_rfl) ?_ ?_
   ·exact Ob.no (fun _ _ h=>h) (Chg.refl _) (fun _ _=>trivial)
   refine Obs.cons none (by kernel_rfl) ?_ ?_
   ·refine Ob.plain fun a w hR hk K k=>?_
    obtain⟨_,e16,rfl⟩:=hk 16 (by decide)
    obtain⟨_,e24,_⟩:=hk 24 (by decide)
    clear hk
    go_simp
    exact k _ _ R0 rfl
   exact Obs.nil
  case fin2=>
   intro vals w9 hc9 hv
   have h25:vals 25 = .bool false:=hv 25 (by decide)
   simp only[putAll,List.setIfInBounds_toArray,List.set_cons_zero,List.set_cons_succ,h25]
   have HC9:=hid (HC.out.trans hc9 (fun _ _ h=>h))
   clear hc9 hv h25 HC
   go_wp2
   go_ret
   exact⟨by have:=HE.out;subst this;rfl,HC9.out⟩
end
section
open Go.RowKit
/-- All but the name and the numbers. -/
def PartsR (p:PartyB):Prop:=((∀x∈p.creds,okG x=true)∧RisingG ltC (p.creds.map (·.cred)))∧((∀a∈p.acks,okA a)∧RisingG ltR (p.acks.map (·.role)))∧p.creds.all (gdOkb p)=true
theorem allRight_iff (p:PartyB):AllRight p↔isName p.name=true∧manyB p=false∧PartsR p:=by
 have hm:manyB p=false↔p.creds.length≤256∧p.acks.length≤8∧∀a∈p.acks,a.clo.length≤32:=by
  unfold manyB
  simp only[Bool.or_eq_false_iff,decide_eq_false_iff_not,List.any_eq_false,decide_eq_true_eq,Nat.not_lt]
 have hg:RisingG ltC (p.creds.map (·.cred))→(p.creds.all (gdOkb p)=true↔∀x∈p.creds,∃y,OfR p x.cred 0 y):=fun hr=>by
  rw[List.all_eq_true]
  refine forall_congr' fun x=>?_
  constructor
  ·intro h hx
   have h:=h hx
   obtain⟨i,hi,rfl⟩:=List.getElem_of_mem hx
   unfold gdOkb at h
   obtain⟨y,hy⟩:=(@decide_eq_true_iff _ (Classical.propDecidable _)).1 h
   exact⟨y,(of_self hr hi 0 y).2 hy⟩
  ·intro h hx
   obtain⟨y,hy⟩:=h hx
   obtain⟨i,hi,rfl⟩:=List.getElem_of_mem hx
   unfold gdOkb
   exact(@decide_eq_true_iff _ (Classical.propDecidable _)).2 ⟨y,(of_self hr hi 0 y).1 hy⟩
 have ho:∀x:GdB,okG x=true↔isCred x.cred=true∧x.tag.length=8∧isF x.rel=true:=fun x=>by
  simp only[okG,Bool.and_eq_true,decide_eq_true_eq]
 constructor
 ·rintro ⟨h1,h2,h3,h4,h5,h6,h7⟩
  exact⟨h1,hm.2 h2,⟨fun x hx=>(ho x).2 (h3 x hx),h4⟩,⟨fun a ha=>⟨(h6 a ha).1,(h6 a ha).2.2,(h6 a ha).2.1⟩,h7⟩,(hg h4).2 h5⟩
 ·rintro ⟨h1,h2,⟨h3,h4⟩,⟨h6,h7⟩,h5⟩
  exact⟨h1,hm.1 h2,fun x hx=>(ho x).1 (h3 x hx),h4,(hg h4).1 h5,fun a ha=>⟨(h6 a ha).1,(h6 a ha).2.2,(h6 a ha).2.1⟩,h7⟩
/-- Whether a party is right, told. -/
def RightPost (p:PartyB) (w:World) (e:Ending) (w':World):Prop:=∃k:Int,e = .returned (.int .i64 k)∧(k=0↔AllRight p)∧(isName p.name=false→k=30)∧Chg (fun _=>False) w w'
set_option maxRecDepth 100000 in
set_option maxHeartbeats 8000000 in
theorem gg_right {D:Nat→Prop} (n:Nat) (p:PartyB) (po:Option Addr) (pc:Nat) (ao:Option Addr) (ac:Nat) (w:World) (hp:PartyAt D w n p po pc ao ac) (hg:greatP p≤4000) :
  Calls Tryz.prog 9 #[.agg #[.string ⟨p.name.toArray⟩,.slice po p.creds.length pc,.slice ao p.acks.length ac]] w (RightPost p w):=by
 have k1:=alc w (.cells #[.string ⟨p.name.toArray⟩,.slice po p.creds.length pc,.slice ao p.acks.length ac] 25)
 have hP:=heap_alloc_new w (.cells #[.string ⟨p.name.toArray⟩,.slice po p.creds.length pc,.slice ao p.acks.length ac] 25)
 have HX:=hid (aI hP k1)
 have hpk:=fun(W:World) (hW:Chg (fun _=>False) (w.alloc (.cells #[.string ⟨p.name.toArray⟩,.slice po p.creds.length pc,.slice ao p.acks.length ac] 25)) W)=>hp.keep (k1.trans hW (fun _ _ h=>h)) (fun _ _=>id)
 have HLT:=hid (fun(W:World) (hW:Chg (fun _=>False) (w.alloc (.cells #[.string ⟨p.name.toArray⟩,.slice po p.creds.length pc,.slice ao p.acks.length ac] 25)) W) i (hi:D i)=>show i<W.heap.size by have:=hp.lt i hi;have:=(k1.trans hW (fun _ _ h=>h)).size;omega)
 have HNR:=hid (fun(W:World)=>right_any p.name W hp.name)
 have HTM:=hid (fun(W:World) (hW:Chg (fun _=>False) (w.alloc (.cells #[.string ⟨p.name.toArray⟩,.slice po p.creds.length pc,.slice ao p.acks.length ac] 25)) W)=>gg_tooMany n p po pc ao ac W (hpk W hW) hg)
 have HRC:=hid (fun(W:World) (hW:Chg (fun _=>False) (w.alloc (.cells #[.string ⟨p.name.toArray⟩,.slice po p.creds.length pc,.slice ao p.acks.length ac] 25)) W)=>gg_rightCreds n po pc p.creds W (hpk W hW).gds (HLT.out W hW) (gp_acks hg).2.1 (fun x hx=>by have:=(gp_short hg x hx).2;omega))
 have HRA:=hid (fun(W:World) (hW:Chg (fun _=>False) (w.alloc (.cells #[.string ⟨p.name.toArray⟩,.slice po p.creds.length pc,.slice ao p.acks.length ac] 25)) W)=>gg_rightAcks n ao ac p.acks W (hpk W hW).aks (HLT.out W hW) (gp_acks hg).1 (fun x hx=>⟨by have:=great_nodes x.rel;have:=((gp_acks hg).2.2 x hx).2;omega,((gp_acks hg).2.2 x hx).1⟩))
 have HRG:=hid (fun(W:World) (hW:Chg (fun _=>False) (w.alloc (.cells #[.string ⟨p.name.toArray⟩,.slice po p.creds.length pc,.slice ao p.acks.length ac] 25)) W)=>gg_rightGuards n p po pc ao ac W (hpk W hW) hg)
 have HAR:=hid (allRight_iff p)
 have y0:=bC (hP) 0
 have y1:=bC (hP) 1
 have y2:=bC (hP) 2
 simp only[lA,lZ,lS]at y0 y1 y2
 clear k1 hP hpk hp hg HLT
 obtain⟨w1,hw1⟩:∃W,W=(w.alloc (.cells #[.string ⟨p.name.toArray⟩,.slice po p.creds.length pc,.slice ao p.acks.length ac] 25)):=⟨_,rfl⟩
 rw[←hw1]at HX HTM HRC HRA HRG
 have HW1:=hid hw1
 clear hw1
 go_enter Tryz.func9,Tryz.ntmps9
 go_wp2_with fail
 refine(HNR.out _).mono ?_
 rintro e w2 ⟨rfl,hw2⟩
 rw[←HW1.out]at hw2
 subst hw2
 clear y0 y1 y2 HNR
 have hP:=HX.out.1
 have y0:=bC (hP) 0
 have y1:=bC (hP) 1
 have y2:=bC (hP) 2
 simp only[lA,lZ,lS]at y0 y1 y2
 clear hP
 cases hn:isName p.name with
 | false=>
  have HE:Hid (¬AllRight p):=hid (fun h=>by have:=h.name;rw[hn]at this;cases this)
  clear hn
  go_wp2
  go_ret
  exact⟨30,rfl,⟨fun h=>absurd h (by decide),fun h=>absurd h HE.out⟩,fun _=>rfl,HX.out.2⟩
 | true=>
  have HN:=hid hn
  clear hn
  go_wp2_with fail
  refine(HTM.out _ R0).mono ?_
  rintro e w3 ⟨rfl,hc3⟩
  have HC3:=hid hc3
  have hP:=bE HX.out.1 hc3 id
  clear y0 y1 y2 hc3 HTM
  have y0:=bC (hP) 0
  have y1:=bC (hP) 1
  have y2:=bC (hP) 2
  simp only[lA,lZ,lS]at y0 y1 y2
  clear hP
  cases hm:manyB p with
  | true=>
   have HE:Hid (¬AllRight p):=hid (fun h=>by have:=(HAR.out.1 h).2.1;rw[hm]at this;cases this)
   clear hm
   go_wp2
   go_ret
   exact⟨12,rfl,⟨fun h=>absurd h (by decide),fun h=>absurd h HE.out⟩,fun h=>(by have:=HN.out;rw[h]at this;cases this),HX.out.2.trans HC3.out (fun _ _ h=>h)⟩
  | false=>
   have HM:=hid hm
   clear hm
   go_wp2_with fail
   refine(HRC.out _ HC3.out).mono ?_
   rintro e w4 ⟨⟨b1,rfl,hb1⟩,hc4⟩
   have HB1:=hid hb1
   have HC4:=hid (HC3.out.trans hc4 (fun _ _ h=>h))
   have hP:=bE HX.out.1 HC4.out id
   clear y0 y1 y2 hb1 hc4 HRC
   have y0:=bC (hP) 0
   have y1:=bC (hP) 1
   have y2:=bC (hP) 2
   simp only[lA,lZ,lS]at y0 y1 y2
   clear hP
   cases b1 with
   | false=>
    have HE:Hid (¬AllRight p):=hid (fun h=>by have:=HB1.out.2 (HAR.out.1 h).2.2.1;cases this)
    go_wp2
    go_ret
    exact⟨11,rfl,⟨fun h=>absurd h (by decide),fun h=>absurd h HE.out⟩,fun h=>(by have:=HN.out;rw[h]at this;cases this),HX.out.2.trans HC4.out (fun _ _ h=>h)⟩
   | true=>
    go_wp2_with fail
    refine(HRA.out _ HC4.out).mono ?_
    rintro e w5 ⟨⟨b2,rfl,hb2⟩,hc5⟩
    have HB2:=hid hb2
    have HC5:=hid (HC4.out.trans hc5 (fun _ _ h=>h))
    have hP:=bE HX.out.1 HC5.out id
    clear y0 y1 y2 hb2 hc5 HRA
    have y0:=bC (hP) 0
    have y1:=bC (hP) 1
    have y2:=bC (hP) 2
    simp only[lA,lZ,lS]at y0 y1 y2
    clear hP
    cases b2 with
    | false=>
     have HE:Hid (¬AllRight p):=hid (fun h=>by have:=HB2.out.2 (HAR.out.1 h).2.2.2.1;cases this)
     go_wp2
     go_ret
     exact⟨11,rfl,⟨fun h=>absurd h (by decide),fun h=>absurd h HE.out⟩,fun h=>(by have:=HN.out;rw[h]at this;cases this),HX.out.2.trans HC5.out (fun _ _ h=>h)⟩
    | true=>
     go_wp2_with fail
     refine(HRG.out _ HC5.out).mono ?_
     rintro e w6 ⟨rfl,hc6⟩
     have HC6:=hid (HX.out.2.trans (HC5.out.trans hc6 (fun _ _ h=>h)) (fun _ _ h=>h))
     clear hc6 HRG
     cases hgd:p.creds.all (gdOkb p) with
     | false=>
      have HE:Hid (¬AllRight p):=hid (fun h=>by have:=(HAR.out.1 h).2.2.2.2;rw[hgd]at this;cases this)
      clear hgd
      go_wp2
      go_ret
      exact⟨11,rfl,⟨fun h=>absurd h (by decide),fun h=>absurd h HE.out⟩,fun h=>(by have:=HN.out;rw[h]at this;cases this),HC6.out⟩
     | true=>
      have HE:Hid (AllRight p):=hid (HAR.out.2 ⟨HN.out,HM.out,HB1.out.1 trivial,HB2.out.1 trivial,hgd⟩)
      clear hgd
      go_wp2
      go_ret
      exact⟨0,rfl,⟨fun _=>HE.out,fun _=>rfl⟩,fun h=>(by have:=HN.out;rw[h]at this;cases this),HC6.out⟩
set_option maxRecDepth 100000 in
set_option maxHeartbeats 8000000 in
theorem gg_checkNil {D:Nat→Prop} (n:Nat) (p:PartyB) (po:Option Addr) (pc:Nat) (ao:Option Addr) (ac:Nat) (w:World) (hp:PartyAt D w n p po pc ao ac) (hg:greatP p≤4000) (hr:AllRight p) (hne:p.creds≠[]) :
  Calls Tryz.prog 15 #[.agg #[.string ⟨p.name.toArray⟩,.slice po p.creds.length pc,.slice ao p.acks.length ac],.pointer none] w fun e w'=>e = .returned (.int .i64 1)∧Chg (fun _=>False) w w':=by
 have k1:=alc w (.cells #[.string ⟨p.name.toArray⟩,.slice po p.creds.length pc,.slice ao p.acks.length ac] 25)
 have hP:=heap_alloc_new w (.cells #[.string ⟨p.name.toArray⟩,.slice po p.creds.length pc,.slice ao p.acks.length ac] 25)
 have y0:=bC (hP) 0
 have y1:=bC (hP) 1
 have y2:=bC (hP) 2
 simp only[lA,lZ,lS]at y0 y1 y2
 have HX:=hid (aI hP k1)
 have HP:=hid hp
 have HQ:=hid (gg_right n p po pc ao ac (w.alloc (.cells #[.string ⟨p.name.toArray⟩,.slice po p.creds.length pc,.slice ao p.acks.length ac] 25)) (hp.keep k1 (fun _ _=>id)) hg)
 have HR:=hid hr
 have hlen:0<p.creds.length:=List.length_pos_iff.2 hne
 have hmax:=(gp_acks hg).2.1
 clear k1 hP hp hg hr hne
 go_enter Tryz.func15,Tryz.ntmps15
 go_wp2_with fail
 refine HQ.out.mono ?_
 rintro e w2 ⟨kk,rfl,hk0,_,hc2⟩
 have e0:kk=0:=hk0.2 HR.out
 subst e0
 have hP2:=bE HX.out.1 hc2 id
 clear y0 y1 y2 hk0
 have y0:=bC (hP2) 0
 have y1:=bC (hP2) 1
 have y2:=bC (hP2) 2
 simp only[lA,lZ,lS]at y0 y1 y2
 have HC2:=hid (HX.out.2.trans hc2 (fun _ _ h=>h))
 clear hP2 hc2 HQ
 go_wp2
 clear y0 y1 y2
 go_loopw [17] (fun i wr=>∃k:Nat,i = .int .i64 k∧Hid (k=0∧Chg (fun _=>False) w2 wr)) (fun i _=>p.creds.length-(intOf i).toNat)
 case atStart=>exact⟨0,rfl,hid ⟨rfl,Chg.refl _ _⟩⟩
 case round=>
  obtain⟨k,rfl,hrel⟩:=hrel
  have hcw:=HC2.out.trans hrel.out.2 (fun _ _ h=>h)
  have hlt:k<p.creds.length:=by rw[hrel.out.1];exact hlen
  obtain⟨b,off,hpo,hDb,⟨⟨⟨a0,a1,a2,a3,a4,a5,a6,a7,a8⟩,⟨ta,tc,a9,hby⟩,hsh,hln⟩,hfm⟩⟩:=(HP.out.gds.keep hcw (fun _ _=>id)) k hlt
  generalize p.creds[k]=x at *
  obtain⟨d,tg,f⟩:=x
  obtain⟨n1,fo,fc,hn1,⟨f0,f1,f2,f3,f4⟩,hfo,hfz,hfk⟩:=hfm.open_
  change wr.cell? ⟨b,off+k*15+11,none⟩=_ at f1
  change wr.cell? ⟨b,off+k*15+12,none⟩=_ at f2
  change wr.cell? ⟨b,off+k*15+13,none⟩=_ at f3
  change wr.cell? ⟨b,off+k*15+14,none⟩=_ at f4
  simp only[GdB.sign]at a0 a1 a2 a3 a4 a5 a6 a7 a8 a9 f0 f1 f2 f3 f4 hfo hfk hfz hfm
  obtain⟨tl,htl⟩:∃tl,tl=tg.length:=⟨_,rfl⟩
  rw[←htl]at a9
  have hcA:=alc wr (.cells #[.int .i64 d.kind,.string ⟨d.head.1.toArray⟩,.string ⟨d.head.2.toArray⟩,.string ⟨d.who.toArray⟩,.string ⟨d.b.1.toArray⟩,.string ⟨d.b.2.toArray⟩,.string ⟨d.c.1.toArray⟩,.string ⟨d.c.2.toArray⟩,.string ⟨d.w2.toArray⟩,.slice ta tl tc,.int .i64 f.op,.int .i64 f.k,.string ⟨f.r.1.toArray⟩,.string ⟨f.r.2.toArray⟩,.slice fo f.kids.length fc] 48)
  have hX:=heap_alloc_new wr (.cells #[.int .i64 d.kind,.string ⟨d.head.1.toArray⟩,.string ⟨d.head.2.toArray⟩,.string ⟨d.who.toArray⟩,.string ⟨d.b.1.toArray⟩,.string ⟨d.b.2.toArray⟩,.string ⟨d.c.1.toArray⟩,.string ⟨d.c.2.toArray⟩,.string ⟨d.w2.toArray⟩,.slice ta tl tc,.int .i64 f.op,.int .i64 f.k,.string ⟨f.r.1.toArray⟩,.string ⟨f.r.2.toArray⟩,.slice fo f.kids.length fc] 48)
  have z0:=bC (hX) 0
  have z1:=bC (hX) 1
  have z2:=bC (hX) 2
  have z3:=bC (hX) 3
  have z4:=bC (hX) 4
  have z5:=bC (hX) 5
  have z6:=bC (hX) 6
  have z7:=bC (hX) 7
  have z8:=bC (hX) 8
  have z9:=bC (hX) 9
  have z10:=bC (hX) 10
  have z11:=bC (hX) 11
  have z12:=bC (hX) 12
  have z13:=bC (hX) 13
  have z14:=bC (hX) 14
  simp only[lA,lZ,lS]at z0 z1 z2 z3 z4 z5 z6 z7 z8 z9 z10 z11 z12 z13 z14
  have HQ:=hid (pcheck_nil d tl ta tc (wr.alloc (.cells #[.int .i64 d.kind,.string ⟨d.head.1.toArray⟩,.string ⟨d.head.2.toArray⟩,.string ⟨d.who.toArray⟩,.string ⟨d.b.1.toArray⟩,.string ⟨d.b.2.toArray⟩,.string ⟨d.c.1.toArray⟩,.string ⟨d.c.2.toArray⟩,.string ⟨d.w2.toArray⟩,.slice ta tl tc,.int .i64 f.op,.int .i64 f.k,.string ⟨f.r.1.toArray⟩,.string ⟨f.r.2.toArray⟩,.slice fo f.kids.length fc] 48)))
  unfold signV signBox at HQ
  have HC:=hid (hcw.trans hcA (fun _ _ h=>h))
  clear hrel hcw hfm hby hsh hln hfo hfz hfk hn1 htl hDb hX hcA
  subst hpo
  go_wp2_with fail
  refine HQ.out.mono ?_
  rintro e w5 ⟨rfl,hc5⟩
  have HE:=hid (HC.out.trans hc5 (fun _ _ h=>h))
  clear hc5 HQ
  go_wp2
  go_ret
  exact⟨rfl,HE.out⟩
end
section
open Go.RowKit Go.Maps Go.ChangeMaps Go.WideMaps
end
section
open Go.RowKit
end
section
open Go.RowKit
theorem cred_one8 (x:CredB):∀u∈credCells x,u.oneCell'=true:=by
 intro u hu
 simp only[credCells,List.mem_cons,List.not_mem_nil,or_false]at hu
 rcases hu with rfl|rfl|rfl|rfl|rfl|rfl|rfl|rfl|rfl <;> rfl
theorem credRow_one8 (ls:List CredB):∀u∈credRow ls,u.oneCell'=true:=by
 intro u hu
 unfold credRow at hu
 rw[List.mem_flatMap]at hu
 obtain⟨x,_,hx⟩:=hu
 exact cred_one8 x u hx
theorem credRow_len8 (ls:List CredB):(credRow ls).length=ls.length*9:=by
 unfold credRow
 induction ls with
 | nil=>rfl
 | cons x l ih=>rw[List.flatMap_cons,List.length_append,ih,List.length_cons];simp [credCells];omega
theorem credRow_append8 (a b:List CredB):credRow (a++b)=credRow a++credRow b:=by simp [credRow]
theorem CredAt.cells8 {w:World} {b o:Nat} {c:CredB} (h:CredAt w b o c):∀j,j<9→w.cell? ⟨b,o+j,none⟩=(credCells c)[j]?
 | 0,_=>h.k0
 | 1,_=>h.k1
 | 2,_=>h.k2
 | 3,_=>h.k3
 | 4,_=>h.k4
 | 5,_=>h.k5
 | 6,_=>h.k6
 | 7,_=>h.k7
 | 8,_=>h.k8
 | j+9,h=>absurd h (by omega)
theorem credRow_get8:∀(ls:List CredB) (i j:Nat) (h:i<ls.length) (_:j<9),(credRow ls)[i*9+j]? = (credCells ls[i])[j]?
 | x::l,0,j,_,hj=>by
  rw[Nat.zero_mul,Nat.zero_add,credRow,List.flatMap_cons,List.getElem?_append_left (by simpa [credCells] using hj)]
  rfl
 | x::l,i+1,j,h,hj=>by
  have hl:(credCells x).length=9:=rfl
  have:=credRow_get8 l i j (by simpa using h) hj
  rw[credRow,List.flatMap_cons,List.getElem?_append_right (by rw[hl,Nat.add_mul];omega),hl]
  rw[show (i+1)*9+j-9=i*9+j by rw[Nat.add_mul];omega]
  exact this
theorem credsAt_row {D:Nat→Prop} {w:World} {ad:Addr} {ls:List CredB} (hst:CredsAt D w (some ad) ls) (j:Nat) (u:Value) (hj:(credRow ls)[j]? = some u):w.cell? (ad.add j)=some u:=by
 have hjl:j<(credRow ls).length:=(List.getElem?_eq_some_iff.1 hj).1
 rw[credRow_len8]at hjl
 have hq:j / 9<ls.length:=by omega
 obtain⟨b,off,e,_,h3,_⟩:=hst (j / 9) hq
 cases e
 have h4:=h3.cells8 (j % 9) (by omega)
 have h5:=credRow_get8 ls (j / 9) (j % 9) hq (by omega)
 have h6:j / 9*9+j % 9=j:=by omega
 rw[h6]at h5
 rw[add_off,show off+j=off+j / 9*9+j % 9 by omega,h4,←h5]
 exact hj
theorem credsAt_none {D:Nat→Prop} {w:World} {ls:List CredB} (hst:CredsAt D w none ls):ls=[]:=by
 cases ls with
 | nil=>rfl
 | cons y l=>obtain⟨_,_,e,_⟩:=hst 0 (by simp);cases e
theorem wpList_append_creds {D:Nat→Prop} {ops:Array Oper} {rest:List Oper} {o:Oper} {a:Act} {w:World} {Q:Exit→Act→World→Prop} (hgd:o.guard=none) (s x:Operand)
  (ho:o.op = .call {callee:=.builtin .append,args:=#[s,x],argTypes:=#[26,26]}) (B:Nat) (v:Value) (zs:List CredB) (hs:a.eval s=v) (hown:OwnC B w v zs)
  (ao:Option Addr) (cp:Nat) (ls:List CredB) (hx:a.eval x = .slice ao ls.length cp) (hst:CredsAt D w ao ls) (h0:ao=none→cp=0)
  (hlen:zs.length+ls.length≤33554432) (hB:B≤w.heap.size)
  (h:∀v' w',OwnC B w' v' (zs++ls)→GrownD w w' v.ownBlock→(v'.ownBlock=v.ownBlock∨v'.ownBlock=some w.heap.size)→wpList Tryz.prog ops Q rest (a.put o.dst v') w'):wpList Tryz.prog ops Q (o::rest) a w:=by
 obtain⟨i0,hi,hz0,hz1,hz2⟩:=info_parts Tryz.info34
 cases hao:ao with
 | none=>
  subst hao
  have hl:=credsAt_none hst
  subst hl
  have hcp:=h0 rfl
  subst hcp
  exact wpList_append_own_none hgd s x 26 ho B 34 i0 9 Tryz.underlying26 hi v _ _ hs hown hx (h v w (by rw[List.append_nil];exact hown) (⟨World.grownBy.refl w _,Nat.le_refl _⟩) (.inl rfl))
 | some ad=>
  subst hao
  refine wpList_append_own_atD w hgd s x 26 ho B 34 i0 (.agg #[.int .i64 0,.string ⟨#[]⟩,.string ⟨#[]⟩,.string ⟨#[]⟩,.string ⟨#[]⟩,.string ⟨#[]⟩,.string ⟨#[]⟩,.string ⟨#[]⟩,.string ⟨#[]⟩]) 9 136 Tryz.underlying26 hi hz0 hz1 hz2 rfl (by decide) v _ _ hs hown ad ls.length cp (credRow ls) hx (by rw[credRow_len8]) (fun j u hj=>credsAt_row hst j u hj) (fun u hu=>credRow_one8 ls u hu) (by unfold maxLen;omega) (by omega) hB ?_
  ·intro v' w' hown' hgr _ hat
   exact h v' w' (by unfold OwnC;rw[credRow_append8,List.length_append];exact hown') hgr hat
end
end Go.Proofs.YtkfinhpfdcjoeaaGreat
