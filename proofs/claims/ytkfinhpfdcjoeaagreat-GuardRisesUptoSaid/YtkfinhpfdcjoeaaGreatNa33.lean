/- Texts that the proof leans on, in one: ModelLeastM, FmHolds, End, Defer, Read, FmTrue, GgRoles, GgTold. -/
import Derived.Test.YtkfinhpfdcjoeaaGreatNa32
import Derived.Test.YtkfinhpfdcjoeaaGreatNa3
import Derived.Test.YtkfinhpfdcjoeaaGreatNa6
import Derived.Test.YtkfinhpfdcjoeaaGreatNa5
import Derived.Defers
import Derived.Recover
import Derived.LaidEqlPtr
import Derived.Test.YtkfinhpfdcjoeaaGreatNa28
/- Words for the law ModelLeast: a model is there; the region that joins two lists of credentials. -/
namespace Go.Proofs.YtkfinhpfdcjoeaaGreat
section
open Go.RowKit
theorem risingG_ins {α:Type} {lt:α→α→Bool} (o:Ord lt) (x:α):∀out:List α,RisingG lt out→∃out',RisingG lt out'∧∀y,y∈out'↔y=x∨y∈out
 | [],_=>⟨[x],⟨fun y hy=>(by cases hy),trivial⟩,fun y=>by simp⟩
 | z::l,h=>by
  rcases o.tri x z with h1|h1|h1
  ·refine⟨x::z::l,⟨fun y hy=>?_,h⟩,fun y=>by simp⟩
   rcases List.mem_cons.1 hy with rfl|hy
   ·exact h1
   ·exact o.trans _ _ _ h1 (h.1 y hy)
  ·subst h1
   exact⟨x::l,h,fun y=>by simp⟩
  ·obtain⟨out',h2,h3⟩:=risingG_ins o x l h.2
   refine⟨z::out',⟨fun y hy=>?_,h2⟩,fun y=>?_⟩
   ·rcases (h3 y).1 hy with rfl|hy
    ·exact h1
    ·exact h.1 y hy
   ·simp only[List.mem_cons,h3 y]
    constructor
    ·rintro (h|h|h)
     ·exact .inr (.inl h)
     ·exact .inl h
     ·exact .inr (.inr h)
    ·rintro (h|h|h)
     ·exact .inr (.inl h)
     ·exact .inl h
     ·exact .inr (.inr h)
theorem model_ex (ls:List CredB):∃xs,ModelOf ls xs:=by
 have key:∀ps:List FactB,∃out,RisingG ltF out∧∀y,y∈out↔y∈ps∧Der ls y:=by
  intro ps
  induction ps with
  | nil=>exact⟨[],trivial,fun y=>by simp⟩
  | cons p l ih=>
   obtain⟨out,h1,h2⟩:=ih
   by_cases hd:Der ls p
   ·obtain⟨out',h3,h4⟩:=risingG_ins ltF_ord p out h1
    refine⟨out',h3,fun y=>?_⟩
    rw[h4 y,h2 y,List.mem_cons]
    constructor
    ·rintro (rfl|⟨h,k⟩)
     ·exact⟨.inl rfl,hd⟩
     ·exact⟨.inr h,k⟩
    ·rintro ⟨rfl|h,k⟩
     ·exact .inl rfl
     ·exact .inr ⟨h,k⟩
   ·refine⟨out,h1,fun y=>?_⟩
    rw[h2 y,List.mem_cons]
    constructor
    ·rintro ⟨h,k⟩
     exact⟨.inr h,k⟩
    ·rintro ⟨rfl|h,k⟩
     ·exact absurd k hd
     ·exact⟨h,k⟩
 obtain⟨out,h1,h2⟩:=key (pairsF (ls.map (·.head)) (whosOf ls))
 refine⟨out,h1,fun f=>(h2 f).trans ⟨fun h=>h.2,fun hd=>⟨?_,hd⟩⟩⟩
 unfold pairsF
 rw[List.mem_flatMap]
 obtain⟨c,hc,_,e⟩:=hd.head
 obtain⟨c2,hc2,_,_,e2⟩:=hd.who
 refine⟨f.1,List.mem_map.2 ⟨c,hc,e⟩,List.mem_map.2 ⟨f.2,?_,rfl⟩⟩
 rw[←e2]
 exact whosOf_who hc2
theorem creds_one8 {w:World} {g:Nat} {c:CredB} {ty:TypeId} {f:Nat×Nat} (h:w.heap[g]? = some (.cells (credBox c) ty f)) (hs:credShort c 9223372036854775807):CredsAt (fun k=>k=g) w (some ⟨g,0,none⟩) [c]:=fun i hi=>by
 have:i=0:=by simp at hi;omega
 subst this
 exact⟨g,0,rfl,rfl,cred_at_blk h,hs⟩
theorem own_zero8 {w:World} {B:Nat} (hB:B≤w.heap.size):OwnC B (w.alloc (.cells #[] 34)) (.slice (some ⟨w.heap.size,0,none⟩) 0 0) []:=
 ⟨rfl,.inr ⟨w.heap.size,0,#[],rfl,hB,heap_alloc_new w _,Nat.le_refl _,by unfold maxLen;omega,rfl,rfl⟩⟩
end
section
open Go.RowKit
/-- A function's value says which roles there are. -/
def AskR (gf:Nat) (fi cap:Array Value) (T:RoleB→Bool) (w:World):Prop:=
 ∀(r:RoleB) (W:World),r.1.length≤9223372036854775807→r.2.length≤9223372036854775807→Chg (fun _=>False) w W→Calls Tryz.prog gf (fi.push (.agg #[.string ⟨r.1.toArray⟩,.string ⟨r.2.toArray⟩])++cap) W fun e w'=>e = .returned (.bool (T r))∧Chg (fun _=>False) W w'
theorem AskR.later {gf:Nat} {fi cap:Array Value} {T:RoleB→Bool} {w w':World} (h:AskR gf fi cap T w) (hc:Chg (fun _=>False) w w'):AskR gf fi cap T w':=fun r W h1 h2 hW=>h r W h1 h2 (hc.trans hW (fun _ _ h=>h))
theorem fm_least (op k:Int) (r:RoleB) (ao:Option Addr) (n cp:Nat) (w:World) :
  Calls Tryz.prog 63 #[.agg #[.int .i64 op,.int .i64 k,.string ⟨r.1.toArray⟩,.string ⟨r.2.toArray⟩,.slice ao n cp]] w fun e w'=>e = .returned (.int .i64 (leastN op k n))∧Chg (fun _=>False) w w':=by
 have hc:=alc w (.cells #[.int .i64 op,.int .i64 k,.string ⟨r.1.toArray⟩,.string ⟨r.2.toArray⟩,.slice ao n cp] 46)
 have hb:=heap_alloc_new w (.cells #[.int .i64 op,.int .i64 k,.string ⟨r.1.toArray⟩,.string ⟨r.2.toArray⟩,.slice ao n cp] 46)
 have s0:=bC hb 0
 have s1:=bC hb 1
 have s2:=bC hb 2
 have s3:=bC hb 3
 have s4:=bC hb 4
 simp only[lA,lZ,lS]at s0 s1 s2 s3 s4
 have HC:=hid hc
 clear hc hb
 go_enter Tryz.func63,Tryz.ntmps63
 by_cases h2:op=2
 ·subst h2
  go_wp2
  go_ret
  exact⟨by simp [leastN],HC.out⟩
 ·have z2:decide (op=2)=false:=decide_eq_false h2
  by_cases h3:op=3
  ·subst h3
   go_wp2
   go_ret
   exact⟨by simp [leastN],HC.out⟩
  ·have z3:decide (op=3)=false:=decide_eq_false h3
   go_wp2
   go_ret
   exact⟨by simp [leastN,h2,h3],HC.out⟩
set_option maxRecDepth 100000 in
set_option maxHeartbeats 4000000 in
theorem fm_holds {D:Nat→Prop} (gf:Nat) (fi cap:Array Value) (T:RoleB→Bool) (eg:∀args w,(callFunc gf args).run Tryz.prog w = .ok (.enter gf args) w):∀(n:Nat) (f:FmB) (ao:Option Addr) (cp:Nat) (w:World),FmsAt D w n ao f.kids→FmOk f→nodesF f≤1048576→AskR gf fi cap T w→
  Calls Tryz.prog 37 #[.agg #[.int .i64 f.op,.int .i64 f.k,.string ⟨f.r.1.toArray⟩,.string ⟨f.r.2.toArray⟩,.slice ao f.kids.length cp],.func (.func gf) fi cap] w fun e w'=>e = .returned (.bool (holdsF T f))∧Chg (fun _=>False) w w':=by
 intro n
 induction n using Nat.strongRecOn with
 | _ n ih=>
 intro f ao cp w h hok hN hask
 have hnl:=nodesL_len f.kids
 have hnf:=nodesF_eq f
 have HX:=hid h
 have HIN:=hid ih
 have HOK:=hid hok
 have HAS:=hid hask
 have hcA:=alc w (.cells #[.int .i64 f.op,.int .i64 f.k,.string ⟨f.r.1.toArray⟩,.string ⟨f.r.2.toArray⟩,.slice ao f.kids.length cp] 46)
 have hb:=heap_alloc_new w (.cells #[.int .i64 f.op,.int .i64 f.k,.string ⟨f.r.1.toArray⟩,.string ⟨f.r.2.toArray⟩,.slice ao f.kids.length cp] 46)
 have s0:=bC hb 0
 have s1:=bC hb 1
 have s2:=bC hb 2
 have s3:=bC hb 3
 have s4:=bC hb 4
 simp only[lA,lZ,lS]at s0 s1 s2 s3 s4
 have HC0:=hid hcA
 have HB0:=hid hb
 have HASK:=hid (hask f.r (w.alloc (.cells #[.int .i64 f.op,.int .i64 f.k,.string ⟨f.r.1.toArray⟩,.string ⟨f.r.2.toArray⟩,.slice ao f.kids.length cp] 46)) hok.1 hok.2 hcA)
 clear h ih hok hcA hb hask
 go_enter Tryz.func37,Tryz.ntmps37
 have hhf:=holdsF_eq T f
 by_cases h1:f.op=1
 ·rw[if_pos h1]at hhf
  rw[h1]at s0
  have HASK1:=HASK.out
  rw[h1]at HASK1
  have HASK2:=hid HASK1
  have HC1:=HC0.out
  rw[h1]at HC1
  have HC9:=hid HC1
  clear HASK1 HC1
  go_wp2_with fail
  refine HASK2.out.mono ?_
  rintro e w2 ⟨rfl,hc2⟩
  have HC2:=hid (HC9.out.trans hc2 (fun _ _ h=>h))
  clear hc2 HASK HASK2 HC9 s0 s1 s2 s3 s4
  go_wp2
  go_ret
  rw[hhf]
  exact⟨rfl,HC2.out⟩
 ·rw[if_neg h1]at hhf
  have z0:(f.op==1)=false:=by simpa using h1
  have HHF:=hid hhf
  clear hhf HASK
  go_wp2
  go_loopw [5,18] (fun s i wr=>∃j q:Nat,j≤f.kids.length∧i = .int .i64 j∧s = .int .i64 (q:Nat)∧q≤j∧Hid (q=holdsN T (f.kids.take j))∧Hid (Chg (fun _=>False) (w.alloc (.cells #[.int .i64 f.op,.int .i64 f.k,.string ⟨f.r.1.toArray⟩,.string ⟨f.r.2.toArray⟩,.slice ao f.kids.length cp] 46)) wr)) (fun _ i _=>f.kids.length-(intOf i).toNat)
  case atStart=>exact⟨0,0,Nat.zero_le _,rfl,rfl,Nat.le_refl _,hid (by simp [holdsN]),hid R0⟩
  case round=>
   obtain⟨j,q,hj,rfl,rfl,hqj,hq,hrel⟩:=hrel
   by_cases hlt:j<f.kids.length
   ·have hcw:=HC0.out.trans hrel.out (fun _ _ h=>h)
    obtain⟨b,off,hao,hDb,hat⟩:=(HX.out.keep hcw (fun _ _=>id)) j hlt
    obtain⟨d,ao2,cp2,hd2,⟨a0,a1,a2,a3,a4⟩,hok2,hz2,hkids⟩:=hat.open_
    have hns:=holdsN_snoc T (f.kids.take j) f.kids[j]
    rw[←List.take_succ_eq_append_getElem hlt,←hq.out]at hns
    have hle1:=nodesL_mem (List.getElem_mem hlt)
    generalize f.kids[j]=g at *
    have HNS:=hid hns
    have hcB:=alc wr (.cells #[.int .i64 g.op,.int .i64 g.k,.string ⟨g.r.1.toArray⟩,.string ⟨g.r.2.toArray⟩,.slice ao2 g.kids.length cp2] 46)
    have hnb:=heap_alloc_new wr (.cells #[.int .i64 g.op,.int .i64 g.k,.string ⟨g.r.1.toArray⟩,.string ⟨g.r.2.toArray⟩,.slice ao2 g.kids.length cp2] 46)
    have t0:=bC hnb 0
    have t1:=bC hnb 1
    have t2:=bC hnb 2
    have t3:=bC hnb 3
    have t4:=bC hnb 4
    simp only[lA,lZ,lS]at t0 t1 t2 t3 t4
    have HIH:=hid (HIN.out d hd2 g ao2 cp2 (wr.alloc (.cells #[.int .i64 g.op,.int .i64 g.k,.string ⟨g.r.1.toArray⟩,.string ⟨g.r.2.toArray⟩,.slice ao2 g.kids.length cp2] 46)) (hkids.keep hcB (fun _ _=>id)) hok2 (by omega) (HAS.out.later (hcw.trans hcB (fun _ _ h=>h))))
    have HC1:=hid (hcw.trans hcB (fun _ _ h=>h))
    have HC2:=hid (hrel.out.trans hcB (fun _ _ h=>h))
    have HLT:=hid hlt
    have HZ:=hid z0
    clear hcB hnb hrel hkids hat hle1 hok2 hd2 hns hcw hq s0 s1 s2 s3 s4 z0
    subst hao
    go_wp2_with fail
    refine HIH.out.mono ?_
    rintro e w3 ⟨rfl,hc3⟩
    have HC3:=hid (HC2.out.trans hc3 (fun _ _ h=>h))
    clear HIH HC2 HC1 hc3 a0 a1 a2 a3 a4 t0 t1 t2 t3 t4
    have HQJ:=hid hqj
    cases hg:holdsF T g with
    | false=>
     have HQ2:Hid (q=holdsN T (f.kids.take (j+1))):=hid (by rw[HNS.out,hg];rfl)
     clear hg
     go_wp2
     go_roundw
     case rel=>exact⟨j+1,q,HLT.out,by go_num,rfl,by omega,HQ2,HC3⟩
     case measure=>have:=HLT.out;simp [intOf];omega
    | true=>
     have HQ2:Hid (q+1=holdsN T (f.kids.take (j+1))):=hid (by rw[HNS.out,hg];rfl)
     clear hg
     go_wp2
     go_roundw
     case rel=>exact⟨j+1,q+1,HLT.out,by go_num,by go_num,by omega,HQ2,HC3⟩
     case measure=>have:=HLT.out;simp [intOf];omega
   ·have hje:j=f.kids.length:=by omega
    have hr:=hrel.out
    have hq2:=hq.out
    rw[hje,List.take_length]at hq2
    have HQ:=hid hq2
    have HR:=hid hr
    have HLE:=hid (fm_least f.op f.k f.r ao f.kids.length cp wr)
    have hb:=bE HB0.out hr id
    clear hr hrel hq hq2 s0 s1 s2 s3 s4
    have s0:=bC hb 0
    have s1:=bC hb 1
    have s2:=bC hb 2
    have s3:=bC hb 3
    have s4:=bC hb 4
    simp only[lA,lZ,lS]at s0 s1 s2 s3 s4
    clear hb hje
    go_wp2_with fail
    refine HLE.out.mono ?_
    rintro e w3 ⟨rfl,hc3⟩
    have HC3:=hid ((HC0.out.trans HR.out (fun _ _ h=>h)).trans hc3 (fun _ _ h=>h))
    clear hc3 HLE s0 s1 s2 s3 s4
    go_wp2
    go_ret
    rw[HHF.out,←HQ.out]
    exact⟨rfl,HC3.out⟩
end
section
open Go.RowKit
end
section
open Go.RowKit
end
section
open Go.RowKit
end
section
open Go.RowKit
theorem equalIn_in_nilR (w:World) (d:Nat) (f:Fn) (bs lb:Array Value):(Op.equalIn (d+1) 59 (.func f bs lb) .nilFunc).run Tryz.prog w = .ok false w:=by
 simp [Op.equalIn,run_underlying Tryz.underlying59]
theorem equal_in_nilR (w:World) (f:Fn) (bs lb:Array Value):(Op.equal 59 (.func f bs lb) .nilFunc).run Tryz.prog w = .ok false w:=equalIn_in_nilR w 9999 f bs lb
theorem eql_in_nilR (w:World) (f:Fn) (bs lb:Array Value):(binOp .eql 59 (.func f bs lb) .nilFunc).run Tryz.prog w = .ok (.bool false) w:=by
 simp only[binOp]
 simp [equal_in_nilR w f bs lb]
theorem neq20_nilR (w:World):(binOp .neq 20 .nilIface .nilIface).run Tryz.prog w = .ok (.bool false) w:=by kernel_rfl
theorem postS_endR {fn:Func} {c₀:Frame} {cs:List Frame} {R:Ending→FrameMode→World→Prop} {u:FrameMode} {t:Array Value} {w:World} (hr:fn.results=#[]) (h:R (.returned (.tuple #[])) u w) :
  bodyPostS Tryz.prog fn c₀ cs R .normal {tmps:=t,defers:=[]} ({c₀ with mode:=u}::cs) w:=
 ⟨rfl,u,rfl,.tuple #[],results_none hr _ _ _,h⟩
theorem mode_selfR {c:Frame} {u:FrameMode} (h:c.mode=u):({c with mode:=u}:Frame)=c:=by
 subst h
 rfl
set_option maxRecDepth 100000 in
theorem fm_true1_idle (R:Nat) (w:World) :
  CallsD Tryz.prog 36 #[.pointer (some ⟨R,0,none⟩)] .returning w fun e u' w'=>e = .returned (.tuple #[])∧u' = .returning∧w'=w:=by
 refine callsD_of_wpS Tryz.func36 rfl fun c₀ cs hu=>?_
 simp only[Tryz.ntmps36,List.size_toArray,List.length_cons,List.length_nil,Nat.reduceAdd,Nat.reduceSub,Array.replicate_succ,Array.replicate_zero,List.push_toArray,List.append_toArray,List.nil_append,List.cons_append]
 have hq:=neq20_nilR
 apply wpS_seq
 apply wpS_region
 simp [wpOpsS,go_sem,recoverD,hu,Exit.thenS,hq]
 refine wpS_of_wp ?_
 have HU:=hid (mode_selfR hu)
 clear hu
 go_wp2
 rw[←HU.out]
 exact postS_endR rfl ⟨rfl,rfl,rfl⟩
set_option maxRecDepth 100000 in
set_option maxHeartbeats 4000000 in
theorem fm_true {D:Nat→Prop} (gf:Nat) (fi cap:Array Value) (T:RoleB→Bool) (eg:∀args w,(callFunc gf args).run Tryz.prog w = .ok (.enter gf args) w) (n:Nat) (f:FmB) (ao:Option Addr) (cp:Nat) (w:World) (h:FmsAt D w n ao f.kids) (hD:∀i,D i→i<w.heap.size) (hok:FmOk f) (hN:nodesF f≤4096) (hask:AskR gf fi cap T w) :
  Calls Tryz.prog 20 #[.agg #[.int .i64 f.op,.int .i64 f.k,.string ⟨f.r.1.toArray⟩,.string ⟨f.r.2.toArray⟩,.slice ao f.kids.length cp],.func (.func gf) fi cap] w fun e w'=>e = .returned (.bool (isF f&&holdsF T f))∧Chg (fun _=>False) w w':=by
 have hmf:∀(fn:Fn) (first cap:Array Value) (w:World),(Instr.makeFunc fn first cap).run Tryz.prog w = .ok (.func fn first cap) w:=fun _ _ _ _=>rfl
 have hq:=fun w=>eql_in_nilR w (.func gf) fi cap
 have hc1:=alc w (.cells #[.int .i64 f.op,.int .i64 f.k,.string ⟨f.r.1.toArray⟩,.string ⟨f.r.2.toArray⟩,.slice ao f.kids.length cp] 46)
 have hc2:Chg (fun _=>False) w ((w.alloc (.cells #[.int .i64 f.op,.int .i64 f.k,.string ⟨f.r.1.toArray⟩,.string ⟨f.r.2.toArray⟩,.slice ao f.kids.length cp] 46)).alloc (.cells #[.bool false] 4)):=hc1.alloc _
 have hsz:(w.alloc (.cells #[.int .i64 f.op,.int .i64 f.k,.string ⟨f.r.1.toArray⟩,.string ⟨f.r.2.toArray⟩,.slice ao f.kids.length cp] 46)).heap.size=w.heap.size+1:=by simp
 have hb:=bE (heap_alloc_new w (.cells #[.int .i64 f.op,.int .i64 f.k,.string ⟨f.r.1.toArray⟩,.string ⟨f.r.2.toArray⟩,.slice ao f.kids.length cp] 46)) ((Chg.refl (fun _=>False) (w.alloc (.cells #[.int .i64 f.op,.int .i64 f.k,.string ⟨f.r.1.toArray⟩,.string ⟨f.r.2.toArray⟩,.slice ao f.kids.length cp] 46))).alloc (.cells #[.bool false] 4)) id
 have hbR:=heap_alloc_new (w.alloc (.cells #[.int .i64 f.op,.int .i64 f.k,.string ⟨f.r.1.toArray⟩,.string ⟨f.r.2.toArray⟩,.slice ao f.kids.length cp] 46)) (.cells #[.bool false] 4)
 rw[hsz]at hbR
 have s0:=bC hb 0
 have s1:=bC hb 1
 have s2:=bC hb 2
 have s3:=bC hb 3
 have s4:=bC hb 4
 simp only[lA,lZ,lS]at s0 s1 s2 s3 s4
 have HRT:=hid (fm_right n f ao cp ((w.alloc (.cells #[.int .i64 f.op,.int .i64 f.k,.string ⟨f.r.1.toArray⟩,.string ⟨f.r.2.toArray⟩,.slice ao f.kids.length cp] 46)).alloc (.cells #[.bool false] 4)) (h.keep hc2 (fun _ _=>id)) (fun i hi=>Nat.lt_of_lt_of_le (hD i hi) hc2.size) hok hN)
 have HHO:=hid (fun w' (hc:Chg (fun _=>False) w w')=>fm_holds gf fi cap T eg n f ao cp w' (h.keep hc (fun _ _=>id)) hok (by omega) (hask.later hc))
 have HC0:=hid hc2
 have HB0:=hid (aI hb hbR)
 clear hc1 hc2 hsz hb hbR h hD hok hask
 go_enter_defers Tryz.func20,Tryz.ntmps20
 go_wp2_with fail
 refine HRT.out.mono ?_
 rintro e w3 ⟨rfl,hc3⟩
 have HC:=hid (HC0.out.trans hc3 (fun _ _ h=>h))
 obtain⟨A,hAe⟩:∃A,w.heap.size=A:=⟨_,rfl⟩
 have hb:=bE HB0.out.1 hc3 id
 have hbR:=bE HB0.out.2 hc3 id
 rw[hAe]at hb hbR
 have HAE:=hid hAe
 simp only[hAe]
 clear s0 s1 s2 s3 s4 HRT HC0 HB0 hc3 hAe
 cases hf:isF f with
 | false=>
  have z6:=bC hbR 0
  have f6:=froz_blk hbR 0
  simp only[lA,lZ]at z6
  have hset:(w3.setCell ⟨A+1,0,none⟩ (.bool false)).cell? ⟨A+1,0,none⟩=some (.bool false):=by
   have:=bC (set_blk hbR 0 (.bool false)) 0
   simpa using this
  have hsc:=setCell_chg w3 (A+1) 0 (.bool false)
  have HEND:Hid (Chg (fun _=>False) w (w3.setCell ⟨A+1,0,none⟩ (.bool false))):=hid (HC.out.trans hsc (fun i hi e=>by have:i=A+1:=e;have:=HAE.out;omega))
  have HS:=hid hset
  have HFF:=hid hf
  clear hset hsc hbR hb hf HHO
  go_wp2
  have hc:=HS.out
  simp [bodyPostD,Leaves,results,Tryz.results20,go_sem,hc]
  exact⟨fun h=>(by rw[HFF.out]at h;cases h),HEND.out⟩
 | true=>
  have HFF:=hid hf
  have HHO2:=hid (HHO.out w3 HC.out)
  have s0:=bC hb 0
  have s1:=bC hb 1
  have s2:=bC hb 2
  have s3:=bC hb 3
  have s4:=bC hb 4
  simp only[lA,lZ,lS]at s0 s1 s2 s3 s4
  clear HHO hf
  have HBR:=hid hbR
  clear hbR hb
  go_wp2_with fail
  refine HHO2.out.mono ?_
  rintro e w4 ⟨rfl,hc4⟩
  have hbR:=bE HBR.out hc4 id
  have HC5:=hid (HC.out.trans hc4 (fun _ _ h=>h))
  clear HHO2 hc4 HBR HC
  have HC:=HC5
  have z6:=bC hbR 0
  have f6:=froz_blk hbR 0
  simp only[lA,lZ]at z6
  have hset:(w4.setCell ⟨A+1,0,none⟩ (.bool (holdsF T f))).cell? ⟨A+1,0,none⟩=some (.bool (holdsF T f)):=by
   have:=bC (set_blk hbR 0 (.bool (holdsF T f))) 0
   simpa using this
  have hsc:=setCell_chg w4 (A+1) 0 (.bool (holdsF T f))
  have HEND:Hid (Chg (fun _=>False) w (w4.setCell ⟨A+1,0,none⟩ (.bool (holdsF T f)))):=hid (HC.out.trans hsc (fun i hi e=>by have:i=A+1:=e;have:=HAE.out;omega))
  have HS:=hid hset
  clear hset hsc hbR s0 s1 s2 s3 s4
  go_wp2
  refine leaves_cons (f:=36) (args:=#[.pointer (some ⟨A+1,0,none⟩)]) (by simp) (by simp [go_sem]) ?_
  refine(fm_true1_idle _ _).mono ?_
  rintro e u' w5 ⟨rfl,rfl,rfl⟩
  have hc:=HS.out
  simp [Leaves,settle,results,Tryz.results20,go_sem,hc]
  exact⟨fun _=>HFF.out,HEND.out⟩
end
section
open Go.RowKit
/-- What the guards ask of the program's model. -/
structure MGs (MA:(Nat→Prop)→World→Nat→List CredB→Prop):Prop where
 keep:∀ {O S:Nat→Prop} {w w':World} {g:Nat} {ls:List CredB},MA O w g ls→Chg S w w'→(∀i,O i→¬S i)→MA O w' g ls
 of:∀ {D:Nat→Prop} (ao:Option Addr) (cp:Nat) (ls:List CredB) (w:World),SmallC ls→CredsAt D w ao ls→(ao=none→cp=0)→(∀i,D i→i<w.heap.size)→Calls Tryz.prog 31 #[.slice ao ls.length cp] w fun e w'=>∃g O,e = .returned (.pointer (some ⟨g,0,none⟩))∧MA O w' g ls∧(∀i,O i→w.heap.size≤i)∧Chg (fun _=>False) w w'
 inn:∀ {O:Nat→Prop} (g:Nat) (ls:List CredB) (xs:List FactB) (r:RoleB) (s:List UInt8) (w:World),MA O w g ls→ModelOf ls xs→r.1.length≤9223372036854775807→r.2.length≤9223372036854775807→s.length≤100000→Calls Tryz.prog 33 #[.pointer (some ⟨g,0,none⟩),.agg #[.string ⟨r.1.toArray⟩,.string ⟨r.2.toArray⟩],.string ⟨s.toArray⟩] w fun e w'=>e = .returned (.bool (inM xs s r))∧Chg (fun _=>False) w w'
section
variable {MA:(Nat→Prop)→World→Nat→List CredB→Prop}
set_option maxRecDepth 100000 in
theorem gg_ask (HK:MGs MA) {O:Nat→Prop} (g:Nat) (ls:List CredB) (xs:List FactB) (s:List UInt8) (bm bw:Nat) (w:World) (hm:w.heap[bm]? = some (.cells #[.pointer (some ⟨g,0,none⟩)] 80 (0,0))) (hw:w.heap[bw]? = some (.cells #[.string ⟨s.toArray⟩] 9 (0,0))) (hMA:MA O w g ls) (hx:ModelOf ls xs) (hs:s.length≤1000):AskR 32 #[] #[.pointer (some ⟨bm,0,none⟩),.pointer (some ⟨bw,0,none⟩)] (inM xs s) w:=by
 intro r W h1 h2 hW
 have hal:=alc W (.cells #[.string ⟨r.1.toArray⟩,.string ⟨r.2.toArray⟩] 32)
 have hR:=heap_alloc_new W (.cells #[.string ⟨r.1.toArray⟩,.string ⟨r.2.toArray⟩] 32)
 have hm2:=bE (bE hm hW id) hal id
 have hw2:=bE (bE hw hW id) hal id
 have z0:=bC (hR) 0
 have z1:=bC (hR) 1
 simp only[lA,lZ,lS]at z0 z1
 have y0:=bC hm2 0
 have q0:=bC hw2 0
 simp only[lA,lZ]at y0 q0
 have HH:=hid (HK.inn g ls xs r s _ (HK.keep (HK.keep hMA hW (fun _ _=>id)) hal (fun _ _=>id)) hx h1 h2 (by omega))
 have HA:=hid hal
 show Calls Tryz.prog 32 #[.agg #[.string ⟨r.1.toArray⟩,.string ⟨r.2.toArray⟩],.pointer (some ⟨bm,0,none⟩),.pointer (some ⟨bw,0,none⟩)] W _
 clear hm hw hm2 hw2 hW hal hR hMA hx h1 h2
 go_enter Tryz.func32,Tryz.ntmps32
 go_wp2_with fail
 refine HH.out.mono ?_
 rintro e w5 ⟨rfl,hc5⟩
 have HC:=hid (HA.out.trans hc5 (fun _ _ h=>h))
 clear hc5 HH
 go_wp2
 go_ret
 exact⟨rfl,HC.out⟩
theorem gg_ent (args:Array Value) (w:World):(callFunc 32 args).run Tryz.prog w = .ok (.enter 32 args) w:=enters Tryz.func32 rfl rfl args w
/-- A function's value, told. -/
def RolesPostG (ls:List CredB) (s:List UInt8) (w:World) (e:Ending) (w':World):Prop:=∃(bm bw:Nat) (xs:List FactB),e = .returned (.func (.func 32) #[] #[.pointer (some ⟨bm,0,none⟩),.pointer (some ⟨bw,0,none⟩)])∧ModelOf ls xs∧AskR 32 #[] #[.pointer (some ⟨bm,0,none⟩),.pointer (some ⟨bw,0,none⟩)] (inM xs s) w'∧Chg (fun _=>False) w w'
set_option maxRecDepth 100000 in
set_option maxHeartbeats 4000000 in
theorem gg_roles (HK:MGs MA) {G:Nat→Prop} (ho:Option Addr) (hc:Nat) (ls:List CredB) (s:List UInt8) (w:World) (hst:CredsAt G w ho ls) (hG:∀i,G i→i<w.heap.size) (hz:ho=none→hc=0) (htl:totalC ls≤20000) (hsl:s.length≤1000) :
  Calls Tryz.prog 18 #[.string ⟨s.toArray⟩,.slice ho ls.length hc] w (RolesPostG ls s w):=by
 have hmf:∀(fn:Fn) (first cap:Array Value) (w:World),(Instr.makeFunc fn first cap).run Tryz.prog w = .ok (.func fn first cap) w:=fun _ _ _ _=>rfl
 have k1:=alc w (.cells #[.string ⟨s.toArray⟩] 9)
 have HS:=hid (heap_alloc_new w (.cells #[.string ⟨s.toArray⟩] 9))
 have HOF:=hid (HK.of ho hc ls (w.alloc (.cells #[.string ⟨s.toArray⟩] 9)) (SmallC.of htl) (hst.keep k1 (fun _ _=>id)) hz (fun i hi=>by have:=hG i hi;have:=k1.size;omega))
 have HB:=hid (aI k1 hsl)
 clear k1 hst hG hz htl hsl
 go_enter Tryz.func18,Tryz.ntmps18
 go_wp2_with fail
 refine HOF.out.mono ?_
 rintro e w5 ⟨g,O,rfl,hMA,_,hc5⟩
 have k6:=alc w5 (.cells #[.pointer (some ⟨g,0,none⟩)] 80)
 obtain⟨xs,hxs⟩:=model_ex ls
 have HE:=hid (aI hxs (aI (gg_ask HK g ls xs s w5.heap.size w.heap.size _ (heap_alloc_new w5 (.cells #[.pointer (some ⟨g,0,none⟩)] 80)) (bE (bE HS.out hc5 id) k6 id) (HK.keep hMA k6 (fun _ _=>id)) hxs HB.out.2) ((HB.out.1.trans hc5 (fun _ _ h=>h)).trans k6 (fun _ _ h=>h))))
 clear hMA hc5 k6 hxs HOF
 go_wp2
 go_ret
 exact⟨_,_,xs,rfl,HE.out.1,HE.out.2.1,HE.out.2.2⟩
end
end
section
open Go.RowKit
def toldA (T:RoleB→Bool) (r:RoleB) (a:AkB):Bool:=!decide (a.role=r)||(isF a.rel&&holdsF T a.rel)
theorem toldB_eq (T:RoleB→Bool) (p:PartyB) (r:RoleB):toldB T p r=p.acks.all (toldA T r):=rfl
theorem told_no {T:RoleB→Bool} {p:PartyB} {r:RoleB} {k:Nat} (h:k<p.acks.length) (hn:toldA T r p.acks[k]=false):toldB T p r=false:=by
 rw[toldB_eq,List.all_eq_false]
 exact⟨_,List.getElem_mem h,by rw[hn];simp⟩
section
variable {MA:(Nat→Prop)→World→Nat→List CredB→Prop}
attribute [local go_sem ↓ high] run_eqg_role run_eql_role
set_option maxRecDepth 100000 in
set_option maxHeartbeats 4000000 in
theorem gg_told (HK:MGs MA) {D:Nat→Prop} (n:Nat) (p:PartyB) (po:Option Addr) (pc:Nat) (ao:Option Addr) (ac:Nat) {G:Nat→Prop} (ho:Option Addr) (hc:Nat) (ls:List CredB) (s:List UInt8) (r:RoleB) (w:World) (hp:PartyAt D w n p po pc ao ac) (hg:greatP p≤4000) (hst:CredsAt G w ho ls) (hG:∀i,G i→i<w.heap.size) (hz:ho=none→hc=0) (htl:totalC ls≤20000) (hsl:s.length≤1000) :
  Calls Tryz.prog 11 #[.agg #[.string ⟨p.name.toArray⟩,.slice po p.creds.length pc,.slice ao p.acks.length ac],.agg #[.string ⟨r.1.toArray⟩,.string ⟨r.2.toArray⟩],.slice ho ls.length hc,.string ⟨s.toArray⟩] w fun e w'=>∃xs,e = .returned (.bool (toldB (inM xs s) p r))∧ModelOf ls xs∧Chg (fun _=>False) w w':=by
 have hs1:(w.alloc (.cells #[.string ⟨p.name.toArray⟩,.slice po p.creds.length pc,.slice ao p.acks.length ac] 25)).heap.size=w.heap.size+1:=by simp
 have k1:=alc w (.cells #[.string ⟨p.name.toArray⟩,.slice po p.creds.length pc,.slice ao p.acks.length ac] 25)
 have k2:=alc (w.alloc (.cells #[.string ⟨p.name.toArray⟩,.slice po p.creds.length pc,.slice ao p.acks.length ac] 25)) (.cells #[.string ⟨r.1.toArray⟩,.string ⟨r.2.toArray⟩] 32)
 have hP:=bE (heap_alloc_new w (.cells #[.string ⟨p.name.toArray⟩,.slice po p.creds.length pc,.slice ao p.acks.length ac] 25)) k2 id
 have hR:=heap_alloc_new (w.alloc (.cells #[.string ⟨p.name.toArray⟩,.slice po p.creds.length pc,.slice ao p.acks.length ac] 25)) (.cells #[.string ⟨r.1.toArray⟩,.string ⟨r.2.toArray⟩] 32)
 rw[hs1]at hR
 have hk:=k1.trans k2 (fun _ _ h=>h)
 have HRO:=hid (gg_roles HK ho hc ls s ((w.alloc (.cells #[.string ⟨p.name.toArray⟩,.slice po p.creds.length pc,.slice ao p.acks.length ac] 25)).alloc (.cells #[.string ⟨r.1.toArray⟩,.string ⟨r.2.toArray⟩] 32)) (hst.keep hk (fun _ _=>id)) (fun i hi=>by have:=hG i hi;have:=hk.size;omega) hz htl hsl)
 have HB:=hid (aI hP (aI hR hk))
 have HP:=hid hp
 have hgp:=gp_acks hg
 have HGP:=hid hgp.2.2
 have hla:=hgp.1
 clear hs1 k1 k2 hP hR hk hp hg hgp hst hG hz htl hsl
 go_enter Tryz.func11,Tryz.ntmps11
 go_wp2_with fail
 refine HRO.out.mono ?_
 rintro e w3 ⟨bm,bw,xs,rfl,hxs,hask,hc3⟩
 have hP3:=bE HB.out.1 hc3 id
 have y0:=bC (hP3) 0
 have y1:=bC (hP3) 1
 have y2:=bC (hP3) 2
 simp only[lA,lZ,lS]at y0 y1 y2
 have HX:=hid (aI (bE HB.out.2.1 hc3 id) (aI hask (aI (HB.out.2.2.trans hc3 (fun _ _ h=>h)) hxs)))
 clear hP3 hask hc3 hxs HRO
 go_wp2
 clear y0 y1 y2
 go_loopw [18] (fun i wr=>∃(k:Nat),k≤p.acks.length∧i = .int .i64 k∧Hid ((p.acks.take k).all (toldA (inM xs s) r)=true∧Chg (fun _=>False) w3 wr)) (fun i _=>p.acks.length-(intOf i).toNat)
 case atStart=>exact⟨0,Nat.zero_le _,rfl,hid ⟨rfl,Chg.refl _ _⟩⟩
 case round=>
  obtain⟨k,hk,rfl,hrel⟩:=hrel
  by_cases hlt:k<p.acks.length
  ·have hcw:=HX.out.2.2.1.trans hrel.out.2 (fun _ _ h=>h)
   obtain⟨b,off,hao,_,⟨⟨a0,a1,hr1,hr2⟩,hfm,⟨co,cc,a7,hcz,hcr⟩⟩⟩:=(HP.out.aks.keep hcw (fun _ _=>id)) k hlt
   have HNF:Hid (nodesF (p.acks[k]).rel≤200):=hid (Nat.le_trans (great_nodes _) (HGP.out _ (List.getElem_mem hlt)).2)
   have HY:Hid (toldA (inM xs s) r p.acks[k]=true→(p.acks.take (k+1)).all (toldA (inM xs s) r)=true):=hid (fun h=>by
    rw[List.take_succ_eq_append_getElem hlt,List.all_append,hrel.out.1]
    simp [h])
   have HN:Hid (toldA (inM xs s) r p.acks[k]=false→toldB (inM xs s) p r=false):=hid (told_no hlt)
   generalize p.acks[k]=x at *
   obtain⟨q,f,cl⟩:=x
   obtain⟨n1,fo,fc,hn1,⟨f0,f1,f2,f3,f4⟩,hfo,hfz,hfk⟩:=hfm.open_
   change wr.cell? ⟨b,off+k*8+3,none⟩=_ at f1
   change wr.cell? ⟨b,off+k*8+4,none⟩=_ at f2
   change wr.cell? ⟨b,off+k*8+5,none⟩=_ at f3
   change wr.cell? ⟨b,off+k*8+6,none⟩=_ at f4
   simp only[]at a0 a1 a7 f0 f1 f2 f3 f4 hfo hfk hfz HNF HY HN
   have hcA:=alc wr (.cells #[.string ⟨q.1.toArray⟩,.string ⟨q.2.toArray⟩,.int .i64 f.op,.int .i64 f.k,.string ⟨f.r.1.toArray⟩,.string ⟨f.r.2.toArray⟩,.slice fo f.kids.length fc,.slice co cl.length cc] 54)
   have hX:=heap_alloc_new wr (.cells #[.string ⟨q.1.toArray⟩,.string ⟨q.2.toArray⟩,.int .i64 f.op,.int .i64 f.k,.string ⟨f.r.1.toArray⟩,.string ⟨f.r.2.toArray⟩,.slice fo f.kids.length fc,.slice co cl.length cc] 54)
   have z0:=bC (hX) 0
   have z1:=bC (hX) 1
   have z2:=bC (hX) 2
   have z3:=bC (hX) 3
   have z4:=bC (hX) 4
   have z5:=bC (hX) 5
   have z6:=bC (hX) 6
   have z7:=bC (hX) 7
   simp only[lA,lZ,lS]at z0 z1 z2 z3 z4 z5 z6 z7
   have hRw:=bE (bE HX.out.1 hrel.out.2 id) hcA id
   have y0:=bC (hRw) 0
   have y1:=bC (hRw) 1
   simp only[lA,lZ,lS]at y0 y1
   have HTR:=hid (fm_true 32 #[] #[.pointer (some ⟨bm,0,none⟩),.pointer (some ⟨bw,0,none⟩)] (inM xs s) gg_ent n1 f fo fc (wr.alloc (.cells #[.string ⟨q.1.toArray⟩,.string ⟨q.2.toArray⟩,.int .i64 f.op,.int .i64 f.k,.string ⟨f.r.1.toArray⟩,.string ⟨f.r.2.toArray⟩,.slice fo f.kids.length fc,.slice co cl.length cc] 54)) (hfk.keep hcA (fun _ _=>id)) (fun i hi=>by have:=HP.out.lt i hi;have:=(hcw.trans hcA (fun _ _ h=>h)).size;omega) hfo (by have:=HNF.out;omega) (HX.out.2.1.later (hrel.out.2.trans hcA (fun _ _ h=>h))))
   have HCN:=hid (aI (hrel.out.2.trans hcA (fun _ _ h=>h)) (hcw.trans hcA (fun _ _ h=>h)))
   clear hrel hcw hcA hX hRw hfm hfo hfz hfk hcz hcr hr1 hr2 hn1
   subst hao
   by_cases he:q=r
   ·have e1:decide (q=r)=true:=decide_eq_true he
    have HE:Hid (toldA (inM xs s) r ⟨q,f,cl⟩=(isF f&&holdsF (inM xs s) f)):=hid (by unfold toldA;rw[show decide ((⟨q,f,cl⟩:AkB).role=r)=true from e1];rfl)
    clear he
    go_wp2_with fail
    refine HTR.out.mono ?_
    rintro e w5 ⟨rfl,hc5⟩
    have HC5:=hid (aI (HCN.out.1.trans hc5 (fun _ _ h=>h)) (HCN.out.2.trans hc5 (fun _ _ h=>h)))
    clear hc5 HTR
    cases hh:(isF f&&holdsF (inM xs s) f) with
    | true=>
     have HT:=hid (HY.out (HE.out.trans hh))
     clear hh
     go_wp2
     go_roundw
     case rel=>exact⟨k+1,by omega,by go_num,hid ⟨HT.out,HC5.out.1⟩⟩
     case measure=>simp [intOf];omega
    | false=>
     have HT:=hid (HN.out (HE.out.trans hh))
     clear hh
     go_wp2
     go_ret
     exact⟨xs,by rw[HT.out];rfl,HX.out.2.2.2,HC5.out.2⟩
   ·have e1:decide (q=r)=false:=decide_eq_false he
    have HT:Hid _:=hid (HY.out (by unfold toldA;rw[show decide ((⟨q,f,cl⟩:AkB).role=r)=false from e1];rfl))
    clear he
    go_wp2
    go_roundw
    case rel=>exact⟨k+1,by omega,by go_num,hid ⟨HT.out,HCN.out.1⟩⟩
    case measure=>simp [intOf];omega
  ·have hk2:k=p.acks.length:=by omega
   have HE:Hid (toldB (inM xs s) p r=true∧Chg (fun _=>False) w wr):=hid ⟨by have:=hrel.out.1;rw[hk2,List.take_length]at this;exact this,HX.out.2.2.1.trans hrel.out.2 (fun _ _ h=>h)⟩
   clear hrel hk2
   go_wp2
   go_ret
   exact⟨xs,by rw[HE.out.1];rfl,HX.out.2.2.2,HE.out.2⟩
end
end
end Go.Proofs.YtkfinhpfdcjoeaaGreat
