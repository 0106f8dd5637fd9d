/- Texts that the proof leans on, in one: NnBro, NnOf. -/
import Derived.Test.YtkfinhpfdcjoeaaGreatNa23
import Derived.Laws.MakeOwn
import Derived.Laws.ResultCell
/- A right formula is brought into shape, in memory of the call's own. -/
namespace Go.Proofs.YtkfinhpfdcjoeaaGreat
section
open Go.RowKit Go.Lib Go.Sort
theorem run_makeFms (n:Nat) (hn:n≤1000000) (w:World):(Instr.makeSlice 44 (.int .i64 n) (.int .i64 n)).run Tryz.prog w = .ok (.slice (some ⟨w.heap.size,0,none⟩) n n) (w.alloc (.cells (madeCells fmZero.toArray (n*5)) 46)):=by
 obtain⟨i0,hi,hz0,hz1,hz2⟩:=info_parts Tryz.info46
 have:=run_make (P:=Tryz.prog) w 44 46 i0 (.agg fmZero.toArray) Tryz.underlying44b hi hz0 .i64 .i64 n n (by omega) (Int.le_refl _) (by rw[hz2];omega) (by omega)
 rw[hz1]at this
 simpa [Value.cells] using this
theorem hold_made (w:World) (n:Nat):HoldA (w.alloc (.cells (madeCells fmZero.toArray (n*5)) 46)) w.heap.size n (List.replicate n (default:AT)).toArray:=by
 refine⟨⟨_,heap_alloc_new w _,size_madeCells _ _⟩,fun j hj i hi=>?_⟩
 have hj':j<n:=by simpa using hj
 have e:(List.replicate n (default:AT)).toArray[j]! = default:=by simp [hj']
 rw[e,bC (heap_alloc_new w _)]
 have hlt:j*5+i<n*5:=by omega
 have:(madeCells fmZero.toArray (n*5))[j*5+i]? = some (fmZero.toArray[(j*5+i) % 5]!):=by
  unfold madeCells
  simp [hlt,fmZero]
 rw[this,show (j*5+i) % 5=i by omega]
 rcases (show i=0∨i=1∨i=2∨i=3∨i=4 by omega) with rfl|rfl|rfl|rfl|rfl <;> rfl
/-- Within the loop, behind the first j Kids. -/
structure BrIn (w:World) (f:FmB) (ao:Option Addr) (cp n j:Nat) (ts:List AT) (wr:World):Prop where
 len:ts.length=j
 sh:ShapeL (f.kids.take j) (ts.map eraseA)
 hold:HoldA wr (w.heap.size+2) n (ts++List.replicate (n-j) (default:AT)).toArray
 own:OwnL w.heap.size wr ts
 nd:(blksL ts).Nodup
 lo:∀b∈blksL ts,w.heap.size+3≤b
 a:wr.heap[w.heap.size]? = some (.cells #[.int .i64 f.op,.int .i64 f.k,.string ⟨f.r.1.toArray⟩,.string ⟨f.r.2.toArray⟩,.slice ao f.kids.length cp] 46 (0,0))
 z:wr.heap[w.heap.size+1]? = some (.cells #[.int .i64 0,.int .i64 0,.string ⟨#[]⟩,.string ⟨#[]⟩,.slice none 0 0] 46 (0,0))
 chg:Chg (fun _=>False) w wr
theorem set_mid (ts:List AT) (x:AT) (n:Nat) (h:ts.length<n):(ts++List.replicate (n-ts.length) (default:AT)).toArray.setIfInBounds ts.length x=((ts++[x])++List.replicate (n-(ts.length+1)) (default:AT)).toArray:=by
 obtain⟨m,hm⟩:∃m,n-ts.length=m+1:=⟨n-ts.length-1,by omega⟩
 rw[hm,show n-(ts.length+1)=m by omega,List.replicate_succ]
 simp
theorem BrIn.step {w:World} {f:FmB} {ao:Option Addr} {cp n j:Nat} {ts:List AT} {wr w1 w2:World} {x:AT} (h:BrIn w f ao cp n j ts wr) (hn:n=f.kids.length) (hj:j<n) (hc1:Chg (fun _=>False) wr w1) (hx:OwnA w1.heap.size w2 x) (hnd:(blksA x).Nodup) (hsh:ShapeR (f.kids[j]'(by omega)) (eraseA x)) (hc2:Chg (fun _=>False) w1 w2) :
  BrIn w f ao cp n (j+1) (ts++[x]) (putA w2 (w.heap.size+2) (j*5) x):=by
 have hc:Chg (fun _=>False) wr w2:=hc1.trans hc2 (fun _ _ h=>h)
 have hG:=h.hold.blk
 obtain⟨cur,hG,_⟩:=hG
 have hGl:=lt_blk hG
 have hs1:=hc1.size
 have hcp:Chg (fun k=>k=w.heap.size+2) w2 (putA w2 (w.heap.size+2) (j*5) x):=by rw[putA_eq];exact chg_setCellsA _ _ _
 have hxl:=ownA_lt x hx
 have htl:=ownL_lt h.own
 have hlen:=h.len
 refine⟨by simp [hlen],?_,?_,?_,?_,?_,bE (bE h.a hc id) hcp (by omega),bE (bE h.z hc id) hcp (by omega),(h.chg.trans hc (fun _ _ h=>h)).trans hcp (fun i hi e=>by omega)⟩
 ·rw[List.take_succ_eq_append_getElem (by omega),List.map_append]
  exact h.sh.snoc hsh
 ·have:=(h.hold.keep hc id).set (k:=j) (u:=x) (by simp [hlen];omega) (by simp [hlen];omega)
  have e:=set_mid ts x n (by omega)
  rw[hlen]at e
  rw[e]at this
  exact this
 ·refine(ownL_all _ _ _).2 fun t ht=>?_
  rcases List.mem_append.1 ht with ht|ht
  ·have ht0:=(ownL_all _ _ _).1 h.own t ht
   exact ownA_keep hcp t (ownA_keep hc t ht0 (fun _ _=>id)) (fun b hb e=>by
    have:=h.lo b (by rw[blksL_flat];exact List.mem_flatMap.2 ⟨t,ht,hb⟩)
    omega)
  ·rw[List.mem_singleton.1 ht]
   have:=h.chg.size
   exact ownA_low (by omega) x (ownA_keep hcp x hx (fun b hb e=>by have:=(hxl b hb).1;omega))
 ·rw[blksL_app,blksL_one]
  refine List.nodup_append.2 ⟨h.nd,hnd,fun a ha b hb e=>?_⟩
  have:=(htl a ha).2
  have:=(hxl b hb).1
  omega
 ·intro b hb
  rw[blksL_app,blksL_one,List.mem_append]at hb
  rcases hb with hb|hb
  ·exact h.lo b hb
  ·have:=(hxl b hb).1
   omega
theorem BrIn.rw {w:World} {f:FmB} {ao:Option Addr} {cp n:Nat} {ts:List AT} {wr:World} (h:BrIn w f ao cp n n ts wr) (hn:n≤4000):OwnRw w.heap.size wr (.slice (some ⟨w.heap.size+2,0,none⟩) n n) ts:=by
 have hh:=h.hold
 rw[Nat.sub_self,List.replicate_zero,List.append_nil]at hh
 have hr:=hh.own (B:=w.heap.size) (by omega) (by rw[h.len];exact Nat.le_refl _) (by unfold maxLen;omega)
 rw[h.len]at hr
 refine⟨by rw[h.len];exact hr,h.own,List.nodup_append.2 ⟨by simp [Value.ownBlock],h.nd,fun a ha b hb e=>?_⟩⟩
 have ha:a=w.heap.size+2:=by simpa [Value.ownBlock] using ha
 have:=h.lo b hb
 omega
set_option maxRecDepth 100000 in
set_option maxHeartbeats 8000000 in
theorem pbrought {D:Nat→Prop}:∀(N:Nat) (f:FmB),nodesF f≤N→∀(m:Nat) (ao:Option Addr) (cp:Nat) (w:World),FmsAt D w m ao f.kids→(∀i,D i→i<w.heap.size)→FmOk f→rightF f=true→nodesF f≤4000→
  Calls Tryz.prog 62 #[.agg #[.int .i64 f.op,.int .i64 f.k,.string ⟨f.r.1.toArray⟩,.string ⟨f.r.2.toArray⟩,.slice ao f.kids.length cp]] w (ShapePost w.heap.size w [] (ShapeR f)):=by
 intro N
 induction N with
 | zero=>intro f hf;have:=nodesF_pos f;omega
 | succ N ih=>
 intro f hNf m ao cp w h hD hok hr hN4
 have hrn:=hr
 rw[rightF_eq,Bool.and_eq_true]at hrn
 have hcA:=alc w (.cells #[.int .i64 f.op,.int .i64 f.k,.string ⟨f.r.1.toArray⟩,.string ⟨f.r.2.toArray⟩,.slice ao f.kids.length cp] 46)
 have hba0:=heap_alloc_new w (.cells #[.int .i64 f.op,.int .i64 f.k,.string ⟨f.r.1.toArray⟩,.string ⟨f.r.2.toArray⟩,.slice ao f.kids.length cp] 46)
 have s0:=bC hba0 0
 have s1:=bC hba0 1
 have s2:=bC hba0 2
 have s3:=bC hba0 3
 have s4:=bC hba0 4
 simp only[lA,lZ,lS]at s0 s1 s2 s3 s4
 by_cases h1:f.op=1
 ·have hpr:ShapeR f (.mk 1 0 f.r []):=by rw[shapeR_eq,if_pos h1]
  have hz1:(w.alloc (.cells #[.int .i64 f.op,.int .i64 f.k,.string ⟨f.r.1.toArray⟩,.string ⟨f.r.2.toArray⟩,.slice ao f.kids.length cp] 46)).heap.size=w.heap.size+1:=by simp
  have HX:=hid (aI hok (aI hpr (aI hcA hz1)))
  clear ih hNf h hD hok hr hN4 hrn hcA hba0 hpr hz1
  obtain⟨fo,fk,fr,fl⟩:=f
  simp only[FmB.op,FmB.k,FmB.r,FmB.kids]at *
  subst h1
  go_enter Tryz.func62,Tryz.ntmps62
  go_wp2
  refine bodyPost_ret (results_cell_row (P:=Tryz.prog) rfl _ _ (w.heap.size+1) 46 _ (0,0) _ rfl (by
   have:=heap_alloc_new (w.alloc (.cells #[.int .i64 1,.int .i64 fk,.string ⟨fr.1.toArray⟩,.string ⟨fr.2.toArray⟩,.slice ao fl.length cp] 46)) (.cells #[.int .i64 1,.int .i64 0,.string ⟨fr.1.toArray⟩,.string ⟨fr.2.toArray⟩,.slice none 0 0] 46)
   rw[HX.out.2.2.2]at this
   exact this) Tryz.underlying46 rfl (by kernel_rfl)) rfl ?_
  refine⟨.mk 1 0 fr (.slice none 0 0) [],rfl,?_,by simp [blksA,blksL,Value.ownBlock],fun b hb=>by simp [blksA,blksL,Value.ownBlock]at hb,HX.out.2.1,HX.out.2.2.1.alloc _⟩
  rw[ownA_eq]
  exact⟨HX.out.1,World.ownsRow_nil _ _ _ _,trivial⟩
 ·have z1:(f.op==1)=false:=by simpa using h1
  have hnk:f.kids.length≤4000:=by have:=nodesL_len f.kids;have:=nodesF_eq f;omega
  have hmk:=run_makeFms f.kids.length (by omega)
  have hst0:BrIn w f ao cp f.kids.length 0 [] (((w.alloc (.cells #[.int .i64 f.op,.int .i64 f.k,.string ⟨f.r.1.toArray⟩,.string ⟨f.r.2.toArray⟩,.slice ao f.kids.length cp] 46)).alloc (.cells #[.int .i64 0,.int .i64 0,.string ⟨#[]⟩,.string ⟨#[]⟩,.slice none 0 0] 46)).alloc (.cells (madeCells fmZero.toArray (f.kids.length*5)) 46)):=by
   have e1:(w.alloc (.cells #[.int .i64 f.op,.int .i64 f.k,.string ⟨f.r.1.toArray⟩,.string ⟨f.r.2.toArray⟩,.slice ao f.kids.length cp] 46)).heap.size=w.heap.size+1:=by simp
   have e2:((w.alloc (.cells #[.int .i64 f.op,.int .i64 f.k,.string ⟨f.r.1.toArray⟩,.string ⟨f.r.2.toArray⟩,.slice ao f.kids.length cp] 46)).alloc (.cells #[.int .i64 0,.int .i64 0,.string ⟨#[]⟩,.string ⟨#[]⟩,.slice none 0 0] 46)).heap.size=w.heap.size+2:=by simp
   have k1:=(Chg.refl (fun _=>False) (w.alloc (.cells #[.int .i64 f.op,.int .i64 f.k,.string ⟨f.r.1.toArray⟩,.string ⟨f.r.2.toArray⟩,.slice ao f.kids.length cp] 46))).alloc (.cells #[.int .i64 0,.int .i64 0,.string ⟨#[]⟩,.string ⟨#[]⟩,.slice none 0 0] 46)
   have k2:=(Chg.refl (fun _=>False) ((w.alloc (.cells #[.int .i64 f.op,.int .i64 f.k,.string ⟨f.r.1.toArray⟩,.string ⟨f.r.2.toArray⟩,.slice ao f.kids.length cp] 46)).alloc (.cells #[.int .i64 0,.int .i64 0,.string ⟨#[]⟩,.string ⟨#[]⟩,.slice none 0 0] 46))).alloc (.cells (madeCells fmZero.toArray (f.kids.length*5)) 46)
   have hh:=hold_made ((w.alloc (.cells #[.int .i64 f.op,.int .i64 f.k,.string ⟨f.r.1.toArray⟩,.string ⟨f.r.2.toArray⟩,.slice ao f.kids.length cp] 46)).alloc (.cells #[.int .i64 0,.int .i64 0,.string ⟨#[]⟩,.string ⟨#[]⟩,.slice none 0 0] 46)) f.kids.length
   rw[e2]at hh
   have hz:=heap_alloc_new (w.alloc (.cells #[.int .i64 f.op,.int .i64 f.k,.string ⟨f.r.1.toArray⟩,.string ⟨f.r.2.toArray⟩,.slice ao f.kids.length cp] 46)) (.cells #[.int .i64 0,.int .i64 0,.string ⟨#[]⟩,.string ⟨#[]⟩,.slice none 0 0] 46)
   rw[e1]at hz
   exact⟨rfl,by rw[List.take_zero];rw[List.map_nil,ShapeL],by rw[Nat.sub_zero,List.nil_append];exact hh,trivial,by simp [blksL],fun b hb=>by simp [blksL]at hb,bE (bE hba0 k1 id) k2 id,bE hz k2 id,(hcA.trans k1 (fun _ _ h=>h)).trans k2 (fun _ _ h=>h)⟩
  have HST0:=hid hst0
  have H:=hid (aI h (aI hD (aI hok (aI hrn (aI hN4 hNf)))))
  have HIH:=hid ih
  clear ih hNf h hD hok hr hN4 hrn hcA hba0 hst0
  go_enter Tryz.func62,Tryz.ntmps62
  go_wp2
  clear hmk s0 s1 s2 s3 s4
  go_loopw [19] (fun i wr=>∃(j:Nat) (ts:List AT),j≤f.kids.length∧i = .int .i64 j∧Hid (BrIn w f ao cp f.kids.length j ts wr)) (fun i _=>f.kids.length-(intOf i).toNat)
  case atStart=>exact⟨0,[],Nat.zero_le _,rfl,HST0⟩
  case round=>
   obtain⟨j,ts,hj,rfl,hrel⟩:=hrel
   have HX0:=hrel
   by_cases hlt:j<f.kids.length
   ·obtain⟨b,off,hao,hDb,hat⟩:=(H.out.1.keep hrel.out.chg (fun _ _=>id)) j hlt
    obtain⟨d,ao2,cp2,hd2,⟨a0,a1,a2,a3,a4⟩,hok2,hz2,hkids⟩:=hat.open_
    have hSTP:=fun(x:AT) (w1 w2:World) c1 (e:OwnA w1.heap.size w2 x) e1 e2 e3=>hrel.out.step (x:=x) (w1:=w1) (w2:=w2) rfl hlt c1 e e1 e2 e3
    have hle1:=nodesL_mem (List.getElem_mem hlt)
    have hrg:=rightL_mem H.out.2.2.2.1.1 _ (List.getElem_mem hlt)
    generalize f.kids[j]=g at *
    have hng:nodesF g≤N∧nodesF g≤4000:=by have:=H.out.2.2.2.2.1;have:=H.out.2.2.2.2.2;have:=nodesF_eq f;omega
    have hcB:=alc wr (.cells #[.int .i64 g.op,.int .i64 g.k,.string ⟨g.r.1.toArray⟩,.string ⟨g.r.2.toArray⟩,.slice ao2 g.kids.length cp2] 46)
    have hnb:=heap_alloc_new wr (.cells #[.int .i64 g.op,.int .i64 g.k,.string ⟨g.r.1.toArray⟩,.string ⟨g.r.2.toArray⟩,.slice ao2 g.kids.length cp2] 46)
    have t0:=bC hnb 0
    have t1:=bC hnb 1
    have t2:=bC hnb 2
    have t3:=bC hnb 3
    have t4:=bC hnb 4
    simp only[lA,lZ,lS]at t0 t1 t2 t3 t4
    have hDl:∀i,D i→i<(wr.alloc (.cells #[.int .i64 g.op,.int .i64 g.k,.string ⟨g.r.1.toArray⟩,.string ⟨g.r.2.toArray⟩,.slice ao2 g.kids.length cp2] 46)).heap.size:=fun i hi=>by have:=H.out.2.1 i hi;have:=hrel.out.chg.size;have:=hcB.size;omega
    have HB:=hid (HIH.out g hng.1 d ao2 cp2 _ (hkids.keep hcB (fun _ _=>id)) hDl hok2 hrg hng.2)
    have HC:=hid (aI hcB hSTP)
    subst hao
    clear hSTP hle1 hrg hng hcB hnb hDl hat hkids hok2 hz2 hd2 hDb hrel
    go_wp2_with fail
    refine HB.out.mono ?_
    rintro e w2 ⟨x,rfl,g1,g2,g3,g4,g5⟩
    have hend:=HC.out.2 x _ w2 HC.out.1 g1 g2 g4 g5
    have hhold:=HX0.out.hold.keep (HC.out.1.trans g5 (fun _ _ h=>h)) id
    have hjl:=HX0.out.len
    have hc:=hhold.fm (j:=j) (by simp [hjl];omega)
    have hfz:=hhold.froz
    obtain⟨xo,xc,hv,_⟩:=own_fms g1
    obtain⟨xn,hxn⟩:∃xn,xn=x.kids.length:=⟨_,rfl⟩
    rw[←hxn]at hv
    obtain⟨xop,xk,xr,xv,xkids⟩:=x
    simp only[AT.v]at hv
    subst hv
    obtain⟨c0,c1,c2,c3,c4⟩:=hc
    have z00:=hfz (j*5)
    have z01:=hfz (j*5+1)
    have z02:=hfz (j*5+2)
    have z03:=hfz (j*5+3)
    have z04:=hfz (j*5+4)
    unfold putA at hend
    simp only[AT.op,AT.k,AT.r,AT.v]at hend
    have HEND:=hid hend
    clear hend hhold hjl hfz g1 g2 g3 g4 g5 hxn HB HC HX0
    unfold fmV
    simp only[AT.op,AT.k,AT.r,AT.v]
    go_wp2
    go_roundw
    case rel=>exact⟨j+1,_,hlt,by go_num,HEND⟩
    case measure=>simp [intOf];omega
   ·have hje:j=f.kids.length:=by omega
    have hbr:=hrel.out
    rw[hje]at hbr
    have hsh:=hbr.sh
    rw[List.take_length]at hsh
    have hrw:=hbr.rw hnk
    have hlen:f.kids.length=ts.length:=hbr.len.symm
    have hsz:=hbr.chg.size
    have hnn:nodesL (eraseL ts)≤4000:=by
     have h5:=shapeL_nodes hsh
     have h6:=nodesF_eq f
     have h7:=H.out.2.2.2.2.1
     rw[eraseL_map]
     omega
    have s0:=bC hbr.a 0
    have s1:=bC hbr.a 1
    simp only[lA,lZ,lS]at s0 s1
    have hzl:=lt_blk hbr.z
    obtain⟨cur,hGb,_⟩:=hbr.hold.blk
    have hGl:=lt_blk hGb
    have HX:=hid (aI hbr (aI hsh (show w.heap.size+2≤wr.heap.size by omega)))
    have HY:=hid (aI hrw (aI hlen (aI hsz hnn)))
    clear hbr hrel HX0 hsh hrw hlen hsz hnn hzl hGb hGl hje
    by_cases h4:f.op=4
    ·have hkb:0≤f.k∧f.k≤4000:=by rcases rightN_op H.out.2.2.2.1.2 with h|h|h <;> omega
     have z4:(f.op==4)=true:=by simpa using h4
     have HA:=hid (patLeast (B:=w.heap.size) f.k hkb (some ⟨w.heap.size+2,0,none⟩) f.kids.length f.kids.length ts wr HY.out.2.1 HY.out.1 HY.out.2.2.1 HY.out.2.2.2)
     clear hkb
     go_wp2_with fail
     refine HA.out.mono ?_
     rintro e w2 ⟨x,rfl,g1,g2,g3,g4,g5⟩
     have hz2:=bE HX.out.1.z g5 id
     obtain⟨xo,xc,hv,_⟩:=own_fms g1
     obtain⟨xn,hxn⟩:∃xn,xn=x.kids.length:=⟨_,rfl⟩
     rw[←hxn]at hv
     obtain⟨xop,xk,xr,xv,xkids⟩:=x
     simp only[AT.v]at hv
     subst hv
     have r0:=bC hz2 0
     have r1:=bC hz2 1
     have r2:=bC hz2 2
     have r3:=bC hz2 3
     have r4:=bC hz2 4
     have f0:=froz_blk hz2 0
     have f1:=froz_blk hz2 1
     have f2:=froz_blk hz2 2
     have f3:=froz_blk hz2 3
     have f4:=froz_blk hz2 4
     simp only[lA,lZ,lS]at r0 r1 r2 r3 r4
     have hbs:∀b∈blksA (.mk xop xk xr (.slice xo xn xc) xkids),w.heap.size+2≤b:=fun b hb=>by
      rcases g3 b hb with h|h
      ·have:=HX.out.1.lo b h;omega
      ·have:=HX.out.2.2;omega
     have hsh:ShapeR f (eraseA (.mk xop xk xr (.slice xo xn xc) xkids)):=by
      rw[shapeR_eq,if_neg h1]
      exact⟨ts.map eraseA,HX.out.2.1,by rw[if_pos h4];exact g4⟩
     have HZ:=hid (aI hz2 (aI g1 (aI g2 (aI hbs (aI hsh (HX.out.1.chg.trans g5 (fun _ _ h=>h)))))))
     clear hz2 g1 g2 g3 g4 g5 hxn HA hbs hsh
     unfold fmV
     simp only[AT.op,AT.k,AT.r,AT.v]
     go_wp2
     obtain⟨hend,hcz⟩:=store5n HZ.out.1 (.int .i64 xop) (.int .i64 xk) (.string ⟨xr.1.toArray⟩) (.string ⟨xr.2.toArray⟩) (.slice xo xn xc)
     refine bodyPost_ret (results_cell_row (P:=Tryz.prog) rfl _ _ (w.heap.size+1) 46 _ (0,0) _ rfl hend Tryz.underlying46 rfl (by kernel_rfl)) rfl ?_
     exact⟨_,rfl,ownA_keep hcz _ HZ.out.2.1 (fun b hb e=>by have:=HZ.out.2.2.2.1 b hb;have e:b=w.heap.size+1:=e;omega),HZ.out.2.2.1,fun b hb=>.inr (by have:=HZ.out.2.2.2.1 b hb;omega),HZ.out.2.2.2.2.1,HZ.out.2.2.2.2.2.trans hcz (fun i hi e=>by have:i=w.heap.size+1:=e;omega)⟩
    ·have hop:f.op=2∨f.op=3:=by rcases rightN_op H.out.2.2.2.1.2 with h|h|h <;> omega
     have z4:(f.op==4)=false:=by simpa using h4
     have HA:=hid (pjoined (B:=w.heap.size) f.op hop (some ⟨w.heap.size+2,0,none⟩) f.kids.length f.kids.length ts wr HY.out.2.1 HY.out.1 HY.out.2.2.1 HY.out.2.2.2)
     clear hop
     go_wp2_with fail
     refine HA.out.mono ?_
     rintro e w2 ⟨x,rfl,g1,g2,g3,g4,g5⟩
     have hz2:=bE HX.out.1.z g5 id
     obtain⟨xo,xc,hv,_⟩:=own_fms g1
     obtain⟨xn,hxn⟩:∃xn,xn=x.kids.length:=⟨_,rfl⟩
     rw[←hxn]at hv
     obtain⟨xop,xk,xr,xv,xkids⟩:=x
     simp only[AT.v]at hv
     subst hv
     have r0:=bC hz2 0
     have r1:=bC hz2 1
     have r2:=bC hz2 2
     have r3:=bC hz2 3
     have r4:=bC hz2 4
     have f0:=froz_blk hz2 0
     have f1:=froz_blk hz2 1
     have f2:=froz_blk hz2 2
     have f3:=froz_blk hz2 3
     have f4:=froz_blk hz2 4
     simp only[lA,lZ,lS]at r0 r1 r2 r3 r4
     have hbs:∀b∈blksA (.mk xop xk xr (.slice xo xn xc) xkids),w.heap.size+2≤b:=fun b hb=>by
      rcases g3 b hb with h|h
      ·have:=HX.out.1.lo b h;omega
      ·have:=HX.out.2.2;omega
     have hsh:ShapeR f (eraseA (.mk xop xk xr (.slice xo xn xc) xkids)):=by
      rw[shapeR_eq,if_neg h1]
      exact⟨ts.map eraseA,HX.out.2.1,by rw[if_neg h4];exact g4⟩
     have HZ:=hid (aI hz2 (aI g1 (aI g2 (aI hbs (aI hsh (HX.out.1.chg.trans g5 (fun _ _ h=>h)))))))
     clear hz2 g1 g2 g3 g4 g5 hxn HA hbs hsh
     unfold fmV
     simp only[AT.op,AT.k,AT.r,AT.v]
     go_wp2
     obtain⟨hend,hcz⟩:=store5n HZ.out.1 (.int .i64 xop) (.int .i64 xk) (.string ⟨xr.1.toArray⟩) (.string ⟨xr.2.toArray⟩) (.slice xo xn xc)
     refine bodyPost_ret (results_cell_row (P:=Tryz.prog) rfl _ _ (w.heap.size+1) 46 _ (0,0) _ rfl hend Tryz.underlying46 rfl (by kernel_rfl)) rfl ?_
     exact⟨_,rfl,ownA_keep hcz _ HZ.out.2.1 (fun b hb e=>by have:=HZ.out.2.2.2.1 b hb;have e:b=w.heap.size+1:=e;omega),HZ.out.2.2.1,fun b hb=>.inr (by have:=HZ.out.2.2.2.1 b hb;omega),HZ.out.2.2.2.2.1,HZ.out.2.2.2.2.2.trans hcz (fun i hi e=>by have:i=w.heap.size+1:=e;omega)⟩
end
section
open Go.RowKit Go.Lib Go.Sort
theorem results_fmn {fn:Func} {p u:Tmp} (h:fn.results=#[.cell p 46,.tmp u]) (tmps:Array Value) (w:World) (g:Nat) {a0 a1 a2 a3 a4:Value} (hp:tmps.getD p undef = .pointer (some ⟨g,0,none⟩)) (hg:w.heap[g]? = some (.cells #[a0,a1,a2,a3,a4] 46 (0,0))) :
  (results fn tmps).run Tryz.prog w = .ok (.tuple #[.agg #[a0,a1,a2,a3,a4],tmps.getD u undef]) w:=by
 have hl:=run_loadVar_row (P:=Tryz.prog) w g 46 46 #[a0,a1,a2,a3,a4] (0,0) _ hg Tryz.underlying46 rfl (by kernel_rfl)
 rw[results_cell_tmp h,hp]
 simp [asAddr,Result.andThen,hl]
def zFm:FmB:=.mk 0 0 ([],[]) []
def zAT:AT:=.mk 0 0 ([],[]) (.slice none 0 0) []
theorem zAT_own (B:Nat) (w:World):OwnA B w zAT:=by
 unfold zAT
 rw[ownA_eq]
 exact⟨⟨by simp [AT.r],by simp [AT.r]⟩,World.ownsRow_nil _ _ _ _,trivial⟩
theorem zAT_nd:(blksA zAT).Nodup:=by simp [zAT,blksA,blksL,Value.ownBlock]
/-- What Of hands back. -/
def OfPost (f:FmB) (w:World) (e:Ending) (w':World):Prop:=
 ∃(x:AT) (k:Int),e = .returned (.tuple #[fmV x,.int .i64 k])∧OwnA w.heap.size w' x∧(blksA x).Nodup∧Chg (fun _=>False) w w'∧
  ((isF f=false∧eraseA x=zFm∧k=11)∨(isF f=true∧∃y,ShapeR f y∧((isF y=true∧eraseA x=y∧k=0)∨(isF y=false∧eraseA x=zFm∧k=12))))
set_option maxRecDepth 100000 in
set_option maxHeartbeats 8000000 in
theorem pnOf {D:Nat→Prop} (f:FmB) (m:Nat) (ao:Option Addr) (cp:Nat) (w:World) (h:FmsAt D w m ao f.kids) (hD:∀i,D i→i<w.heap.size) (hok:FmOk f) (hN4:nodesF f≤4000) :
  Calls Tryz.prog 34 #[.agg #[.int .i64 f.op,.int .i64 f.k,.string ⟨f.r.1.toArray⟩,.string ⟨f.r.2.toArray⟩,.slice ao f.kids.length cp]] w (OfPost f w):=by
 have hcA:=alc w (.cells #[.int .i64 f.op,.int .i64 f.k,.string ⟨f.r.1.toArray⟩,.string ⟨f.r.2.toArray⟩,.slice ao f.kids.length cp] 46)
 have hcB:=alc (w.alloc (.cells #[.int .i64 f.op,.int .i64 f.k,.string ⟨f.r.1.toArray⟩,.string ⟨f.r.2.toArray⟩,.slice ao f.kids.length cp] 46)) (.cells #[.int .i64 0,.int .i64 0,.string ⟨#[]⟩,.string ⟨#[]⟩,.slice none 0 0] 46)
 have hba0:=bE (heap_alloc_new w (.cells #[.int .i64 f.op,.int .i64 f.k,.string ⟨f.r.1.toArray⟩,.string ⟨f.r.2.toArray⟩,.slice ao f.kids.length cp] 46)) hcB id
 have hz0:=heap_alloc_new (w.alloc (.cells #[.int .i64 f.op,.int .i64 f.k,.string ⟨f.r.1.toArray⟩,.string ⟨f.r.2.toArray⟩,.slice ao f.kids.length cp] 46)) (.cells #[.int .i64 0,.int .i64 0,.string ⟨#[]⟩,.string ⟨#[]⟩,.slice none 0 0] 46)
 rw[show (w.alloc (.cells #[.int .i64 f.op,.int .i64 f.k,.string ⟨f.r.1.toArray⟩,.string ⟨f.r.2.toArray⟩,.slice ao f.kids.length cp] 46)).heap.size=w.heap.size+1 by simp]at hz0
 have hc2:=hcA.trans hcB (fun _ _ h=>h)
 have hsz2:((w.alloc (.cells #[.int .i64 f.op,.int .i64 f.k,.string ⟨f.r.1.toArray⟩,.string ⟨f.r.2.toArray⟩,.slice ao f.kids.length cp] 46)).alloc (.cells #[.int .i64 0,.int .i64 0,.string ⟨#[]⟩,.string ⟨#[]⟩,.slice none 0 0] 46)).heap.size=w.heap.size+2:=by simp
 have s0:=bC hba0 0
 have s1:=bC hba0 1
 have s2:=bC hba0 2
 have s3:=bC hba0 3
 have s4:=bC hba0 4
 simp only[lA,lZ,lS]at s0 s1 s2 s3 s4
 have HR:=hid (fm_right m f ao cp _ (h.keep hc2 (fun _ _=>id)) (fun i hi=>by have:=hD i hi;have:=hc2.size;omega) hok (by omega))
 have HX:=hid (aI hba0 (aI hz0 (aI hc2 hsz2)))
 have H:=hid (aI h (aI hD (aI hok hN4)))
 clear h hD hok hN4 hcA hcB hba0 hz0 hc2 hsz2
 go_enter Tryz.func34,Tryz.ntmps34
 go_wp2_with fail
 refine HR.out.mono ?_
 rintro e w2 ⟨rfl,hc2⟩
 have hba2:=bE HX.out.1 hc2 id
 have hz2:=bE HX.out.2.1 hc2 id
 have hcw2:=HX.out.2.2.1.trans hc2 (fun _ _ h=>h)
 have hs2:w.heap.size+2≤w2.heap.size:=by have:=hc2.size;have:=HX.out.2.2.2;omega
 have s0:=bC hba2 0
 have s1:=bC hba2 1
 have s2:=bC hba2 2
 have s3:=bC hba2 3
 have s4:=bC hba2 4
 have r0:=bC hz2 0
 have r1:=bC hz2 1
 have r2:=bC hz2 2
 have r3:=bC hz2 3
 have r4:=bC hz2 4
 have q0:=froz_blk hz2 0
 have q1:=froz_blk hz2 1
 have q2:=froz_blk hz2 2
 have q3:=froz_blk hz2 3
 have q4:=froz_blk hz2 4
 simp only[lA,lZ,lS]at s0 s1 s2 s3 s4 r0 r1 r2 r3 r4
 cases hf:isF f with
 | false=>
  have HZ:=hid (aI hz2 (aI hcw2 hf))
  clear hba2 hz2 hcw2 hs2 hf hc2 HR HX
  go_wp2
  obtain⟨hend,hcz⟩:=store5n HZ.out.1 (.int .i64 0) (.int .i64 0) (.string ⟨#[]⟩) (.string ⟨#[]⟩) (.slice none 0 0)
  refine bodyPost_ret (results_fmn rfl _ _ (w.heap.size+1) rfl hend) rfl ?_
  exact⟨zAT,11,rfl,zAT_own _ _,zAT_nd,HZ.out.2.1.trans hcz (fun i hi e=>by have:i=w.heap.size+1:=e;omega),.inl ⟨HZ.out.2.2,rfl,rfl⟩⟩
 | true=>
  have HB:=hid (pbrought (nodesF f) f (Nat.le_refl _) m ao cp w2 (H.out.1.keep hcw2 (fun _ _=>id)) (fun i hi=>by have:=H.out.2.1 i hi;omega) H.out.2.2.1 (isF_parts.1 hf).2.2 H.out.2.2.2)
  have HZ:=hid (aI hz2 (aI hcw2 (aI hf hs2)))
  clear hba2 hz2 hcw2 hs2 hf hc2 HR HX
  go_wp2_with fail
  refine HB.out.mono ?_
  rintro e w3 ⟨x,rfl,g1,g2,g3,g4,g5⟩
  obtain⟨xo,xc,x1,x5,x2,x3,x4⟩:=own_val g1
  have hnx:nodesF (eraseA x)≤4000:=Nat.le_trans (shape_nodes _ _ g4) H.out.2.2.2
  have hxl:=ownA_lt x g1
  have hfm:fmV x = .agg #[.int .i64 (eraseA x).op,.int .i64 (eraseA x).k,.string ⟨(eraseA x).r.1.toArray⟩,.string ⟨(eraseA x).r.2.toArray⟩,.slice xo (eraseA x).kids.length xc]:=by rw[←x1];rfl
  rw[hfm]
  have hcC:=alc w3 (.cells #[.int .i64 (eraseA x).op,.int .i64 (eraseA x).k,.string ⟨(eraseA x).r.1.toArray⟩,.string ⟨(eraseA x).r.2.toArray⟩,.slice xo (eraseA x).kids.length xc] 46)
  have hyb:=heap_alloc_new w3 (.cells #[.int .i64 (eraseA x).op,.int .i64 (eraseA x).k,.string ⟨(eraseA x).r.1.toArray⟩,.string ⟨(eraseA x).r.2.toArray⟩,.slice xo (eraseA x).kids.length xc] 46)
  have hz3:=bE (bE HZ.out.1 g5 id) hcC id
  have hcw3:=(HZ.out.2.1.trans g5 (fun _ _ h=>h)).trans hcC (fun _ _ h=>h)
  have hox:=ownA_low (A:=w.heap.size) (by have:=HZ.out.2.2.2;omega) x (ownA_keep hcC x g1 (fun _ _=>id))
  have hR2:=fm_right _ (eraseA x) xo xc _ (x3.keep hcC (fun _ _=>id)) (fun i hi=>by have:=hi.2;have:=hcC.size;omega) x4 (by omega)
  have y0:=bC hyb 0
  have y1:=bC hyb 1
  have y2:=bC hyb 2
  have y3:=bC hyb 3
  have y4:=bC hyb 4
  simp only[lA,lZ,lS]at y0 y1 y2 y3 y4
  have HR2:=hid hR2
  have HY:=hid (aI hz3 (aI hcw3 (aI hox (aI g2 (aI g4 (aI hfm (aI hyb (aI HZ.out.2.2.1 (show ∀b∈blksA x,w.heap.size+2≤b from fun b hb=>by have:=(hxl b hb).1;have:=HZ.out.2.2.2;omega)))))))))
  clear g1 g2 g3 g4 g5 x1 x2 x3 x4 x5 hnx hxl hfm hcC hyb hz3 hcw3 hox hR2 HB HZ s0 s1 s2 s3 s4 r0 r1 r2 r3 r4
  go_wp2_with fail
  refine HR2.out.mono ?_
  rintro e w4 ⟨rfl,hc4⟩
  have hz4:=bE HY.out.1 hc4 id
  have hyb4:=bE HY.out.2.2.2.2.2.2.1 hc4 id
  have hcw4:=HY.out.2.1.trans hc4 (fun _ _ h=>h)
  have hox4:=ownA_keep hc4 x HY.out.2.2.1 (fun _ _=>id)
  have y0:=bC hyb4 0
  have y1:=bC hyb4 1
  have y2:=bC hyb4 2
  have y3:=bC hyb4 3
  have y4:=bC hyb4 4
  have r0:=bC hz4 0
  have r1:=bC hz4 1
  have r2:=bC hz4 2
  have r3:=bC hz4 3
  have r4:=bC hz4 4
  have q0:=froz_blk hz4 0
  have q1:=froz_blk hz4 1
  have q2:=froz_blk hz4 2
  have q3:=froz_blk hz4 3
  have q4:=froz_blk hz4 4
  simp only[lA,lZ,lS]at y0 y1 y2 y3 y4 r0 r1 r2 r3 r4
  have HZ:=hid (aI hz4 (aI hcw4 hox4))
  clear hz4 hyb4 hcw4 hox4 hc4 HR2
  cases hfx:isF (eraseA x) with
  | false=>
   have HF:=hid hfx
   clear hfx
   go_wp2
   obtain⟨hend,hcz⟩:=store5n HZ.out.1 (.int .i64 0) (.int .i64 0) (.string ⟨#[]⟩) (.string ⟨#[]⟩) (.slice none 0 0)
   refine bodyPost_ret (results_fmn rfl _ _ (w.heap.size+1) rfl hend) rfl ?_
   exact⟨zAT,12,rfl,zAT_own _ _,zAT_nd,HZ.out.2.1.trans hcz (fun i hi e=>by have:i=w.heap.size+1:=e;omega),.inr ⟨HY.out.2.2.2.2.2.2.2.1,_,HY.out.2.2.2.2.1,.inr ⟨HF.out,rfl,rfl⟩⟩⟩
  | true=>
   have HF:=hid hfx
   clear hfx
   go_wp2
   obtain⟨hend,hcz⟩:=store5n HZ.out.1 (.int .i64 (eraseA x).op) (.int .i64 (eraseA x).k) (.string ⟨(eraseA x).r.1.toArray⟩) (.string ⟨(eraseA x).r.2.toArray⟩) (.slice xo (eraseA x).kids.length xc)
   refine bodyPost_ret (results_fmn rfl _ _ (w.heap.size+1) rfl hend) rfl ?_
   have hlo:=HY.out.2.2.2.2.2.2.2.2
   exact⟨x,0,by rw[HY.out.2.2.2.2.2.1];rfl,ownA_keep hcz x HZ.out.2.2 (fun b hb e=>by have:=hlo b hb;have e:b=w.heap.size+1:=e;omega),HY.out.2.2.2.1,HZ.out.2.1.trans hcz (fun i hi e=>by have:i=w.heap.size+1:=e;omega),.inr ⟨HY.out.2.2.2.2.2.2.2.1,_,HY.out.2.2.2.2.1,.inl ⟨HF.out,rfl,rfl⟩⟩⟩
end
end Go.Proofs.YtkfinhpfdcjoeaaGreat
