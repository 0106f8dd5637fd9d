/- Same of two formulas: one of the call's own, and any other. -/
import Derived.Test.YtkfinhpfdcjoeaaGreatNa18
import Derived.StillTailTactics
namespace Go.Proofs.YtkfinhpfdcjoeaaGreat
open Go.RowKit
theorem run_makeMapP (w:World):(Instr.makeMap 193 none).run Tryz.prog w = .ok (.map (some w.heap.size)) (w.alloc (.map #[] 0)):=by
 simp [Instr.makeMap,Result.andThen]
/-- A key that was entered for one of the first j of a row. -/
def KeyJ (KI:List It) (j:Nat) (e:MapEntry):Prop:=∃(i:Nat) (h:i<KI.length) (b':Addr),i<j∧e.key = .agg #[.pointer (some KI[i].pa),.pointer (some b')]
/-- Within the loop over the Kids of p, behind the first j. -/
structure SameIn (w2:World) (L0 Q:Nat) (p:It) (its0 KI:List It) (bs:List Nat) (n1 j:Nat) (v9:Value) (es9:Array MapEntry) (ck9:Nat) (wr:World):Prop where
 row:wr.ownsRow L0 191 2 v9 (its0++KI.take j).length (rowP (its0++KI.take j))
 map:wr.heap[L0+1]? = some (.map es9 ck9)
 keys:∀e∈es9.toList,KeyOk w2 L0 bs e∨KeyJ KI j e
 size:es9.size=n1+j
 nm:v9.ownBlock≠some (L0+1)
 nq:v9.ownBlock≠some Q
 q:wr.heap[Q]? = some (.cells #[.pointer (some ⟨p.a.1,p.a.2,none⟩),.pointer (some ⟨p.b.1,p.b.2,none⟩)] 191 (0,0))
 chg:Chg (fun k=>L0≤k) w2 wr
theorem wpList_append_runK {P:Program} {w w':World} {ops:Array Oper} {rest:List Oper} {o:Oper} {a:Act} {Q:Exit→Act→World→Prop} (hgd:o.guard=none) (s x:Operand) (t:TypeId)
  (ho:o.op = .call {callee:=.builtin .append,args:=#[s,x],argTypes:=#[t,t]}) {v y v':Value} (hs:a.eval s=v) (hx:a.eval x=y) (hr:(Builtin.append_ #[t,t] o.type #[v,y]).run P w = .ok v' w')
  (h:wpList P ops Q rest (a.put o.dst v') w'):wpList P ops Q (o::rest) a w:=by
 refine wpList_plain hgd fun K hK=>?_
 unfold Oper.wp execOp
 simp only[ho,resolve,invoke,builtin,Sem.run_bind,Sem.run_pure,Result.andThen_ok,List.map_toArray,List.map_cons,List.map_nil,hs,hx,hr]
 exact hK _ _ h
theorem SameIn.push {B:Nat} {DD:Nat→Prop} {w2:World} {L0 Q:Nat} {p:It} {its0 KI:List It} {bs:List Nat} {n1 j:Nat} {v9:Value} {es9:Array MapEntry} {ck9:Nat} {wr:World} (h:SameIn w2 L0 Q p its0 KI bs n1 j v9 es9 ck9 wr) (hj:j<KI.length) (hlen:its0.length+KI.length≤99000) (hi:∀q∈KI,ItOk B w2 L0 DD q) {gK gB oB:Nat} (hg:gK∈bs) (hka:∀i (hi:i<KI.length),KI[i].a=(gK,i*5)) (hkb:KI[j].b=(gB,oB+j*5)) (hQ:L0≤Q∧Q≠L0+1) (wp:World) (b:Nat) (cA:Chg (fun _=>False) wr wp) (hbl:wr.heap.size≤b) (hb:wp.heap[b]? = some (.cells #[.pointer (some ⟨gK,j*5,none⟩),.pointer (some ⟨gB,oB+j*5,none⟩)] 191 (0,0))) :
  (Instr.lookup 193 (.map (some (L0+1))) (.agg #[.pointer (some ⟨gK,j*5,none⟩),.pointer (some ⟨gB,oB+j*5,none⟩)]) true).run Tryz.prog wp = .ok (.tuple #[.agg #[],.bool false]) wp∧
  (Instr.lookup 193 (.map (some (L0+1))) (.agg #[.pointer (some ⟨gK,j*5,none⟩),.pointer (some ⟨gB,oB+j*5,none⟩)]) true).run Tryz.prog (wp.alloc (.cells #[] 62)) = .ok (.tuple #[.agg #[],.bool false]) (wp.alloc (.cells #[] 62))∧
  ∃w6,(Instr.mapUpdate 193 (.map (some (L0+1))) (.agg #[.pointer (some ⟨gK,j*5,none⟩),.pointer (some ⟨gB,oB+j*5,none⟩)]) (.agg #[])).run Tryz.prog (wp.alloc (.cells #[] 62)) = .ok () w6∧w6.heap[b]? = some (.cells #[.pointer (some ⟨gK,j*5,none⟩),.pointer (some ⟨gB,oB+j*5,none⟩)] 191 (0,0))∧
   ∃v10 w8,(Builtin.append_ #[192,192] 192 #[v9,.slice (some ⟨w6.heap.size,0,none⟩) 1 1]).run Tryz.prog (w6.alloc (.cells #[.pointer (some ⟨gK,j*5,none⟩),.pointer (some ⟨gB,oB+j*5,none⟩)] 191)) = .ok v10 w8∧∃es10 ck10,SameIn w2 L0 Q p its0 KI bs n1 (j+1) v10 es10 ck10 w8:=by
 have hit:=hi KI[j] (List.getElem_mem hj)
 have hpa:KI[j].pa=⟨gK,j*5,none⟩:=by unfold It.pa;rw[hka j hj]
 have hpb:KI[j].pb=⟨gB,oB+j*5,none⟩:=by unfold It.pb;rw[hkb]
 have hgl:gK<L0:=by have:=hit.la;rw[hka j hj]at this;exact this
 have hpl:∃cs ty,w2.heap[gK]? = some (.cells cs ty (0,0)):=by have:=hit.pl;rw[hka j hj]at this;exact this
 have hM:=lt_blk h.map
 have hQl:=lt_blk h.q
 have cB:Chg (fun _=>False) wr (wp.alloc (.cells #[] 62)):=cA.alloc _
 have keyh:∀w9,Chg (fun _=>False) wr w9→(∀e∈es9.toList,∃a' b':Addr,e.key = .agg #[.pointer (some a'),.pointer (some b')]∧(⟨gK,j*5,none⟩:Addr)≠a'∧(∃ca ta,w9.heap[a'.block]? = some (.cells ca ta (0,0))))∧(∃ca ta,w9.heap[(⟨gK,j*5,none⟩:Addr).block]? = some (.cells ca ta (0,0))):=fun w9 hc9=>by
  have hall:=h.chg.trans hc9 (fun _ _ h=>h.elim)
  refine⟨fun e he=>?_,?_⟩
  ·rcases h.keys e he with ⟨a',b',k1,⟨cs,ty,k2⟩,k3,k4⟩|⟨i,hi2,b',k1,k2⟩
   ·exact⟨a',b',k1,fun e=>k4 (by rw[←e];exact hg),cs,ty,bE k2 hall (by show ¬L0≤a'.block;omega)⟩
   ·have hpa2:KI[i].pa=⟨gK,i*5,none⟩:=by unfold It.pa;rw[hka i hi2]
    rw[hpa2]at k2
    obtain⟨cs,ty,k3⟩:=hpl
    exact⟨_,b',k2,fun e=>by injection e with _ e;omega,cs,ty,bE k3 hall (by show ¬L0≤gK;omega)⟩
  ·obtain⟨cs,ty,k3⟩:=hpl
   exact⟨cs,ty,bE k3 hall (by show ¬L0≤gK;omega)⟩
 have l1:=look_pair wp (L0+1) es9 ck9 ⟨gK,j*5,none⟩ ⟨gB,oB+j*5,none⟩ (bE h.map cA id) (keyh _ cA).1 (keyh _ cA).2
 have l2:=look_pair (wp.alloc (.cells #[] 62)) (L0+1) es9 ck9 ⟨gK,j*5,none⟩ ⟨gB,oB+j*5,none⟩ (bE h.map cB id) (keyh _ cB).1 (keyh _ cB).2
 obtain⟨w6,m1,m2,m3⟩:=put_pair (wp.alloc (.cells #[] 62)) (L0+1) es9 ck9 ⟨gK,j*5,none⟩ ⟨gB,oB+j*5,none⟩ (bE h.map cB id) (keyh _ cB).1 (keyh _ cB).2
 refine⟨l1,l2,w6,m1,?_,?_⟩
 ·exact bE (bE hb ((Chg.refl (fun _=>False) wp).alloc _) id) m3 (by show ¬b=L0+1;omega)
 have c6:Chg (fun k=>k=L0+1) wr w6:=(cB.mono (T:=fun k=>k=L0+1) (fun _ _ h=>h.elim)).trans m3 (fun _ _ h=>h)
 have cQ:=alc w6 (.cells #[.pointer (some ⟨gK,j*5,none⟩),.pointer (some ⟨gB,oB+j*5,none⟩)] 191)
 have c7:Chg (fun k=>k=L0+1) wr (w6.alloc (.cells #[.pointer (some ⟨gK,j*5,none⟩),.pointer (some ⟨gB,oB+j*5,none⟩)] 191)):=c6.trans cQ (fun _ _ h=>h.elim)
 have hrow7:(w6.alloc (.cells #[.pointer (some ⟨gK,j*5,none⟩),.pointer (some ⟨gB,oB+j*5,none⟩)] 191)).ownsRow L0 191 2 v9 (its0++KI.take j).length (rowP (its0++KI.take j)):=ownsRow_keep h.row c7 (fun k hk e=>h.nm (by rw[hk,e]))
 have hcell:(itCells KI[j]).toArray=#[.pointer (some ⟨gK,j*5,none⟩),.pointer (some ⟨gB,oB+j*5,none⟩)]:=by unfold itCells;rw[hpa,hpb]
 have hb7:(w6.alloc (.cells #[.pointer (some ⟨gK,j*5,none⟩),.pointer (some ⟨gB,oB+j*5,none⟩)] 191)).heap[w6.heap.size]? = some (.cells (itCells KI[j]).toArray 191 (0,0)):=by rw[hcell];exact heap_alloc_new w6 (.cells #[.pointer (some ⟨gK,j*5,none⟩),.pointer (some ⟨gB,oB+j*5,none⟩)] 191)
 have hll:(its0++KI.take j).length≤99000:=by rw[List.length_append,List.length_take];omega
 have hL0w:L0≤wr.heap.size:=by omega
 obtain⟨v10,w8,a1,a2,a3,a4⟩:=run_append_it (p:=KI[j]) 192 hrow7 hb7 (by omega) (by have:=c7.size;omega)
 refine⟨v10,w8,a1,es9.push ⟨.agg #[.pointer (some ⟨gK,j*5,none⟩),.pointer (some ⟨gB,oB+j*5,none⟩)],.agg #[],ck9⟩,ck9+1,?_⟩
 have htk:its0++KI.take (j+1)=(its0++KI.take j)++[KI[j]]:=by rw[List.take_succ_eq_append_getElem hj,List.append_assoc]
 have c8:Chg (fun k=>k=L0+1∨v9.ownBlock=some k) wr w8:=(c7.mono (T:=fun k=>k=L0+1∨v9.ownBlock=some k) (fun _ _ e=>.inl e)).trans a3 (fun _ _ e=>.inr e)
 have hown:∀k,v9.ownBlock=some k→L0≤k:=fun k hk=>(h.row.lt k hk).1
 have h7s:=c7.size
 refine⟨by rw[htk];exact a2,?_,fun e he=>?_,by rw[Array.size_push,h.size,Nat.add_assoc],fun e=>?_,fun e=>?_,bE h.q c8 (fun e=>e.elim (fun e=>hQ.2 e) (fun e=>h.nq e)),h.chg.trans c8 (fun i _ e=>e.elim (fun e=>by omega) (fun e=>hown i e))⟩
 ·exact bE (bE m2 cQ id) a3 (fun e=>h.nm e)
 ·rw[Array.toList_push,List.mem_append]at he
  rcases he with he|he
  ·rcases h.keys e he with k|⟨i,hi2,b',k1,k2⟩
   ·exact .inl k
   ·exact .inr ⟨i,hi2,b',by omega,k2⟩
  ·rw[List.mem_singleton.1 he]
   exact .inr ⟨j,hj,⟨gB,oB+j*5,none⟩,by omega,by rw[hpa]⟩
 ·rcases a4 with a4|a4
  ·exact h.nm (a4.symm.trans e)
  ·rw[a4]at e;injection e with e;omega
 ·rcases a4 with a4|a4
  ·exact h.nq (a4.symm.trans e)
  ·rw[a4]at e;injection e with e;omega
theorem SameIn.leave {B:Nat} {DD:Nat→Prop} {w2:World} {L0 Q:Nat} {p:It} {its0 KI:List It} {n1 NN:Nat} {v9:Value} {es9:Array MapEntry} {ck9:Nat} {wr:World} {E:Prop} {ao3 bo3:Option Addr} (h:SameIn w2 L0 Q p its0 KI (blksS (its0++[p])) n1 KI.length v9 es9 ck9 wr) (k2:∀q∈its0++[p],ItOk B w2 L0 DD q) (k3:(blksS (its0++[p])).Nodup) (k7:nodesS (its0++[p])+1+n1=NN+(its0++[p]).length∧(its0++[p]).length≤n1+1) (k8:E↔∀q∈its0++[p],eraseA q.s=q.g)
  (hpp:p.s.op=p.g.op∧p.s.k=p.g.k∧p.s.r=p.g.r∧p.s.kids.length=p.g.kids.length) (i4:∀q∈KI,ItOk B w2 L0 DD q) (i5:blksS KI=blksL p.s.kids) (i6:nodesS KI=nodesL (eraseL p.s.kids)) (i7:(∀q∈KI,eraseA q.s=q.g)↔eraseL p.s.kids=p.g.kids)
  (i8:∀j (hj:j<KI.length),∃gK gB oB,ao3=some (⟨gK,0,none⟩:Addr)∧bo3=some (⟨gB,oB,none⟩:Addr)∧p.s.v.ownBlock=some gK∧KI[j].a=(gK,j*5)∧KI[j].b=(gB,oB+j*5)) :
  (wr.ownsRow L0 191 2 v9 (its0++KI).length (rowP (its0++KI))∧(∀q∈its0++KI,ItOk B w2 L0 DD q)∧(blksS (its0++KI)).Nodup∧wr.heap[L0+1]? = some (.map es9 ck9)∧(∀e∈es9.toList,KeyOk w2 L0 (blksS (its0++KI)) e)∧v9.ownBlock≠some (L0+1)∧(nodesS (its0++KI)+1+es9.size=NN+(its0++KI).length∧(its0++KI).length≤es9.size+1)∧(E↔∀q∈its0++KI,eraseA q.s=q.g)∧Chg (fun k=>L0≤k) w2 wr)∧lenOfV v9=(its0++KI).length∧mapSize wr (L0+1)=n1+KI.length∧n1+1≤NN+its0.length:=by
 have htk:KI.take KI.length=KI:=List.take_of_length_le (Nat.le_refl _)
 have hrow:=h.row
 rw[htk]at hrow
 have hbp:blksS [p]=blksA p.s:=by simp [blksS]
 have hb1:blksS (its0++[p])=blksS its0++(p.s.v.ownBlock.toList++blksL p.s.kids):=by rw[blksS_app,hbp,blksA_eq]
 have hb2:blksS (its0++KI)=blksS its0++blksL p.s.kids:=by rw[blksS_app,i5]
 have hnd:=k3
 rw[hb1,List.nodup_append]at hnd
 obtain⟨d1,d2,d3⟩:=hnd
 rw[List.nodup_append]at d2
 obtain⟨d4,d5,d6⟩:=d2
 have hsub:∀b∈blksS (its0++KI),b∈blksS (its0++[p]):=fun b hb=>by
  rw[hb2,List.mem_append]at hb
  rw[hb1,List.mem_append,List.mem_append]
  exact hb.elim .inl (fun q=>.inr (.inr q))
 have n3:nodesS (its0++[p])=nodesS its0+nodesF (eraseA p.s):=by rw[nodesS_app];simp [nodesS]
 have n4:nodesF (eraseA p.s)=1+nodesL (eraseL p.s.kids):=by rw[nodesF_eq,eraseA_eq];rfl
 have n5:nodesS (its0++KI)=nodesS its0+nodesL (eraseL p.s.kids):=by rw[nodesS_app,i6]
 have n6:=h.size
 have n7:=k7
 rw[n3,n4,List.length_append,List.length_singleton]at n7
 have hl:(its0++KI).length=its0.length+KI.length:=List.length_append
 refine⟨⟨hrow,fun q hq=>(List.mem_append.1 hq).elim (fun q1=>k2 q (List.mem_append_left _ q1)) (i4 q),?_,h.map,fun e he=>?_,h.nm,⟨by rw[n5,n6,hl];omega,by rw[n6,hl];omega⟩,?_,h.chg⟩,?_,?_,by omega⟩
 ·rw[hb2,List.nodup_append]
  exact⟨d1,d5,fun a ha b hb=>d3 a ha b (List.mem_append_right _ hb)⟩
 ·rcases h.keys e he with ⟨a',b',q1,q2,q3,q4⟩|⟨i,hi,b',q1,q2⟩
  ·exact⟨a',b',q1,q2,q3,fun hb=>q4 (hsub _ hb)⟩
  ·obtain⟨gK,gB,oB,_,_,r1,r2,_⟩:=i8 i hi
   have hit:=i4 KI[i] (List.getElem_mem hi)
   have hka:KI[i].a.1=gK:=by rw[r2]
   refine⟨KI[i].pa,b',q2,hit.pl,hit.la,fun hb=>?_⟩
   have hb:gK∈blksS (its0++KI):=by rw[←hka];exact hb
   rw[hb2,List.mem_append]at hb
   have hgo:gK∈p.s.v.ownBlock.toList:=by rw[r1];simp
   rcases hb with hb|hb
   ·exact d3 _ hb _ (List.mem_append_left _ hgo) rfl
   ·exact d6 _ hgo _ hb rfl
 ·rw[k8]
  constructor
  ·intro hh q hq
   rcases List.mem_append.1 hq with hq|hq
   ·exact hh q (List.mem_append_left _ hq)
   ·exact i7.2 ((fm_same_parts _ _).1 (hh p (by simp))).2 q hq
  ·intro hh q hq
   rcases List.mem_append.1 hq with hq|hq
   ·exact hh q (List.mem_append_left _ hq)
   ·rw[List.mem_singleton.1 hq]
    exact(fm_same_parts _ _).2 ⟨hpp,i7.1 (fun q hq=>hh q (List.mem_append_right _ hq))⟩
 ·rcases hrow.2 with ⟨e,e0⟩|⟨g,cap,cur,e,_⟩
  ·rw[e,e0];rfl
  ·rw[e];rfl
 ·unfold mapSize
  rw[h.map]
  exact n6
theorem alQ {v:Value} {w w' w1:World} {ty:TypeId} {cells:Array Value} (h:∃b,v = .pointer (some ⟨b,0,none⟩)∧w.heap[b]? = some (.cells cells ty (0,0))∧w1.heap.size≤b∧Chg (fun b=>w1.heap.size≤b) w1 w) (c:Chg (fun _=>False) w w'):∃b,v = .pointer (some ⟨b,0,none⟩)∧w'.heap[b]? = some (.cells cells ty (0,0))∧w1.heap.size≤b∧Chg (fun b=>w1.heap.size≤b) w1 w':=by
 obtain⟨b,h1,h2,h3,h4⟩:=h
 exact⟨b,h1,bE h2 c id,h3,h4.trans c (fun _ _ h=>h.elim)⟩
def ks11 (Q:Nat) (p:It) (gK gB oB nK cp3 bp3 j:Nat) {n:Nat}:List (SpecR (Chg (fun b=>n≤b))):=[.any,.any,.any,.any,.any,.any,.any,.eq (.pointer (some ⟨Q,0,none⟩)),.eq (.int .i64 (j:Nat)),.any,.any,.any,.any,.any,.any,.any,.any,.any,.any,.any,.any,.any,.any,.any,.any,.any,.any,.any,.any,.any,.any,.any,.any,.any,.any,.any,.any,.any,.any,.any,.any,.eq (.pointer (some ⟨Q,0,none⟩)),.eq (.pointer (some ⟨p.a.1,p.a.2,none⟩)),.eq (.pointer (some ⟨p.a.1,p.a.2,none⟩)),.eq (.pointer (some ⟨p.a.1,p.a.2+4,none⟩)),.eq (.slice (some ⟨gK,0,none⟩) nK cp3),.eq (.int .i64 (j:Nat)),.eq (.pointer (some ⟨gK,j*5,none⟩)),.eq (.pointer (some ⟨Q,1,none⟩)),.eq (.pointer (some ⟨p.b.1,p.b.2,none⟩)),.eq (.pointer (some ⟨p.b.1,p.b.2,none⟩)),.eq (.pointer (some ⟨p.b.1,p.b.2+4,none⟩)),.eq (.slice (some ⟨gB,oB,none⟩) nK bp3),.eq (.int .i64 (j:Nat)),.eq (.pointer (some ⟨gB,oB+j*5,none⟩)),.eq (.agg #[.pointer (some ⟨gK,j*5,none⟩),.pointer (some ⟨gB,oB+j*5,none⟩)]),.any,.any,.any,.any,.any,.any,.any,.any,.any,.any,.any,.any,.any,.any,.any,.any]
theorem old_cell {w w':World} {a:Addr} {v:Value} (h:w.cell? a=some v) (hc:Chg (fun b=>w.heap.size≤b) w w'):w'.cell? a=some v:=hc.cell h (by have:=World.block_lt_of_cell? w a h;show ¬w.heap.size≤a.block;omega)
set_option maxRecDepth 100000 in
set_option maxHeartbeats 8000000 in
theorem fm_same {D:Nat→Prop} (B:Nat) (op k:Int) (r:RoleB) (ao:Option Addr) (q cp:Nat) (kids:List AT) (f:FmB) (n:Nat) (bo:Option Addr) (bp:Nat) (w:World) (hq:q=kids.length) (hown:OwnA B w (.mk op k r (.slice ao q cp) kids)) (hnd:(blksA (.mk op k r (.slice ao q cp) kids)).Nodup) (hN:nodesF (eraseA (.mk op k r (.slice ao q cp) kids))≤90000) (hf:FmsAt D w n bo f.kids) (hD:∀i,D i→i<w.heap.size) (hok:FmOk f) (hz:bo=none→bp=0) (_:f.kids.length≤90000) :
  Calls Tryz.prog 113 #[.agg #[.int .i64 op,.int .i64 k,.string ⟨r.1.toArray⟩,.string ⟨r.2.toArray⟩,.slice ao q cp],.agg #[.int .i64 f.op,.int .i64 f.k,.string ⟨f.r.1.toArray⟩,.string ⟨f.r.2.toArray⟩,.slice bo f.kids.length bp]] w fun e w'=>∃b:Bool,e = .returned (.bool b)∧(b=true↔eraseA (.mk op k r (.slice ao q cp) kids)=f)∧Chg (fun _=>False) w w':=by
 have hs1:(w.alloc (.cells #[.int .i64 op,.int .i64 k,.string ⟨r.1.toArray⟩,.string ⟨r.2.toArray⟩,.slice ao q cp] 46)).heap.size=w.heap.size+1:=by simp
 have hs2:((w.alloc (.cells #[.int .i64 op,.int .i64 k,.string ⟨r.1.toArray⟩,.string ⟨r.2.toArray⟩,.slice ao q cp] 46)).alloc (.cells #[.int .i64 f.op,.int .i64 f.k,.string ⟨f.r.1.toArray⟩,.string ⟨f.r.2.toArray⟩,.slice bo f.kids.length bp] 46)).heap.size=w.heap.size+1+1:=by simp
 have hs3:(((w.alloc (.cells #[.int .i64 op,.int .i64 k,.string ⟨r.1.toArray⟩,.string ⟨r.2.toArray⟩,.slice ao q cp] 46)).alloc (.cells #[.int .i64 f.op,.int .i64 f.k,.string ⟨f.r.1.toArray⟩,.string ⟨f.r.2.toArray⟩,.slice bo f.kids.length bp] 46)).alloc (.cells #[.pointer (some ⟨w.heap.size,0,none⟩),.pointer (some ⟨w.heap.size+1,0,none⟩)] 191)).heap.size=w.heap.size+1+1+1:=by simp
 have hc1:=alc w (.cells #[.int .i64 op,.int .i64 k,.string ⟨r.1.toArray⟩,.string ⟨r.2.toArray⟩,.slice ao q cp] 46)
 have hc2:Chg (fun _=>False) w ((w.alloc (.cells #[.int .i64 op,.int .i64 k,.string ⟨r.1.toArray⟩,.string ⟨r.2.toArray⟩,.slice ao q cp] 46)).alloc (.cells #[.int .i64 f.op,.int .i64 f.k,.string ⟨f.r.1.toArray⟩,.string ⟨f.r.2.toArray⟩,.slice bo f.kids.length bp] 46)):=hc1.alloc _
 have hc3:Chg (fun _=>False) w (((w.alloc (.cells #[.int .i64 op,.int .i64 k,.string ⟨r.1.toArray⟩,.string ⟨r.2.toArray⟩,.slice ao q cp] 46)).alloc (.cells #[.int .i64 f.op,.int .i64 f.k,.string ⟨f.r.1.toArray⟩,.string ⟨f.r.2.toArray⟩,.slice bo f.kids.length bp] 46)).alloc (.cells #[.pointer (some ⟨w.heap.size,0,none⟩),.pointer (some ⟨w.heap.size+1,0,none⟩)] 191)):=hc2.alloc _
 have hc4:Chg (fun _=>False) w ((((w.alloc (.cells #[.int .i64 op,.int .i64 k,.string ⟨r.1.toArray⟩,.string ⟨r.2.toArray⟩,.slice ao q cp] 46)).alloc (.cells #[.int .i64 f.op,.int .i64 f.k,.string ⟨f.r.1.toArray⟩,.string ⟨f.r.2.toArray⟩,.slice bo f.kids.length bp] 46)).alloc (.cells #[.pointer (some ⟨w.heap.size,0,none⟩),.pointer (some ⟨w.heap.size+1,0,none⟩)] 191)).alloc (.map #[] 0)):=hc3.alloc _
 have k2:Chg (fun _=>False) (w.alloc (.cells #[.int .i64 op,.int .i64 k,.string ⟨r.1.toArray⟩,.string ⟨r.2.toArray⟩,.slice ao q cp] 46)) ((((w.alloc (.cells #[.int .i64 op,.int .i64 k,.string ⟨r.1.toArray⟩,.string ⟨r.2.toArray⟩,.slice ao q cp] 46)).alloc (.cells #[.int .i64 f.op,.int .i64 f.k,.string ⟨f.r.1.toArray⟩,.string ⟨f.r.2.toArray⟩,.slice bo f.kids.length bp] 46)).alloc (.cells #[.pointer (some ⟨w.heap.size,0,none⟩),.pointer (some ⟨w.heap.size+1,0,none⟩)] 191)).alloc (.map #[] 0)):=(((Chg.refl (fun _=>False) (w.alloc (.cells #[.int .i64 op,.int .i64 k,.string ⟨r.1.toArray⟩,.string ⟨r.2.toArray⟩,.slice ao q cp] 46))).alloc (.cells #[.int .i64 f.op,.int .i64 f.k,.string ⟨f.r.1.toArray⟩,.string ⟨f.r.2.toArray⟩,.slice bo f.kids.length bp] 46)).alloc (.cells #[.pointer (some ⟨w.heap.size,0,none⟩),.pointer (some ⟨w.heap.size+1,0,none⟩)] 191)).alloc (.map #[] 0)
 have k3:Chg (fun _=>False) ((w.alloc (.cells #[.int .i64 op,.int .i64 k,.string ⟨r.1.toArray⟩,.string ⟨r.2.toArray⟩,.slice ao q cp] 46)).alloc (.cells #[.int .i64 f.op,.int .i64 f.k,.string ⟨f.r.1.toArray⟩,.string ⟨f.r.2.toArray⟩,.slice bo f.kids.length bp] 46)) ((((w.alloc (.cells #[.int .i64 op,.int .i64 k,.string ⟨r.1.toArray⟩,.string ⟨r.2.toArray⟩,.slice ao q cp] 46)).alloc (.cells #[.int .i64 f.op,.int .i64 f.k,.string ⟨f.r.1.toArray⟩,.string ⟨f.r.2.toArray⟩,.slice bo f.kids.length bp] 46)).alloc (.cells #[.pointer (some ⟨w.heap.size,0,none⟩),.pointer (some ⟨w.heap.size+1,0,none⟩)] 191)).alloc (.map #[] 0)):=((Chg.refl (fun _=>False) ((w.alloc (.cells #[.int .i64 op,.int .i64 k,.string ⟨r.1.toArray⟩,.string ⟨r.2.toArray⟩,.slice ao q cp] 46)).alloc (.cells #[.int .i64 f.op,.int .i64 f.k,.string ⟨f.r.1.toArray⟩,.string ⟨f.r.2.toArray⟩,.slice bo f.kids.length bp] 46))).alloc (.cells #[.pointer (some ⟨w.heap.size,0,none⟩),.pointer (some ⟨w.heap.size+1,0,none⟩)] 191)).alloc (.map #[] 0)
 have k4:Chg (fun _=>False) (((w.alloc (.cells #[.int .i64 op,.int .i64 k,.string ⟨r.1.toArray⟩,.string ⟨r.2.toArray⟩,.slice ao q cp] 46)).alloc (.cells #[.int .i64 f.op,.int .i64 f.k,.string ⟨f.r.1.toArray⟩,.string ⟨f.r.2.toArray⟩,.slice bo f.kids.length bp] 46)).alloc (.cells #[.pointer (some ⟨w.heap.size,0,none⟩),.pointer (some ⟨w.heap.size+1,0,none⟩)] 191)) ((((w.alloc (.cells #[.int .i64 op,.int .i64 k,.string ⟨r.1.toArray⟩,.string ⟨r.2.toArray⟩,.slice ao q cp] 46)).alloc (.cells #[.int .i64 f.op,.int .i64 f.k,.string ⟨f.r.1.toArray⟩,.string ⟨f.r.2.toArray⟩,.slice bo f.kids.length bp] 46)).alloc (.cells #[.pointer (some ⟨w.heap.size,0,none⟩),.pointer (some ⟨w.heap.size+1,0,none⟩)] 191)).alloc (.map #[] 0)):=(Chg.refl (fun _=>False) (((w.alloc (.cells #[.int .i64 op,.int .i64 k,.string ⟨r.1.toArray⟩,.string ⟨r.2.toArray⟩,.slice ao q cp] 46)).alloc (.cells #[.int .i64 f.op,.int .i64 f.k,.string ⟨f.r.1.toArray⟩,.string ⟨f.r.2.toArray⟩,.slice bo f.kids.length bp] 46)).alloc (.cells #[.pointer (some ⟨w.heap.size,0,none⟩),.pointer (some ⟨w.heap.size+1,0,none⟩)] 191))).alloc (.map #[] 0)
 have hba:=bE (heap_alloc_new w (.cells #[.int .i64 op,.int .i64 k,.string ⟨r.1.toArray⟩,.string ⟨r.2.toArray⟩,.slice ao q cp] 46)) k2 id
 have hbb:=heap_alloc_new (w.alloc (.cells #[.int .i64 op,.int .i64 k,.string ⟨r.1.toArray⟩,.string ⟨r.2.toArray⟩,.slice ao q cp] 46)) (.cells #[.int .i64 f.op,.int .i64 f.k,.string ⟨f.r.1.toArray⟩,.string ⟨f.r.2.toArray⟩,.slice bo f.kids.length bp] 46)
 rw[hs1]at hbb
 have hbb:=bE hbb k3 id
 have hbr:=heap_alloc_new ((w.alloc (.cells #[.int .i64 op,.int .i64 k,.string ⟨r.1.toArray⟩,.string ⟨r.2.toArray⟩,.slice ao q cp] 46)).alloc (.cells #[.int .i64 f.op,.int .i64 f.k,.string ⟨f.r.1.toArray⟩,.string ⟨f.r.2.toArray⟩,.slice bo f.kids.length bp] 46)) (.cells #[.pointer (some ⟨w.heap.size,0,none⟩),.pointer (some ⟨w.heap.size+1,0,none⟩)] 191)
 rw[hs2]at hbr
 have hbr:=bE hbr k4 id
 have hbm:=heap_alloc_new (((w.alloc (.cells #[.int .i64 op,.int .i64 k,.string ⟨r.1.toArray⟩,.string ⟨r.2.toArray⟩,.slice ao q cp] 46)).alloc (.cells #[.int .i64 f.op,.int .i64 f.k,.string ⟨f.r.1.toArray⟩,.string ⟨f.r.2.toArray⟩,.slice bo f.kids.length bp] 46)).alloc (.cells #[.pointer (some ⟨w.heap.size,0,none⟩),.pointer (some ⟨w.heap.size+1,0,none⟩)] 191)) (.map #[] 0)
 rw[hs3]at hbm
 have hlo:=ownA_lt _ hown
 have hroot:ItOk B ((((w.alloc (.cells #[.int .i64 op,.int .i64 k,.string ⟨r.1.toArray⟩,.string ⟨r.2.toArray⟩,.slice ao q cp] 46)).alloc (.cells #[.int .i64 f.op,.int .i64 f.k,.string ⟨f.r.1.toArray⟩,.string ⟨f.r.2.toArray⟩,.slice bo f.kids.length bp] 46)).alloc (.cells #[.pointer (some ⟨w.heap.size,0,none⟩),.pointer (some ⟨w.heap.size+1,0,none⟩)] 191)).alloc (.map #[] 0)) (w.heap.size+1+1) (fun i=>D i∨i=w.heap.size+1) ⟨.mk op k r (.slice ao q cp) kids,(w.heap.size,0),f,(w.heap.size+1,0)⟩:=by
  refine⟨fun j hj=>?_,⟨_,_,hba⟩,by show w.heap.size<w.heap.size+1+1;omega,ownA_keep hc4 _ hown (fun _ _=>id),fun b hb=>by have:=(hlo b hb).2;omega,⟨n+1,fm_at_blk hbb hok hz ((hf.keep hc4 (fun _ _=>id)).mono (fun i hi=>.inl hi))⟩,by show w.heap.size+1<w.heap.size+1+1;omega⟩
  show (((((w.alloc (.cells #[.int .i64 op,.int .i64 k,.string ⟨r.1.toArray⟩,.string ⟨r.2.toArray⟩,.slice ao q cp] 46)).alloc (.cells #[.int .i64 f.op,.int .i64 f.k,.string ⟨f.r.1.toArray⟩,.string ⟨f.r.2.toArray⟩,.slice bo f.kids.length bp] 46)).alloc (.cells #[.pointer (some ⟨w.heap.size,0,none⟩),.pointer (some ⟨w.heap.size+1,0,none⟩)] 191)).alloc (.map #[] 0))).cell? ⟨w.heap.size,0+j,none⟩=_
  rw[Nat.zero_add,bC hba j]
  simp only[lA]
  rfl
 have HD2:Hid (∀i,(D i∨i=w.heap.size+1)→i<w.heap.size+1+1):=hid (fun i hi=>by
  rcases hi with hi|hi
  ·have:=hD i hi;omega
  ·omega)
 obtain⟨T,hT⟩:∃T:AT,T = .mk op k r (.slice ao q cp) kids:=⟨_,rfl⟩
 have hrow:((((w.alloc (.cells #[.int .i64 op,.int .i64 k,.string ⟨r.1.toArray⟩,.string ⟨r.2.toArray⟩,.slice ao q cp] 46)).alloc (.cells #[.int .i64 f.op,.int .i64 f.k,.string ⟨f.r.1.toArray⟩,.string ⟨f.r.2.toArray⟩,.slice bo f.kids.length bp] 46)).alloc (.cells #[.pointer (some ⟨w.heap.size,0,none⟩),.pointer (some ⟨w.heap.size+1,0,none⟩)] 191)).alloc (.map #[] 0)).ownsRow (w.heap.size+1+1) 191 2 (.slice (some ⟨w.heap.size+1+1,0,none⟩) 1 1) 1 (rowP [⟨T,(w.heap.size,0),f,(w.heap.size+1,0)⟩]):=⟨by simp [rowP,itCells],.inr ⟨w.heap.size+1+1,1,_,rfl,Nat.le_refl _,hbr,by omega,by unfold maxLen;omega,by simp,by simp [rowP,itCells,It.pa,It.pb]⟩⟩
 rw[←hT]at hroot hnd hN ⊢
 have HS:=hid (aI hroot (aI hrow (aI hnd (aI hbm hc4))))
 have HQ:=hid hq
 have hmm:=run_makeMapP
 clear hq hs1 hs2 hs3 hc1 hc2 hc3 hc4 k2 k3 k4 hba hbb hbr hbm hlo hroot hrow hown hnd hf hD hok hz hT
 go_enter Tryz.func113,Tryz.ntmps113
 go_wp2
 obtain⟨w2,hw2⟩:∃w2,w2=((((w.alloc (.cells #[.int .i64 op,.int .i64 k,.string ⟨r.1.toArray⟩,.string ⟨r.2.toArray⟩,.slice ao q cp] 46)).alloc (.cells #[.int .i64 f.op,.int .i64 f.k,.string ⟨f.r.1.toArray⟩,.string ⟨f.r.2.toArray⟩,.slice bo f.kids.length bp] 46)).alloc (.cells #[.pointer (some ⟨w.heap.size,0,none⟩),.pointer (some ⟨w.heap.size+1,0,none⟩)] 191)).alloc (.map #[] 0)):=⟨_,rfl⟩
 rw[←hw2]at HS ⊢
 obtain⟨L0,hL0⟩:∃L0,L0=w.heap.size+1+1:=⟨_,rfl⟩
 rw[←hL0]at HS HD2 ⊢
 have HL0:=hid hL0
 obtain⟨DD,hDD⟩:∃DD:Nat→Prop,DD=(fun i=>D i∨i=w.heap.size+1):=⟨_,rfl⟩
 have HDL:Hid (∀i,DD i→i<L0):=hid (by rw[hDD];exact HD2.out)
 rw[←hDD]at HS
 have HCW:=hid HS.out.2.2.2.2
 have HS2:=hid (aI HS.out.1 (aI HS.out.2.1 (aI HS.out.2.2.1 HS.out.2.2.2.1)))
 have HTN:Hid (nodesF (eraseA T)≤90000):=hid hN
 clear hw2 hL0 hDD HD2 HS hN
 go_loopw [5] (fun s5 wr=>∃(v:Value) (its:List It) (es:Array MapEntry) (clock:Nat),s5=v∧Hid (wr.ownsRow L0 191 2 v its.length (rowP its)∧(∀p∈its,ItOk B w2 L0 DD p)∧(blksS its).Nodup∧wr.heap[L0+1]? = some (.map es clock)∧(∀e∈es.toList,KeyOk w2 L0 (blksS its) e)∧v.ownBlock≠some (L0+1)∧(nodesS its+1+es.size=nodesF (eraseA T)+its.length∧its.length≤es.size+1)∧(eraseA T=f↔∀p∈its,eraseA p.s=p.g)∧Chg (fun k=>L0≤k) w2 wr)) (fun s5 w9=>nodesF (eraseA T)+lenOfV s5-1-mapSize w9 (L0+1))
 case atStart=>exact⟨_,[⟨T,(w.heap.size,0),f,(w.heap.size+1,0)⟩],#[],0,rfl,hid ⟨HS2.out.2.1,fun p hp=>by rw[List.mem_singleton.1 hp];exact HS2.out.1,by simpa [blksS] using HS2.out.2.2.1,HS2.out.2.2.2,fun e he=>(by simp at he),by simp [Value.ownBlock],by simp [nodesS],by simp,Chg.refl _ _⟩⟩
 case round=>
  obtain⟨v,its,es,clock,hs5,hrel⟩:=hrel
  rcases List.eq_nil_or_concat its with hn0|⟨its0,p,hn0⟩
  ·subst hn0
   have hr:=hrel.out
   have hv:v = .slice none 0 0∨∃g cp,v = .slice (some ⟨g,0,none⟩) 0 cp:=by
    rcases hr.1.2 with ⟨e,_⟩|⟨g,cap,cur,e,_⟩
    ·exact .inl e
    ·exact .inr ⟨g,cap,e⟩
   have HEND:=hid (aI (hr.2.2.2.2.2.2.2.1.2 (fun p hp=>by cases hp)) (HCW.out.trans hr.2.2.2.2.2.2.2.2 (fun i hi e=>by have:=HL0.out;omega)))
   clear hrel hr
   rcases hv with rfl|⟨g,cp2,rfl⟩
   ·subst hs5
    go_wp2
    go_ret
    exact⟨true,rfl,⟨fun _=>HEND.out.1,fun _=>rfl⟩,HEND.out.2⟩
   ·subst hs5
    go_wp2
    go_ret
    exact⟨true,rfl,⟨fun _=>HEND.out.1,fun _=>rfl⟩,HEND.out.2⟩
  ·rw[List.concat_eq_append]at hn0
   subst hn0
   obtain⟨k1,k2,k3,k4,k5,k6,k7,k8,k9⟩:=hrel.out
   obtain⟨gL,cpL,hv,j1,j2,j3,j4,j5,j6,j7⟩:=row_cut k1
   have hp:=k2 p (by simp)
   have hpl:its0.length+1≤90001:=by have h1:=nodesS_len (its0++[p]);simp only[List.length_append,List.length_singleton]at k7 h1;have:=HTN.out;omega
   obtain⟨nL,hnL⟩:∃nL,nL=its0.length+1:=⟨_,rfl⟩
   obtain⟨n0,hn0⟩:∃n0,n0=its0.length:=⟨_,rfl⟩
   rw[←hnL]at hv
   subst hv
   subst hs5
   rw[←hn0]at j5 j6 j7
   have HNL:=hid (aI hnL (aI hn0 hpl))
   have hnn:nL=n0+1:=by omega
   have hnb:n0≤90000:=by omega
   have hpi:(nL:Int)-1=(n0:Int):=by omega
   have hwp:IntKind.i64.wrap (n0:Int)=(n0:Int):=by rw[IntKind.wrap_i64];omega
   have z1:decide ((0:Int)<(nL:Int))=true:=decide_eq_true (by omega)
   have hlt:n0<nL:=by omega
   have hle:n0≤cpL:=by omega
   have hle2:nL≤cpL:=by omega
   have HNN:=hid hnn
   unfold It.pa at j5
   unfold It.pb at j6
   have HR:=hid (aI k2 (aI k3 (aI k4 (aI k5 (aI k6 (aI k7 (aI k8 (aI k9 (aI j7 (aI j1 j2))))))))))
   have HP:=hid hp
   clear hrel k1 k2 k3 k4 k5 k6 k7 k8 k9 j1 j2 j3 j4 j7 hp hnL hn0 hpl hnn
   obtain⟨aoA,boA,cpA,bpA,hpv,c4⟩:∃(aoA boA:Option Addr) (cpA bpA:Nat),p.s.v = .slice aoA p.s.kids.length cpA∧w2.cell? ⟨p.b.1,p.b.2+4,none⟩=some (.slice boA p.g.kids.length bpA):=by
    have h0:=HP.out.own
    rw[ownA_eq]at h0
    obtain⟨ao9,cp9,hv9,_,_⟩:=rowV_shape h0.2.1
    obtain⟨m,hm⟩:=HP.out.fm
    obtain⟨d,bo9,bp9,_,⟨_,_,_,_,c4⟩,_,_,_⟩:=hm.open_
    exact⟨ao9,bo9,cp9,bp9,hv9,c4⟩
   have hcq:Chg (fun k=>L0≤k) w2 (wr.alloc (.cells #[.pointer (some ⟨p.a.1,p.a.2,none⟩),.pointer (some ⟨p.b.1,p.b.2,none⟩)] 191)):=HR.out.2.2.2.2.2.2.2.1.alloc _
   have hla:=HP.out.la
   have hlb:=HP.out.lb
   obtain⟨m,hm⟩:=HP.out.fm
   obtain⟨d,bo9,bp9,_,⟨b0,b1,b2,b3,b4⟩,_,_,_⟩:=hm.open_
   rw[b4]at c4
   have a0:=HP.out.ca 0 (by omega)
   have a1:=HP.out.ca 1 (by omega)
   have a2:=HP.out.ca 2 (by omega)
   have a3:=HP.out.ca 3 (by omega)
   have a4:=HP.out.ca 4 (by omega)
   simp only[cellsA,lZ,lS,Nat.add_zero]at a0 a1 a2 a3 a4
   rw[hpv]at a4
   have hAl:Hid (Calls Tryz.prog 126 #[.agg #[.pointer (some ⟨p.a.1,p.a.2,none⟩),.pointer (some ⟨p.b.1,p.b.2,none⟩)]] (wr.alloc (.cells #[.pointer (some ⟨p.a.1,p.a.2,none⟩),.pointer (some ⟨p.b.1,p.b.2,none⟩)] 191)) fun e w'=>e = .returned (.bool (decide (p.s.op=p.g.op∧p.s.k=p.g.k∧p.s.r=p.g.r∧p.s.kids.length=p.g.kids.length)))∧Chg (fun _=>False) (wr.alloc (.cells #[.pointer (some ⟨p.a.1,p.a.2,none⟩),.pointer (some ⟨p.b.1,p.b.2,none⟩)] 191)) w'):=hid (fm_alike p.a.1 p.a.2 p.b.1 p.b.2 p.s.kids.length p.g.kids.length cpA bp9 p.s.op p.s.k p.g.op p.g.k p.s.r p.g.r aoA bo9 (wr.alloc (.cells #[.pointer (some ⟨p.a.1,p.a.2,none⟩),.pointer (some ⟨p.b.1,p.b.2,none⟩)] 191)) ⟨hcq.cell a0 (by show ¬L0≤p.a.1;omega),hcq.cell a1 (by show ¬L0≤p.a.1;omega),hcq.cell a2 (by show ¬L0≤p.a.1;omega),hcq.cell a3 (by show ¬L0≤p.a.1;omega),hcq.cell a4 (by show ¬L0≤p.a.1;omega)⟩ ⟨hcq.cell b0 (by show ¬L0≤p.b.1;omega),hcq.cell b1 (by show ¬L0≤p.b.1;omega),hcq.cell b2 (by show ¬L0≤p.b.1;omega),hcq.cell b3 (by show ¬L0≤p.b.1;omega),hcq.cell b4 (by show ¬L0≤p.b.1;omega)⟩)
   have hqb:=heap_alloc_new wr (.cells #[.pointer (some ⟨p.a.1,p.a.2,none⟩),.pointer (some ⟨p.b.1,p.b.2,none⟩)] 191)
   have HQB:=hid (aI hqb hcq)
   clear hcq hla hlb hm b0 b1 b2 b3 b4 a0 a1 a2 a3 a4 c4 hqb hpv
   go_wp2_with fail
   refine hAl.out.mono ?_
   rintro e w5 ⟨rfl,hc5⟩
   obtain⟨al,hal⟩:∃al,al=decide (p.s.op=p.g.op∧p.s.k=p.g.k∧p.s.r=p.g.r∧p.s.kids.length=p.g.kids.length):=⟨_,rfl⟩
   rw[←hal]
   have HAL:=hid hal
   have HQ5:=hid (aI (bE HQB.out.1 hc5 id) (HQB.out.2.trans hc5 (fun _ _ h=>h.elim)))
   have HR5:=hid (aI (ownsRow_keep HR.out.2.2.2.2.2.2.2.2.1 (((Chg.refl (fun _=>False) wr).alloc (.cells #[.pointer (some ⟨p.a.1,p.a.2,none⟩),.pointer (some ⟨p.b.1,p.b.2,none⟩)] 191)).trans hc5 (fun _ _ h=>h)) (fun _ _=>id)) (bE HR.out.2.2.1 (((Chg.refl (fun _=>False) wr).alloc (.cells #[.pointer (some ⟨p.a.1,p.a.2,none⟩),.pointer (some ⟨p.b.1,p.b.2,none⟩)] 191)).trans hc5 (fun _ _ h=>h)) id))
   have HS5:=hid (show wr.heap.size<w5.heap.size by have:=hc5.size;simp at this;omega)
   clear hal hc5 hAl j5 j6
   cases al with
   | false=>
    go_wp2
    go_ret
    refine⟨false,rfl,⟨fun h=>(by cases h),fun h=>?_⟩,HCW.out.trans HQ5.out.2 (fun i hi e=>by have:=HL0.out;omega)⟩
    have h1:=HR.out.2.2.2.2.2.2.1.1 h p (by simp)
    rw[fm_same_parts]at h1
    have:=HAL.out
    rw[decide_eq_true h1.1]at this
    exact this
   | true=>
    have hpp:=of_decide_eq_true HAL.out.symm
    obtain⟨ao3,bo3,cp3,bp3,KI,i1,i2,i3,i4,i5,i6,i7,i8⟩:=HP.out.kids2 HDL.out hpp.2.2.2
    obtain⟨nK,hnK⟩:∃nK,nK=p.s.kids.length:=⟨_,rfl⟩
    have a4:=HP.out.ca 4 (by omega)
    simp only[cellsA,lZ,lS]at a4
    rw[i1,←hnK]at a4
    have x4:=HQ5.out.2.cell a4 (by show ¬L0≤p.a.1;have:=HP.out.la;omega)
    have x0:=bC HQ5.out.1 0
    simp only[lA,lZ]at x0
    have hbK:nK≤90000:=by
     have h1:=HR.out.2.2.2.2.2.1.1
     have h2:=nodesL_len (eraseL p.s.kids)
     rw[eraseL_len,←hnK]at h2
     have h3:nodesS (its0++[p])=nodesS its0+nodesF (eraseA p.s):=by rw[nodesS_app];simp [nodesS]
     have h4:=nodesF_eq (eraseA p.s)
     rw[eraseA_eq]at h4
     simp only[FmB.kids]at h4
     have h6:=HR.out.2.2.2.2.2.1.2
     rw[h3,eraseA_eq p.s,h4,List.length_append,List.length_singleton]at h1
     have:=nodesS_len its0
     have:=HTN.out
     omega
    have HK:=hid (aI hpp (aI i1 (aI i2 (aI i3 (aI i4 (aI i5 (aI i6 (aI i7 (aI i8 hnK)))))))))
    clear hpp i1 i2 i3 i4 i5 i6 i7 i8 hnK a4 HAL
    go_wp2
    have HM1:Hid (mapSize wr (L0+1)=es.size):=hid (by unfold mapSize;rw[HR.out.2.2.1])
    have HGL:Hid (gL≠wr.heap.size∧wr.heap.size≠L0+1∧L0≤wr.heap.size∧gL≠L0+1):=hid ⟨fun e=>by have:=HR.out.2.2.2.2.2.2.2.2.2.2;omega,fun e=>by have:=lt_blk HR.out.2.2.1;omega,by have:=lt_blk HR.out.2.2.1;omega,fun e=>by have:=HR.out.2.2.2.2.1;rw[e]at this;exact this rfl⟩
    generalize hQe:wr.heap.size=Q at *
    clear hQe
    go_loopw [5,38] (fun s5 i wr=>∃(j:Nat) (v9:Value) (es9:Array MapEntry) (ck9:Nat),j≤nK∧i = .int .i64 j∧s5=v9∧Hid (SameIn w2 L0 Q p its0 KI (blksS (its0++[p])) es.size j v9 es9 ck9 wr)) (fun _ i _=>nK-(intOf i).toNat)
    case atStart=>exact⟨0,_,es,clock,Nat.zero_le _,rfl,rfl,hid ⟨by simp only[List.take_zero,List.append_nil];rw[←HNL.out.2.1];exact HR5.out.1,HR5.out.2,fun e he=>.inl (HR.out.2.2.2.1 e he),rfl,fun e=>by injection e with e;exact HGL.out.2.2.2 e,fun e=>by injection e with e;exact HGL.out.1 e,HQ5.out.1,HQ5.out.2⟩⟩
    case round=>
     obtain⟨j,v9,es9,ck9,hj,rfl,hs5,hrel⟩:=hrel
     by_cases hlt:j<nK
     ·obtain⟨hpp,i1,i2,i3,i4,i5,i6,i7,i8,hnK⟩:=HK.out
      have hjK:j<KI.length:=by omega
      obtain⟨gK,gB,oB,e1,e2,e3,e4,e5⟩:=i8 j hjK
      subst e1 e2
      have a4:=HP.out.ca 4 (by omega)
      simp only[cellsA,lZ,lS]at a4
      rw[i1,←hnK]at a4
      rw[←hpp.2.2.2,←hnK]at i2
      have k7:=hrel.out.q
      have k8:=hrel.out.chg
      have x4:=k8.cell a4 (by show ¬L0≤p.a.1;have:=HP.out.la;omega)
      have y4:=k8.cell i2 (by show ¬L0≤p.b.1;have:=HP.out.lb;omega)
      have x0:=bC k7 0
      have x1:=bC k7 1
      simp only[lA,lZ,lS]at x0 x1
      have hkall:∀i (hi:i<KI.length),KI[i].a=(gK,i*5):=fun i hi=>by
       obtain⟨g9,_,_,q1,_,_,q2,_⟩:=i8 i hi
       injection q1 with q1
       injection q1 with q1
       rw[q2,q1]
      have hgin:gK∈blksS (its0++[p]):=by
       rw[blksS_app]
       refine List.mem_append_right _ ?_
       simp only[blksS,List.flatMap_cons,List.flatMap_nil,List.append_nil]
       rw[blksA_eq,e3]
       exact List.mem_append_left _ (by simp)
      have hkl:its0.length+KI.length≤99000:=by
       have h1:=HR.out.2.2.2.2.2.1.1
       have h6:=HR.out.2.2.2.2.2.1.2
       have h3:nodesS (its0++[p])=nodesS its0+nodesF (eraseA p.s):=by rw[nodesS_app];simp [nodesS]
       have h4:=nodesF_eq (eraseA p.s)
       rw[eraseA_eq]at h4
       simp only[FmB.kids]at h4
       rw[←eraseA_eq]at h4
       have h5:=nodesL_len (eraseL p.s.kids)
       rw[eraseL_len]at h5
       have:=nodesS_len its0
       rw[h3,List.length_append,List.length_singleton]at h1
       rw[List.length_append,List.length_singleton]at h6
       have:=i3
       have:=HTN.out
       have:=HNL.out.2.2
       omega
      have HPUSH:=hid (fun wp b cA hbl hb=>SameIn.push hrel.out hjK hkl i4 hgin hkall e5 ⟨HGL.out.2.2.1,HGL.out.2.1⟩ wp b cA hbl hb)
      have HB:Hid (∀w,Chg (fun b=>wr.heap.size≤b) wr w→w.cell? ⟨p.a.1,p.a.2+4,none⟩=some (.slice (some ⟨gK,0,none⟩) nK cp3)∧w.cell? ⟨p.b.1,p.b.2+4,none⟩=some (.slice (some ⟨gB,oB,none⟩) nK bp3)∧w.cell? ⟨Q,0,none⟩=some (.pointer (some ⟨p.a.1,p.a.2,none⟩))∧w.cell? ⟨Q,1,none⟩=some (.pointer (some ⟨p.b.1,p.b.2,none⟩))):=hid (fun w hw=>⟨old_cell x4 hw,old_cell y4 hw,old_cell x0 hw,old_cell x1 hw⟩)
      have HLT:=hid hlt
      clear hrel hpp i1 i2 i3 i4 i5 i6 i7 i8 hnK a4 k7 k8 hjK e3 e4 e5 hkall hgin hkl x0 x1 x4 y4
      go_wp2
      refine wp_region_stateAD (Chg (fun b=>wr.heap.size≤b)) (AlS 15 16 9 (fun w=>Chg (fun b=>wr.heap.size≤b) wr w) (fun v w=>∃b,v = .pointer (some ⟨b,0,none⟩)∧w.heap[b]? = some (.cells #[.pointer none,.pointer none] 191 (0,0))∧wr.heap.size≤b∧Chg (fun b=>wr.heap.size≤b) wr w) (fun v w=>∃b,v = .pointer (some ⟨b,0,none⟩)∧w.heap[b]? = some (.cells #[.pointer (some ⟨gK,j*5,none⟩),.pointer (some ⟨gB,oB+j*5,none⟩)] 191 (0,0))∧wr.heap.size≤b∧Chg (fun b=>wr.heap.size≤b) wr w)) (specAtR (ks11 Q p gK gB oB nK cp3 bp3 j)) [41,42,43,44,45,46,47,48,49,50,51,52,53,54,55,9] [7,8] (by kernel_rfl) (by kernel_rfl) (AlS.start (show (9:Nat)<72 by decide) (R0.drew)) (fun t v w w' hc h=>specAtR_st _ t v w w' hc h) (by rfl) (by kernel_rfl) ?start11 ?obs11 ?fin11
      case start11=>
       simp only[List.forall_mem_cons];exact⟨⟨_,rfl,rfl⟩,⟨_,rfl,rfl⟩,fun _ h=>by cases h⟩
      case obs11=>
       clear HPUSH
       refine ObsAD.cons none (by kernel_rfl) ?_ ?_
       ·refine ObAD.plain fun L a w hi he hD hW hk K k=>?_
        obtain⟨_,e7,rfl⟩:=hk 7 (by decide)
        clear hk
        have hS:=hid (hW.step (j:=0) (d:=(some 41)) · (by decide) (Chg.refl (fun _=>False) w) (fun _ _ h c=>h.trans c (fun _ _ h=>h.elim)) (fun _ _ _ h c=>alQ h c) (fun _ _ _ h c=>alQ h c))
        clear hi he hW hD
        go_simp
        exact k _ _ R0 (hS.out _) rfl
       refine ObsAD.cons none (by kernel_rfl) ?_ ?_
       ·refine ObAD.plain fun L a w hi he hD hW hk K k=>?_
        obtain⟨_,e41,rfl⟩:=hk 41 (by decide)
        clear hk
        have hB:=hW.ever (fun w h=>HB.out w h) (fun v w h=>HB.out w h.choose_spec.2.2.2) (fun v w h=>HB.out w (h.choose_spec.2.2.2))
        obtain⟨_,_,zz,_⟩:=hB
        have hS:=hid (hW.step (j:=1) (d:=(some 42)) · (by decide) (Chg.refl (fun _=>False) w) (fun _ _ h c=>h.trans c (fun _ _ h=>h.elim)) (fun _ _ _ h c=>alQ h c) (fun _ _ _ h c=>alQ h c))
        clear hi he hW hD
        go_simp
        exact k _ _ R0 (hS.out _) rfl
       refine ObsAD.cons none (by kernel_rfl) ?_ ?_
       ·refine ObAD.plain fun L a w hi he hD hW hk K k=>?_
        obtain⟨_,e42,rfl⟩:=hk 42 (by decide)
        clear hk
        have hS:=hid (hW.step (j:=2) (d:=(some 43)) · (by decide) (Chg.refl (fun _=>False) w) (fun _ _ h c=>h.trans c (fun _ _ h=>h.elim)) (fun _ _ _ h c=>alQ h c) (fun _ _ _ h c=>alQ h c))
        clear hi he hW hD
        go_simp
        exact k _ _ R0 (hS.out _) rfl
       refine ObsAD.cons none (by kernel_rfl) ?_ ?_
       ·refine ObAD.plain fun L a w hi he hD hW hk K k=>?_
        obtain⟨_,e43,rfl⟩:=hk 43 (by decide)
        clear hk
        have hS:=hid (hW.step (j:=3) (d:=(some 44)) · (by decide) (Chg.refl (fun _=>False) w) (fun _ _ h c=>h.trans c (fun _ _ h=>h.elim)) (fun _ _ _ h c=>alQ h c) (fun _ _ _ h c=>alQ h c))
        clear hi he hW hD
        go_simp
        exact k _ _ R0 (hS.out _) rfl
       refine ObsAD.cons none (by kernel_rfl) ?_ ?_
       ·refine ObAD.plain fun L a w hi he hD hW hk K k=>?_
        obtain⟨_,e44,rfl⟩:=hk 44 (by decide)
        clear hk
        have hB:=hW.ever (fun w h=>HB.out w h) (fun v w h=>HB.out w h.choose_spec.2.2.2) (fun v w h=>HB.out w (h.choose_spec.2.2.2))
        obtain⟨zz,_⟩:=hB
        have hS:=hid (hW.step (j:=4) (d:=(some 45)) · (by decide) (Chg.refl (fun _=>False) w) (fun _ _ h c=>h.trans c (fun _ _ h=>h.elim)) (fun _ _ _ h c=>alQ h c) (fun _ _ _ h c=>alQ h c))
        clear hi he hW hD
        go_simp
        exact k _ _ R0 (hS.out _) rfl
       refine ObsAD.cons none (by kernel_rfl) ?_ ?_
       ·refine ObAD.plain fun L a w hi he hD hW hk K k=>?_
        obtain⟨_,e8,rfl⟩:=hk 8 (by decide)
        clear hk
        have hS:=hid (hW.step (j:=5) (d:=(some 46)) · (by decide) (Chg.refl (fun _=>False) w) (fun _ _ h c=>h.trans c (fun _ _ h=>h.elim)) (fun _ _ _ h c=>alQ h c) (fun _ _ _ h c=>alQ h c))
        clear hi he hW hD
        go_simp
        exact k _ _ R0 (hS.out _) rfl
       refine ObsAD.cons none (by kernel_rfl) ?_ ?_
       ·refine ObAD.plain fun L a w hi he hD hW hk K k=>?_
        obtain⟨_,e45,rfl⟩:=hk 45 (by decide)
        obtain⟨_,e46,rfl⟩:=hk 46 (by decide)
        clear hk
        have hB:=hW.ever (fun w h=>HB.out w h) (fun v w h=>HB.out w h.choose_spec.2.2.2) (fun v w h=>HB.out w (h.choose_spec.2.2.2))
        have hlt:=HLT.out
        have hS:=hid (hW.step (j:=6) (d:=(some 47)) · (by decide) (Chg.refl (fun _=>False) w) (fun _ _ h c=>h.trans c (fun _ _ h=>h.elim)) (fun _ _ _ h c=>alQ h c) (fun _ _ _ h c=>alQ h c))
        clear hi he hW hD
        go_simp
        exact k _ _ R0 (hS.out _) rfl
       refine ObsAD.cons none (by kernel_rfl) ?_ ?_
       ·refine ObAD.plain fun L a w hi he hD hW hk K k=>?_
        obtain⟨_,e7,rfl⟩:=hk 7 (by decide)
        clear hk
        have hS:=hid (hW.step (j:=7) (d:=(some 48)) · (by decide) (Chg.refl (fun _=>False) w) (fun _ _ h c=>h.trans c (fun _ _ h=>h.elim)) (fun _ _ _ h c=>alQ h c) (fun _ _ _ h c=>alQ h c))
        clear hi he hW hD
        go_simp
        exact k _ _ R0 (hS.out _) rfl
       refine ObsAD.cons none (by kernel_rfl) ?_ ?_
       ·refine ObAD.plain fun L a w hi he hD hW hk K k=>?_
        obtain⟨_,e48,rfl⟩:=hk 48 (by decide)
        clear hk
        have hB:=hW.ever (fun w h=>HB.out w h) (fun v w h=>HB.out w h.choose_spec.2.2.2) (fun v w h=>HB.out w (h.choose_spec.2.2.2))
        obtain⟨_,_,_,zz⟩:=hB
        have hS:=hid (hW.step (j:=8) (d:=(some 49)) · (by decide) (Chg.refl (fun _=>False) w) (fun _ _ h c=>h.trans c (fun _ _ h=>h.elim)) (fun _ _ _ h c=>alQ h c) (fun _ _ _ h c=>alQ h c))
        clear hi he hW hD
        go_simp
        exact k _ _ R0 (hS.out _) rfl
       refine ObsAD.cons none (by kernel_rfl) ?_ ?_
       ·refine ObAD.plain fun L a w hi he hD hW hk K k=>?_
        obtain⟨_,e49,rfl⟩:=hk 49 (by decide)
        clear hk
        have hS:=hid (hW.step (j:=9) (d:=(some 50)) · (by decide) (Chg.refl (fun _=>False) w) (fun _ _ h c=>h.trans c (fun _ _ h=>h.elim)) (fun _ _ _ h c=>alQ h c) (fun _ _ _ h c=>alQ h c))
        clear hi he hW hD
        go_simp
        exact k _ _ R0 (hS.out _) rfl
       refine ObsAD.cons none (by kernel_rfl) ?_ ?_
       ·refine ObAD.plain fun L a w hi he hD hW hk K k=>?_
        obtain⟨_,e50,rfl⟩:=hk 50 (by decide)
        clear hk
        have hS:=hid (hW.step (j:=10) (d:=(some 51)) · (by decide) (Chg.refl (fun _=>False) w) (fun _ _ h c=>h.trans c (fun _ _ h=>h.elim)) (fun _ _ _ h c=>alQ h c) (fun _ _ _ h c=>alQ h c))
        clear hi he hW hD
        go_simp
        exact k _ _ R0 (hS.out _) rfl
       refine ObsAD.cons none (by kernel_rfl) ?_ ?_
       ·refine ObAD.plain fun L a w hi he hD hW hk K k=>?_
        obtain⟨_,e51,rfl⟩:=hk 51 (by decide)
        clear hk
        have hB:=hW.ever (fun w h=>HB.out w h) (fun v w h=>HB.out w h.choose_spec.2.2.2) (fun v w h=>HB.out w (h.choose_spec.2.2.2))
        obtain⟨_,zz,_⟩:=hB
        have hS:=hid (hW.step (j:=11) (d:=(some 52)) · (by decide) (Chg.refl (fun _=>False) w) (fun _ _ h c=>h.trans c (fun _ _ h=>h.elim)) (fun _ _ _ h c=>alQ h c) (fun _ _ _ h c=>alQ h c))
        clear hi he hW hD
        go_simp
        exact k _ _ R0 (hS.out _) rfl
       refine ObsAD.cons none (by kernel_rfl) ?_ ?_
       ·refine ObAD.plain fun L a w hi he hD hW hk K k=>?_
        obtain⟨_,e8,rfl⟩:=hk 8 (by decide)
        clear hk
        have hS:=hid (hW.step (j:=12) (d:=(some 53)) · (by decide) (Chg.refl (fun _=>False) w) (fun _ _ h c=>h.trans c (fun _ _ h=>h.elim)) (fun _ _ _ h c=>alQ h c) (fun _ _ _ h c=>alQ h c))
        clear hi he hW hD
        go_simp
        exact k _ _ R0 (hS.out _) rfl
       refine ObsAD.cons none (by kernel_rfl) ?_ ?_
       ·refine ObAD.plain fun L a w hi he hD hW hk K k=>?_
        obtain⟨_,e52,rfl⟩:=hk 52 (by decide)
        obtain⟨_,e53,rfl⟩:=hk 53 (by decide)
        clear hk
        have hB:=hW.ever (fun w h=>HB.out w h) (fun v w h=>HB.out w h.choose_spec.2.2.2) (fun v w h=>HB.out w (h.choose_spec.2.2.2))
        have hlt:=HLT.out
        have hS:=hid (hW.step (j:=13) (d:=(some 54)) · (by decide) (Chg.refl (fun _=>False) w) (fun _ _ h c=>h.trans c (fun _ _ h=>h.elim)) (fun _ _ _ h c=>alQ h c) (fun _ _ _ h c=>alQ h c))
        clear hi he hW hD
        go_simp
        exact k _ _ R0 (hS.out _) rfl
       refine ObsAD.cons none (by kernel_rfl) ?_ ?_
       ·refine ObAD.plain fun L a w hi he hD hW hk K k=>?_
        obtain⟨_,e47,rfl⟩:=hk 47 (by decide)
        obtain⟨_,e54,rfl⟩:=hk 54 (by decide)
        clear hk
        have hS:=hid (hW.step (j:=14) (d:=(some 55)) · (by decide) (Chg.refl (fun _=>False) w) (fun _ _ h c=>h.trans c (fun _ _ h=>h.elim)) (fun _ _ _ h c=>alQ h c) (fun _ _ _ h c=>alQ h c))
        clear hi he hW hD
        go_simp
        exact k _ _ R0 (hS.out _) rfl
       refine ObsAD.cons none (by kernel_rfl) ?_ ?_
       ·refine ObAD.plain fun L a w hi he hD hW hk K k=>?_
        clear hk
        have h0:=hW.p0 hi
        have hsz:=h0.size
        have HS:=hid (aI hW hi)
        clear hi he hW hD
        go_simp
        exact k _ _ (R0.alloc _) (HS.out.1.first (by decide) HS.out.2 ⟨w.heap.size,rfl,heap_alloc_new w _,hsz,h0.alloc _⟩) trivial
       refine ObsAD.cons none (by kernel_rfl) ?_ ?_
       ·refine ObAD.plain fun L a w hi he hD hW hk K k=>?_
        obtain⟨_,e55,rfl⟩:=hk 55 (by decide)
        clear hk
        have hall:L 15=true:=he ⟨15,Ground.data⟩ (by simp) (by decide)
        obtain⟨v2,e9,b,rfl,hb,hle,hc⟩:=hW.p1 hall hi
        have z0:=bC hb 0
        have z1:=bC hb 1
        have f0:=froz_blk hb 0
        have f1:=froz_blk hb 1
        simp only[lA,lZ,lS]at z0 z1
        have HS:=hid (aI hW (aI hall (aI (set_blk (set_blk hb 0 (.pointer (some ⟨gK,j*5,none⟩))) 1 (.pointer (some ⟨gB,oB+j*5,none⟩))) (aI hle (aI ((hc.setCell (p:=⟨b,0,none⟩) (fun _=>hle) (.pointer (some ⟨gK,j*5,none⟩))).setCell (p:=⟨b,1,none⟩) (fun _=>hle) (.pointer (some ⟨gB,oB+j*5,none⟩))) (((Chg.refl (fun b=>wr.heap.size≤b) w).setCell (p:=⟨b,0,none⟩) (fun _=>hle) (.pointer (some ⟨gK,j*5,none⟩))).setCell (p:=⟨b,1,none⟩) (fun _=>hle) (.pointer (some ⟨gB,oB+j*5,none⟩))))))))
        have H9:=hid e9
        clear hW hall hb hle hc hi he hD
        go_simp
        exact k undef _ HS.out.2.2.2.2.2 (HS.out.1.second (by decide) HS.out.2.1 H9.out ⟨b,rfl,HS.out.2.2.1,HS.out.2.2.2.1,HS.out.2.2.2.2.1⟩) trivial
       exact ObsAD.nil
      case fin11=>
       intro L vals w9 hL hWL hv
       obtain⟨vv,hvv,b11,rfl,hb11,hle11,hc11⟩:=hWL.p2 (hL 16 (by decide))
       simp only[putAll,List.setIfInBounds_toArray,List.set_cons_zero,List.set_cons_succ,lA,lZ,lS,Option.some.injEq]at hvv
       have hv9:=hvv
       clear hL hWL hvv
       obtain⟨w6,hw6⟩:∃w6,w6=w9:=⟨_,rfl⟩
       rw[←hw6]at hb11 hc11 ⊢
       have hcN:Chg (fun _=>False) wr w6:=hc11.mono (fun i hi h=>by omega)
       simp only[putAll,List.setIfInBounds_toArray,List.set_cons_zero,List.set_cons_succ,hv9]
       obtain⟨m1,m2,w7,m3,m4,v10,w8,m5,es10,ck10,m6⟩:=HPUSH.out w6 b11 hcN hle11 hb11
       have HN:=hid m6
       have m40:=bC m4 0
       have m41:=bC m4 1
       have n0:=bC hb11 0
       have n1:=bC hb11 1
       have hb12:=bE hb11 ((Chg.refl (fun _=>False) w6).alloc (.cells #[] 62)) id
       have p0:=bC hb12 0
       have p1:=bC hb12 1
       simp only[lA,lZ,lS]at m40 m41 n0 n1 p0 p1
       clear hb12 m6 m4 HPUSH hw6 hb11 hc11 hcN hle11 hv9 hv HB
       subst hs5
       go_wp2_with (at_builtin;refine wpList_append_runK rfl (.tmp 67) (.tmp 69) 192 rfl rfl rfl m5 ?_)
       go_roundw
       case rel=>exact⟨j+1,v10,es10,ck10,HLT.out,by go_num,rfl,HN⟩
       case measure=>have:=HLT.out;simp [intOf];omega
     ·obtain⟨hpp,i1,i2,i3,i4,i5,i6,i7,i8,hnK⟩:=HK.out
      have hjK:j=KI.length:=by omega
      have hrel2:=hrel.out
      rw[hjK]at hrel2
      have hrs:=HR.out
      have HLV:=hid (SameIn.leave hrel2 hrs.1 hrs.2.1 hrs.2.2.2.2.2.1 hrs.2.2.2.2.2.2.1 hpp i4 i5 i6 i7 i8)
      clear hrel hrel2 hpp i1 i2 i3 i4 i5 i6 i7 i8 hnK hrs hjK
      subst hs5
      go_wp2
      go_roundw
      case rel=>exact⟨_,its0++KI,es9,ck9,rfl,hid HLV.out.1⟩
      case measure=>
       have h1:=HLV.out.2
       rw[h1.1,h1.2.1,HM1.out,List.length_append]
       have:=HNL.out.1
       have:=h1.2.2
       show _<_+nL-1-_
       omega
end Go.Proofs.YtkfinhpfdcjoeaaGreat
