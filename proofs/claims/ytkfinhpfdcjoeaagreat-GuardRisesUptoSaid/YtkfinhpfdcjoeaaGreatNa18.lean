/- Texts that the proof leans on, in one: FmSameM, RegA, RegAD, RegAl. -/
import Derived.Test.YtkfinhpfdcjoeaaGreatNa16
import Derived.Test.YtkfinhpfdcjoeaaGreatNa17
import Derived.Test.YtkfinhpfdcjoeaaGreatNa3
import Derived.Test.YtkfinhpfdcjoeaaGreatNa4
/- Same of two formulas: what lies in memory while pairs of nodes are asked. -/
namespace Go.Proofs.YtkfinhpfdcjoeaaGreat
section
open Go.RowKit
/-- A pair of nodes that is left to be asked: where each lies, and what it is. -/
structure It where
 s:AT
 a:Nat×Nat
 g:FmB
 b:Nat×Nat
def It.pa (p:It):Addr:=⟨p.a.1,p.a.2,none⟩
def It.pb (p:It):Addr:=⟨p.b.1,p.b.2,none⟩
def itCells (p:It):List Value:=[.pointer (some p.pa),.pointer (some p.pb)]
def rowP (its:List It):List Value:=its.flatMap itCells
def blksS (its:List It):List Nat:=its.flatMap (fun p=>blksA p.s)
def nodesS (its:List It):Nat:=(its.map (fun p=>nodesF (eraseA p.s))).sum
theorem rowP_len (l:List It):(rowP l).length=l.length*2:=by
 unfold rowP
 induction l with
 | nil=>rfl
 | cons x l ih=>rw[List.flatMap_cons,List.length_append,ih,List.length_cons];simp [itCells];omega
theorem rowP_snoc (l:List It) (x:It):rowP (l++[x])=rowP l++itCells x:=by simp [rowP]
theorem blksS_app (l m:List It):blksS (l++m)=blksS l++blksS m:=by simp [blksS]
theorem nodesS_app (l m:List It):nodesS (l++m)=nodesS l+nodesS m:=by simp [nodesS]
theorem nodesS_len (l:List It):l.length≤nodesS l:=by
 unfold nodesS
 induction l with
 | nil=>simp
 | cons x l ih=>have:=nodesF_pos (eraseA x.s);rw[List.map_cons,List.sum_cons,List.length_cons];omega
/-- The items of two rows of Kids. -/
def kidIts (gK gB oB:Nat):Nat→List AT→List FmB→List It
 | i,s::ss,g::gs=>⟨s,(gK,i*5),g,(gB,oB+i*5)⟩::kidIts gK gB oB (i+1) ss gs
 | _,[],_=>[]
 | _,_::_,[]=>[]
theorem kidIts_len (gK gB oB:Nat):∀(i:Nat) (ss:List AT) (gs:List FmB),ss.length=gs.length→(kidIts gK gB oB i ss gs).length=ss.length
 | _,[],_,_=>rfl
 | _,_::_,[],h=>by simp at h
 | i,s::ss,g::gs,h=>by rw[kidIts,List.length_cons,kidIts_len gK gB oB (i+1) ss gs (by simpa using h),List.length_cons]
theorem kidIts_get (gK gB oB:Nat):∀(i:Nat) (ss:List AT) (gs:List FmB) (hl:ss.length=gs.length) (j:Nat) (hj:j<ss.length),(kidIts gK gB oB i ss gs)[j]'(by rw[kidIts_len gK gB oB i ss gs hl];exact hj)=⟨ss[j],(gK,(i+j)*5),gs[j]'(by omega),(gB,oB+(i+j)*5)⟩
 | _,[],_,_,j,hj=>absurd hj (by simp)
 | _,_::_,[],h,_,_=>by simp at h
 | i,s::ss,g::gs,h,0,hj=>by simp [kidIts]
 | i,s::ss,g::gs,h,j+1,hj=>by
  have:=kidIts_get gK gB oB (i+1) ss gs (by simpa using h) j (by simpa using hj)
  simp only[kidIts,List.getElem_cons_succ]
  rw[this]
  simp only[show i+1+j=i+(j+1) by omega]
theorem kidIts_blks (gK gB oB:Nat):∀(i:Nat) (ss:List AT) (gs:List FmB),ss.length=gs.length→blksS (kidIts gK gB oB i ss gs)=blksL ss∧nodesS (kidIts gK gB oB i ss gs)=nodesL (eraseL ss)
 | _,[],_,_=>⟨rfl,rfl⟩
 | _,_::_,[],h=>by simp at h
 | i,s::ss,g::gs,h=>by
  obtain⟨h1,h2⟩:=kidIts_blks gK gB oB (i+1) ss gs (by simpa using h)
  simp only[kidIts,blksS,nodesS,List.flatMap_cons,List.map_cons,List.sum_cons,blksL,eraseL,nodesL]at h1 h2 ⊢
  exact⟨by rw[h1],by rw[h2]⟩
theorem kidIts_same (gK gB oB:Nat):∀(i:Nat) (ss:List AT) (gs:List FmB),ss.length=gs.length→((∀p∈kidIts gK gB oB i ss gs,eraseA p.s=p.g)↔eraseL ss=gs)
 | _,[],[],_=>⟨fun _=>rfl,fun _ _ h=>(by cases h)⟩
 | _,[],_::_,h=>by simp at h
 | _,_::_,[],h=>by simp at h
 | i,s::ss,g::gs,h=>by
  have ih:=kidIts_same gK gB oB (i+1) ss gs (by simpa using h)
  simp only[kidIts,eraseL,List.cons.injEq]
  rw[←ih]
  exact⟨fun h=>⟨h _ List.mem_cons_self,fun p hp=>h p (List.mem_cons_of_mem _ hp)⟩,fun h p hp=>(List.mem_cons.1 hp).elim (fun e=>by rw[e];exact h.1) (h.2 p)⟩
theorem fm_same_parts (s:AT) (g:FmB):eraseA s=g↔(s.op=g.op∧s.k=g.k∧s.r=g.r∧s.kids.length=g.kids.length)∧eraseL s.kids=g.kids:=by
 obtain⟨op,k,r,v,kids⟩:=s
 obtain⟨op2,k2,r2,kids2⟩:=g
 simp only[eraseA,AT.op,AT.k,AT.r,AT.kids,FmB.op,FmB.k,FmB.r,FmB.kids,FmB.mk.injEq]
 constructor
 ·rintro ⟨h1,h2,h3,h4⟩
  exact⟨⟨h1,h2,h3,by rw[←h4,eraseL_len]⟩,h4⟩
 ·rintro ⟨⟨h1,h2,h3,_⟩,h4⟩
  exact⟨h1,h2,h3,h4⟩
/-- An item is as it says: in the world w2, whose blocks from L0 on may change. -/
structure ItOk (B:Nat) (w2:World) (L0:Nat) (D:Nat→Prop) (p:It):Prop where
 ca:∀j,j<5→w2.cell? ⟨p.a.1,p.a.2+j,none⟩=(cellsA p.s)[j]?
 pl:∃cs ty,w2.heap[p.a.1]? = some (.cells cs ty (0,0))
 la:p.a.1<L0
 own:OwnA B w2 p.s
 lo:∀b∈blksA p.s,b<L0
 fm:∃m,FmAt D w2 m p.b.1 p.b.2 p.g
 lb:p.b.1<L0
/-- The Kids of an item are items. -/
theorem ItOk.kids {B:Nat} {w2:World} {L0:Nat} {D:Nat→Prop} (hD:∀i,D i→i<L0) {p:It} (h:ItOk B w2 L0 D p) (hl:p.s.kids.length=p.g.kids.length):∃(ao bo:Option Addr) (cp bp:Nat),p.s.v = .slice ao p.s.kids.length cp∧w2.cell? ⟨p.b.1,p.b.2+4,none⟩=some (.slice bo p.g.kids.length bp)∧
  (p.s.kids≠[]→∃gK gB oB,ao=some ⟨gK,0,none⟩∧bo=some ⟨gB,oB,none⟩∧p.s.v.ownBlock=some gK∧∀q∈kidIts gK gB oB 0 p.s.kids p.g.kids,ItOk B w2 L0 D q):=by
 have h0:=h.own
 rw[ownA_eq]at h0
 obtain⟨h1,h2,h3⟩:=h0
 obtain⟨ao,cp,hv,hz,hle⟩:=rowV_shape h2
 obtain⟨m,hm⟩:=h.fm
 obtain⟨d,bo,bp,hd,⟨_,_,_,_,c4⟩,_,_,hk⟩:=hm.open_
 refine⟨ao,bo,cp,bp,hv,c4,fun hne=>?_⟩
 have hpos:0<p.s.kids.length:=List.length_pos_iff.2 hne
 rcases h2.2 with ⟨e,h0⟩|⟨gK,cap,cur,e,hg,hh,k1,k2,k3,k4⟩
 ·omega
 ·rw[e]at hv
  injection hv with hv _ hcp
  subst hv
  obtain⟨gB,oB,hbo,hDb,_⟩:=hk 0 (by omega)
  refine⟨gK,gB,oB,rfl,hbo,by rw[e];rfl,fun q hq=>?_⟩
  obtain⟨j,hj,rfl⟩:=List.getElem_of_mem hq
  rw[kidIts_len gK gB oB 0 _ _ hl]at hj
  rw[kidIts_get gK gB oB 0 _ _ hl j hj,Nat.zero_add]
  have hmem:p.s.kids[j]∈p.s.kids:=List.getElem_mem hj
  have hbl:∀b∈blksA p.s.kids[j],b∈blksA p.s:=fun b hb=>by
   rw[blksA_eq p.s,blksL_flat]
   exact List.mem_append_right _ (List.mem_flatMap.2 ⟨_,hmem,hb⟩)
  obtain⟨gB2,oB2,e2,hDb2,hfm⟩:=hk j (by omega)
  rw[hbo]at e2
  cases e2
  refine⟨fun i hi=>?_,⟨_,_,hh⟩,h.lo gK (by rw[blksA_eq,e];exact List.mem_append_left _ (by simp [Value.ownBlock])),(ownL_all _ _ _).1 h3 _ hmem,fun b hb=>h.lo b (hbl b hb),⟨d,hfm⟩,hD _ hDb2⟩
  have hget:=rowA_get p.s.kids j i hj hi
  have hs:i<(cellsA p.s.kids[j]).length:=by simpa [cellsA] using hi
  rw[List.getElem?_eq_getElem hs]at hget ⊢
  rw[e]at h2
  have:=h2.cells (g:=gK) rfl (j*5+i) _ hget
  rw[add_off,Nat.zero_add]at this
  exact this
/-- The Kids of an item, in a row. -/
theorem ItOk.kids2 {B:Nat} {w2:World} {L0:Nat} {D:Nat→Prop} (hD:∀i,D i→i<L0) {p:It} (h:ItOk B w2 L0 D p) (hl:p.s.kids.length=p.g.kids.length):∃(ao bo:Option Addr) (cp bp:Nat) (KI:List It),p.s.v = .slice ao p.s.kids.length cp∧w2.cell? ⟨p.b.1,p.b.2+4,none⟩=some (.slice bo p.g.kids.length bp)∧KI.length=p.s.kids.length∧(∀q∈KI,ItOk B w2 L0 D q)∧blksS KI=blksL p.s.kids∧nodesS KI=nodesL (eraseL p.s.kids)∧((∀q∈KI,eraseA q.s=q.g)↔eraseL p.s.kids=p.g.kids)∧
  ∀j (hj:j<KI.length),∃gK gB oB,ao=some ⟨gK,0,none⟩∧bo=some ⟨gB,oB,none⟩∧p.s.v.ownBlock=some gK∧KI[j].a=(gK,j*5)∧KI[j].b=(gB,oB+j*5):=by
 obtain⟨ao,bo,cp,bp,h1,h2,h3⟩:=h.kids hD hl
 by_cases he:p.s.kids=[]
 ·refine⟨ao,bo,cp,bp,[],h1,h2,by rw[he];rfl,fun _ h=>(by cases h),by rw[he];rfl,by rw[he];rfl,?_,fun j hj=>absurd hj (by simp)⟩
  rw[he]
  have:p.g.kids=[]:=List.eq_nil_of_length_eq_zero (by rw[←hl,he];rfl)
  rw[this]
  exact⟨fun _=>rfl,fun _ _ h=>(by cases h)⟩
 ·obtain⟨gK,gB,oB,k1,k2,k3,k4⟩:=h3 he
  have hb:=kidIts_blks gK gB oB 0 _ _ hl
  refine⟨ao,bo,cp,bp,kidIts gK gB oB 0 p.s.kids p.g.kids,h1,h2,kidIts_len gK gB oB 0 _ _ hl,k4,hb.1,hb.2,kidIts_same gK gB oB 0 _ _ hl,fun j hj=>⟨gK,gB,oB,k1,k2,k3,?_,?_⟩⟩
  ·rw[kidIts_len gK gB oB 0 _ _ hl]at hj
   rw[kidIts_get gK gB oB 0 _ _ hl j hj,Nat.zero_add]
  ·rw[kidIts_len gK gB oB 0 _ _ hl]at hj
   rw[kidIts_get gK gB oB 0 _ _ hl j hj,Nat.zero_add]
/-- A key of the map: its first pointer lies in a block that is none of bs, unless it was entered for one of the first j of the row g. -/
def KeyOk (w2:World) (L0:Nat) (bs:List Nat) (e:MapEntry):Prop:=∃a' b':Addr,e.key = .agg #[.pointer (some a'),.pointer (some b')]∧(∃cs ty,w2.heap[a'.block]? = some (.cells cs ty (0,0)))∧a'.block<L0∧a'.block∉bs
/-- The row of what is left. -/
theorem Tryz.info191:(Tryz.prog.info? 191).map (fun i=>(i.zero,i.size,i.bytes))=some (some (.agg #[.pointer none,.pointer none]),2,16):=by kernel_rfl
theorem run_append_it {B:Nat} {w:World} {v:Value} {its:List It} {p:It} (ty:TypeId) (hown:w.ownsRow B 191 2 v its.length (rowP its)) {b:Nat} (hb:w.heap[b]? = some (.cells (itCells p).toArray 191 (0,0))) (hlen:its.length≤100000) (hB:B≤w.heap.size) :
  ∃v' w',(Builtin.append_ #[192,192] ty #[v,.slice (some ⟨b,0,none⟩) 1 1]).run Tryz.prog w = .ok v' w'∧w'.ownsRow B 191 2 v' (its++[p]).length (rowP (its++[p]))∧Chg (fun k=>v.ownBlock=some k) w w'∧(v'.ownBlock=v.ownBlock∨v'.ownBlock=some w.heap.size):=by
 obtain⟨i0,hi,hz0,hz1,hz2⟩:=info_parts Tryz.info191
 obtain⟨v',w',k1,k2,k3,k4⟩:=run_append_own_atD (P:=Tryz.prog) w B 192 ty 191 i0 (.agg #[.pointer none,.pointer none]) 2 16 Tryz.underlying192 hi hz0 hz1 hz2 rfl (by decide) v _ _ hown ⟨b,0,none⟩ 1 1 (itCells p) rfl
  (fun j u hj=>by
   have h:=bC hb j
   rw[lA,hj]at h
   rw[add_off,Nat.zero_add]
   exact h) (fun u hu=>by
   simp only[itCells,List.mem_cons,List.not_mem_nil,or_false]at hu
   rcases hu with rfl|rfl <;> rfl) (by unfold maxLen;omega) (by omega) hB
 exact⟨v',w',k1,by rw[List.length_append,List.length_singleton,rowP_snoc];exact k2,(Chg.refl _ w).grown k3 fun k e _=>e,k4.2⟩
/-- The last one is taken. -/
theorem row_cut {B:Nat} {w:World} {v:Value} {its:List It} {p:It} (h:w.ownsRow B 191 2 v (its++[p]).length (rowP (its++[p]))):∃gL cp,v = .slice (some ⟨gL,0,none⟩) (its.length+1) cp∧B≤gL∧gL<w.heap.size∧its.length+1≤cp∧cp≤maxLen∧w.cell? ⟨gL,its.length*2,none⟩=some (.pointer (some p.pa))∧w.cell? ⟨gL,its.length*2+1,none⟩=some (.pointer (some p.pb))∧w.ownsRow B 191 2 (.slice (some ⟨gL,0,none⟩) its.length cp) its.length (rowP its):=by
 have hl:(its++[p]).length=its.length+1:=by simp
 rw[hl,rowP_snoc]at h
 rcases h.2 with ⟨_,h0⟩|⟨gL,cap,cur,rfl,hg,hh,k1,k2,k3,k4⟩
 ·omega
 ·have hc:=fun i u (hi:(rowP its++itCells p)[i]? = some u)=>h.cells (g:=gL) rfl i u hi
  have e0:=hc (its.length*2) (.pointer (some p.pa)) (by rw[List.getElem?_append_right (by rw[rowP_len];omega),rowP_len,Nat.sub_self];rfl)
  have e1:=hc (its.length*2+1) (.pointer (some p.pb)) (by rw[List.getElem?_append_right (by rw[rowP_len];omega),rowP_len,Nat.add_sub_cancel_left];rfl)
  rw[add_off,Nat.zero_add]at e0 e1
  refine⟨gL,cap,rfl,hg,lt_blk hh,k1,k2,e0,e1,rowP_len its,.inr ⟨gL,cap,cur,rfl,hg,hh,by omega,k2,k3,?_⟩⟩
  have:=congrArg (List.take (its.length*2)) k4
  rw[List.take_take,List.take_append_of_le_length (by rw[rowP_len];omega),Nat.min_eq_left (by omega)]at this
  rw[this,←rowP_len,List.take_length]
def mapSize (w:World) (M:Nat):Nat:=match w.heap[M]? with
 | some (.map es _)=>es.size
 | _=>0
end
section
open Go.RowKit
/-- What is to be shown of the operation i, W being what holds of the world where the operations of L have come up, S what becomes of a world. -/
def ObA (P:Program) (Q:Exit→Act→World→Prop) (S:World→World→Prop) (W:(Nat→Bool)→Act→World→Prop) (G:Tmp→Value→World→Prop) (i:Nat) (g:Option (Tmp×Bool)) (o:Oper):Prop:=
 ∀(L:Nat→Bool) (a:Act) (w:World),L i=false→(∀e∈o.after,Region.binds .any e=true→L e.on=true)→W L a w→(∀t∈looks g o,Knows G a w t)→
  ∀K:Act→World→Prop,(∀v w',S w w'→W (upd L i) (a.put o.dst v) w'→Gd G o.dst v w'→K (a.put o.dst v) w')→
   match g with
   | none=>o.wp P a w K Q
   | some (t,b)=>if says b a.tmps[t]? = true then o.wp P a w K Q else K (a.put o.dst undef) w
inductive ObsA (P:Program) (Q:Exit→Act→World→Prop) (S:World→World→Prop) (W:(Nat→Bool)→Act→World→Prop) (G:Tmp→Value→World→Prop) (ops:Array Oper):Nat→List Oper→Prop
 | nil {n:Nat}:ObsA P Q S W G ops n []
 | cons {n:Nat} {o:Oper} {l:List Oper} (g:Option (Tmp×Bool)) (hg:gSlot ops o=g) (h:ObA P Q S W G n g o) (hs:ObsA P Q S W G ops (n+1) l):ObsA P Q S W G ops n (o::l)
section
variable {P:Program} {ops:Array Oper} {Q:Exit→Act→World→Prop} {S:World→World→Prop} {W:(Nat→Bool)→Act→World→Prop} {G:Tmp→Value→World→Prop} {a0:Act} {ds:List Tmp}
theorem ObsA.all {n:Nat} {l:List Oper} (h:ObsA P Q S W G ops n l):∀(i:Nat) (o:Oper),l[i]? = some o→ObA P Q S W G (n+i) (gSlot ops o) o:=by
 induction h with
 | nil=>intro i o ho;simp at ho
 | @cons k _ _ g hg h hs ih=>
  intro i o ho
  cases i with
  | zero=>
   simp only[lZ,Option.some.injEq]at ho
   subst ho
   rw[hg]
   exact h
  | succ i=>
   simp only[lS]at ho
   have:=ih i o ho
   rwa [show k+1+i=k+(i+1) from by omega]at this
structure RegInvA (ops:Array Oper) (W:(Nat→Bool)→Act→World→Prop) (G:Tmp→Value→World→Prop) (a0:Act) (listed:Array Bool) (a:Act) (w:World):Prop where
 len:listed.size=ops.size
 world:W (fun j=>listed.getD j false) a w
 defers:a.defers=a0.defers
 size:a.tmps.size=a0.tmps.size
 same:∀t,(∀(i:Nat) (o:Oper),ops[i]? = some o→o.dst≠some t)→a.tmps[t]? = a0.tmps[t]?
 known:∀(i:Nat) (o:Oper) (t:Tmp),ops[i]? = some o→listed.getD i false=true→o.dst=some t→Knows G a w t
 outs:∀t∈outsOf ops (dstsOf ops.toList),Knows G a0 w t
theorem region_goA (hds:dstsOf ops.toList=ds) (hnd:ds.Nodup)
  (hok:∀(i:Nat) (o:Oper),ops[i]? = some o→(o.guard.isSome=true→(gSlot ops o).isSome=true)∧(∀e∈o.after,Region.binds .any e=true→e.on<i)∧
   (∀t∈looks (gSlot ops o) o,t∈ds→∃e∈o.after,Region.binds .any e=true∧(ops[e.on]?).bind (·.dst)=some t))
  (hG:∀t v w w',S w w'→G t v w→G t v w')
  (hsize:∀t∈ds,t<a0.tmps.size)
  (hobs:∀(i:Nat) (o:Oper),ops[i]? = some o→ObA P Q S W G i (gSlot ops o) o)
  (hfin:∀L a w,(∀i,i<ops.size→L i=true)→W L a w→a.defers=a0.defers→a.tmps.size=a0.tmps.size→(∀t,t∉ds→a.tmps[t]? = a0.tmps[t]?)→(∀t∈ds,Knows G a w t)→Q .normal a w) :
  ∀(fuel:Nat) (listed:Array Bool) (a:Act) (w:World),unlisted ops.size listed≤fuel→RegInvA ops W G a0 listed a w→wpAny P .any ops Q fuel listed a w:=by
 have hend:∀(listed:Array Bool) (a:Act) (w:World),Region.ready .any ops listed=[]→RegInvA ops W G a0 listed a w→Q .normal a w:=by
  intro listed a w hr hi
  have hall:∀(i:Nat),i<ops.size→listed.getD i false=true:=by
   intro i
   induction i using Nat.strongRecOn with
   | ind i ih=>
    intro hlt
    refine Decidable.byContradiction fun hne=>?_
    have hmem:i∈Region.ready .any ops listed:=by
     rw[mem_ready]
     refine⟨?_,ops[i],Array.getElem?_eq_getElem hlt,fun e he hb=>?_⟩
     ·have h1:i<listed.size:=by rw[hi.len];exact hlt
      simp [h1]at hne ⊢
      exact hne
     ·have:=(hok i _ (Array.getElem?_eq_getElem hlt)).2.1 e he hb
      exact ih e.on this (by omega)
    rw[hr]at hmem
    cases hmem
  refine hfin (fun j=>listed.getD j false) a w hall hi.world hi.defers hi.size (fun t ht=>hi.same t fun i o ho hd=>ht (mem_ds hds ho hd)) (fun t ht=>?_)
  obtain⟨i,o,ho,hd⟩:=of_mem_ds hds ht
  exact hi.known i o t ho (hall i (Array.getElem?_eq_some_iff.1 ho).1) hd
 have hzero:∀(listed:Array Bool),unlisted ops.size listed=0→listed.size=ops.size→Region.ready .any ops listed=[]:=by
  intro listed h0 hlen
  refine List.eq_nil_iff_forall_not_mem.2 fun i hi=>?_
  obtain⟨h1,o,ho,_⟩:=mem_ready.1 hi
  have hlt:=(Array.getElem?_eq_some_iff.1 ho).1
  have:=List.countP_eq_zero.1 h0 i (List.mem_range.2 hlt)
  have h2:i<listed.size:=by omega
  simp [h2]at h1 this
  rw[h1]at this
  cases this
 intro fuel
 induction fuel with
 | zero=>
  intro listed a w hu hi
  have hr:=hzero listed (by omega) hi.len
  exact⟨hr,hend listed a w hr hi⟩
 | succ fuel ih=>
  intro listed a w hu hi
  refine⟨fun hr=>hend listed a w hr hi,fun i hir=>?_⟩
  obtain⟨hun,o,ho,hpre⟩:=mem_ready.1 hir
  obtain⟨hok1,hok2,hok3⟩:=hok i o ho
  have hilt:=(Array.getElem?_eq_some_iff.1 ho).1
  have hilt':i<listed.size:=by rw[hi.len];exact hilt
  have hun':listed.getD i false=false:=by
   simp [hilt']at hun ⊢
   exact hun
  have hkn:∀t∈looks (gSlot ops o) o,Knows G a w t:=by
   intro t ht
   by_cases hin:t∈ds
   ·obtain⟨e,he,hb,hd⟩:=hok3 t ht hin
    cases hoe:ops[e.on]? with
    | none=>rw[hoe]at hd;cases hd
    | some p=>rw[hoe]at hd;exact hi.known e.on p t hoe (hpre e he hb) hd
   ·obtain⟨v,hv,hg⟩:=hi.outs t (by
     unfold outsOf
     refine List.mem_filter.2 ⟨List.mem_flatMap.2 ⟨o,Array.mem_toList_iff.2 (Array.mem_of_getElem? ho),ht⟩,?_⟩
     rw[hds]
     simpa using hin)
    exact⟨v,(hi.same t fun j p hj hd=>hin (mem_ds hds hj hd)).trans hv,hg⟩
  have hK:∀v w',S w w'→W (upd (fun j=>listed.getD j false) i) (a.put o.dst v) w'→Gd G o.dst v w'→wpAny P .any ops Q fuel (listed.setIfInBounds i true) (a.put o.dst v) w':=by
   intro v w' hR hW hg
   refine ih _ _ _ ?_ ⟨by simpa using hi.len,by rw[←upd_listed hilt'];exact hW,?_,?_,?_,?_,?_⟩
   ·have:unlisted ops.size (listed.setIfInBounds i true)<unlisted ops.size listed:=by
     refine countP_lt (fun j hj=>?_) _ i (List.mem_range.2 hilt) ?_ ?_
     ·by_cases hji:i=j
      ·subst hji
       simp [hilt']at hj
      ·rw[getD_set_ne false hji]at hj
       exact hj
     ·simp [hilt']at hun ⊢
      exact hun
     ·simp [hilt']
    omega
   ·cases o.dst <;> exact hi.defers
   ·cases o.dst with
    | none=>exact hi.size
    | some d=>simpa [Act.put] using hi.size
   ·intro t ht
    rw[←hi.same t ht]
    cases hd:o.dst with
    | none=>rfl
    | some d=>
     have:d≠t:=fun e=>ht i o ho (e▸hd)
     simp [Act.put,Array.getElem?_setIfInBounds_ne this]
   ·intro j p t hj hl hd
    by_cases hji:i=j
    ·subst hji
     rw[ho]at hj
     cases hj
     rw[hd]at hg ⊢
     refine⟨v,?_,hg⟩
     have hlt:t<a.tmps.size:=by rw[hi.size];exact hsize t (mem_ds hds ho hd)
     simp [Act.put,hlt]
    ·rw[getD_set_ne false hji]at hl
     obtain⟨u,hu1,hu2⟩:=hi.known j p t hj hl hd
     refine⟨u,?_,hG _ _ _ _ hR hu2⟩
     cases hod:o.dst with
     | none=>exact hu1
     | some d=>
      have hdt:d≠t:=fun e=>hji (nodup_dst ops.toList (by rw[hds];exact hnd) i j o p t (by simpa using ho) (by simpa using hj) (e▸hod) hd)
      simp [Act.put,Array.getElem?_setIfInBounds_ne hdt,hu1]
   ·intro t ht
    obtain⟨u,hu1,hu2⟩:=hi.outs t ht
    exact⟨u,hu1,hG _ _ _ _ hR hu2⟩
  have hOb:=hobs i o ho (fun j=>listed.getD j false) a w hun' (fun e he hb=>hpre e he hb) hi.world hkn _ hK
  unfold wpOp
  simp only[ho]
  rw[wanted_of hok1]
  cases hgs:gSlot ops o with
  | none=>
   rw[hgs]at hOb
   simp only[if_true]
   exact .inl hOb
  | some tb=>
   obtain⟨t,b⟩:=tb
   rw[hgs]at hOb
   simp only at hOb ⊢
   split at hOb
   ·rename_i h;rw[if_pos h];exact .inl hOb
   ·rename_i h;rw[if_neg h];exact hOb
/-- The rule with a state. -/
theorem wp_region_stateA {id:Nat} {l:List Oper} {w0:World} (S:World→World→Prop) (W:(Nat→Bool)→Act→World→Prop) (G:Tmp→Value→World→Prop) (ds outs:List Tmp) (hm:P.follows .mixedOrders=true) (hok:regOk l.toArray ds=true)
  (hW:W (fun _=>false) a0 w0.drew) (hG:∀t v w w',S w w'→G t v w→G t v w')
  (hsize:(ds.all fun t=>decide (t<a0.tmps.size))=true) (houts:((outsOf l.toArray ds).all fun t=>outs.contains t)=true)
  (hstart:∀t∈outs,Knows G a0 w0.drew t)
  (hobs:ObsA P Q S W G l.toArray 0 l)
  (hfin:∀(L:Nat→Bool) (vals:Tmp→Value) (w:World),(∀i,i<l.length→L i=true)→W L ⟨putAll vals ds a0.tmps,a0.defers⟩ w→(∀t∈ds,G t (vals t) w)→Q .normal ⟨putAll vals ds a0.tmps,a0.defers⟩ w) :
  (Code.region id l.toArray true).wp P Q a0 w0:=by
 obtain⟨h1,h2,h3⟩:=regOk_spec hok
 have hsz:∀t∈ds,t<a0.tmps.size:=fun t ht=>by simpa using List.all_eq_true.1 hsize t ht
 refine wp_region_any hm (region_goA (S:=S) (W:=W) (G:=G) (a0:=a0) h1 h2 h3 hG hsz (fun i o ho=>by have:=hobs.all i o (by simpa using ho);rwa [Nat.zero_add]at this) ?_ _ _ _ _ ?_ ⟨by simp,?_,rfl,rfl,fun _ _=>rfl,fun i o t ho hl hd=>?_,fun t ht=>?_⟩)
 ·intro L a w hL hR hd hs hsame hkn
  have e:a=⟨putAll (fun t=>a.tmps.getD t undef) ds a0.tmps,a0.defers⟩:=by
   obtain⟨tm,df⟩:=a
   simp only at hd hs hsame hkn ⊢
   rw[hd]
   congr 1
   refine Array.ext' ?_
   refine List.ext_getElem? fun t=>?_
   rw[Array.getElem?_toList,Array.getElem?_toList]
   by_cases ht:t∈ds
   ·rw[putAll_in _ ds _ t h2 ht (hsz t ht)]
    obtain⟨v,hv,_⟩:=hkn t ht
    rw[hv,Array.getD_eq_getD_getElem?,hv]
    rfl
   ·rw[putAll_out _ ds _ t ht]
    exact hsame t ht
  have hR2:=hR
  rw[e]at hR2 ⊢
  exact hfin L (fun t=>a.tmps.getD t undef) w (by simpa using hL) hR2 (fun t ht=>by
   obtain⟨v,hv,hg⟩:=hkn t ht
   have:a.tmps.getD t undef=v:=by
    rw[Array.getD_eq_getD_getElem?,hv]
    rfl
   rw[this]
   exact hg)
 ·unfold unlisted
  refine Nat.le_trans List.countP_le_length ?_
  simp
 ·have:(fun j=>(Array.replicate l.toArray.size false).getD j false)=fun _=>false:=by
   funext j
   rw[Array.getD_eq_getD_getElem?,Array.getElem?_replicate]
   split <;> rfl
  rw[this]
  exact hW
 ·simp [Array.getElem?_replicate]at hl
  split at hl <;> simp at hl
 ·rw[h1]at ht
  have h4:=List.all_eq_true.1 houts t ht
  exact hstart t (by simpa using h4)
end
end
section
open Go.RowKit
def ObAD (P:Program) (Q:Exit→Act→World→Prop) (S:World→World→Prop) (W:(Nat→Bool)→Act→World→Prop) (G:Tmp→Value→World→Prop) (ops:Array Oper) (i:Nat) (g:Option (Tmp×Bool)) (o:Oper):Prop:=
 ∀(L:Nat→Bool) (a:Act) (w:World),L i=false→(∀e∈o.after,Region.binds .any e=true→L e.on=true)→ClosedL ops L→W L a w→(∀t∈looks g o,Knows G a w t)→
  ∀K:Act→World→Prop,(∀v w',S w w'→W (upd L i) (a.put o.dst v) w'→Gd G o.dst v w'→K (a.put o.dst v) w')→
   match g with
   | none=>o.wp P a w K Q
   | some (t,b)=>if says b a.tmps[t]? = true then o.wp P a w K Q else K (a.put o.dst undef) w
inductive ObsAD (P:Program) (Q:Exit→Act→World→Prop) (S:World→World→Prop) (W:(Nat→Bool)→Act→World→Prop) (G:Tmp→Value→World→Prop) (ops:Array Oper):Nat→List Oper→Prop
 | nil {n:Nat}:ObsAD P Q S W G ops n []
 | cons {n:Nat} {o:Oper} {l:List Oper} (g:Option (Tmp×Bool)) (hg:gSlot ops o=g) (h:ObAD P Q S W G ops n g o) (hs:ObsAD P Q S W G ops (n+1) l):ObsAD P Q S W G ops n (o::l)
theorem ObsAD.toA {P:Program} {Q:Exit→Act→World→Prop} {S:World→World→Prop} {W:(Nat→Bool)→Act→World→Prop} {G:Tmp→Value→World→Prop} {ops:Array Oper} {n:Nat} {l:List Oper} (h:ObsAD P Q S W G ops n l) :
  (∀(k:Nat) (o:Oper),l[k]? = some o→ops[n+k]? = some o)→ObsA P Q S (fun L a w=>ClosedL ops L∧W L a w) G ops n l:=by
 induction h with
 | nil=>exact fun _=>ObsA.nil
 | @cons n o l g hg h hs ih=>
  intro hl
  have ho:ops[n]? = some o:=hl 0 o rfl
  refine ObsA.cons g hg ?_ (ih (fun k p hk=>?_))
  ·intro L a w hi he hW hk K hK
   exact h L a w hi he hW.1 hW.2 hk K (fun v w' h1 h2 h3=>hK v w' h1 ⟨hW.1.upd ho he,h2⟩ h3)
  ·rw[show n+1+k=n+(k+1) from by omega]
   exact hl (k+1) p hk
theorem wp_region_stateAD {P:Program} {Q:Exit→Act→World→Prop} {id:Nat} {l:List Oper} {w0:World} {a0:Act} (S:World→World→Prop) (W:(Nat→Bool)→Act→World→Prop) (G:Tmp→Value→World→Prop) (ds outs:List Tmp) (hm:P.follows .mixedOrders=true) (hok:regOk l.toArray ds=true)
  (hW:W (fun _=>false) a0 w0.drew) (hG:∀t v w w',S w w'→G t v w→G t v w')
  (hsize:(ds.all fun t=>decide (t<a0.tmps.size))=true) (houts:((outsOf l.toArray ds).all fun t=>outs.contains t)=true)
  (hstart:∀t∈outs,Knows G a0 w0.drew t)
  (hobs:ObsAD P Q S W G l.toArray 0 l)
  (hfin:∀(L:Nat→Bool) (vals:Tmp→Value) (w:World),(∀i,i<l.length→L i=true)→W L ⟨putAll vals ds a0.tmps,a0.defers⟩ w→(∀t∈ds,G t (vals t) w)→Q .normal ⟨putAll vals ds a0.tmps,a0.defers⟩ w) :
  (Code.region id l.toArray true).wp P Q a0 w0:=
 wp_region_stateA S (fun L a w=>ClosedL l.toArray L∧W L a w) G ds outs hm hok ⟨fun _ _ _ h=>(by cases h),hW⟩ hG hsize houts hstart (hobs.toA (fun k o hk=>by rw[Nat.zero_add];simpa using hk)) (fun L vals w h1 h2 h3=>hfin L vals w h1 h2.2 h3)
theorem ObAD.plain {P:Program} {Q:Exit→Act→World→Prop} {S:World→World→Prop} {W:(Nat→Bool)→Act→World→Prop} {G:Tmp→Value→World→Prop} {ops:Array Oper} {i:Nat} {o:Oper}
  (h:∀(L:Nat→Bool) (a:Act) (w:World),L i=false→(∀e∈o.after,Region.binds .any e=true→L e.on=true)→ClosedL ops L→W L a w→(∀t∈looks none o,Knows G a w t)→
   ∀K:Act→World→Prop,(∀v w',S w w'→W (upd L i) (a.put o.dst v) w'→Gd G o.dst v w'→K (a.put o.dst v) w')→o.wp P a w K Q):ObAD P Q S W G ops i none o:=h
theorem upd_self (L:Nat→Bool) (i:Nat):upd L i i=true:=by unfold upd;rw[if_pos rfl]
theorem upd_ne {L:Nat→Bool} {i j:Nat} (h:j≠i):upd L i j=L j:=by unfold upd;rw[if_neg h]
theorem upd_mono {L:Nat→Bool} {i j:Nat} (h:L j=true):upd L i j=true:=by
 by_cases e:j=i
 ·rw[e];exact upd_self _ _
 ·rw[upd_ne e];exact h
theorem put_tmps {a:Act} {d:Option Tmp} {v u:Value} {t:Tmp} (h:a.tmps[t]? = some u) (hd:d≠some t):(a.put d v).tmps[t]? = some u:=by
 cases d with
 | none=>exact h
 | some s=>
  have:s≠t:=fun e=>hd (by rw[e])
  simp [Act.put,Array.getElem?_setIfInBounds_ne this,h]
theorem put_size (a:Act) (d:Option Tmp) (v:Value):(a.put d v).tmps.size=a.tmps.size:=by
 cases d with
 | none=>rfl
 | some s=>simp [Act.put]
section
variable {m n:Nat} {t:Tmp} {F0:World→Prop} {F1:Value→World→Prop} {F2:World→Prop} {L:Nat→Bool} {a:Act} {w w':World}
end
end
section
open Go.RowKit
/-- Operation m lays the variable, its slot t tells where; n sets it, behind all that stand ahead of it. -/
structure AlS (m n:Nat) (t:Tmp) (F0:World→Prop) (F1 F2:Value→World→Prop) (L:Nat→Bool) (a:Act) (w:World):Prop where
 size:t<a.tmps.size
 em:L n=true→L m=true
 p0:L m=false→F0 w
 p1:L m=true→L n=false→∃v,a.tmps[t]? = some v∧F1 v w
 p2:L n=true→∃v,a.tmps[t]? = some v∧F2 v w
section
variable {m n:Nat} {t:Tmp} {F0:World→Prop} {F1 F2:Value→World→Prop} {L:Nat→Bool} {a:Act} {w w':World}
theorem AlS.start (hs:t<a.tmps.size) (h:F0 w):AlS m n t F0 F1 F2 (fun _=>false) a w:=⟨hs,fun h=>(by cases h),fun _=>h,fun h=>(by cases h),fun h=>(by cases h)⟩
theorem AlS.not (h:AlS m n t F0 F1 F2 L a w) (hl:L m=false):L n=false:=by
 cases hn:L n with
 | false=>rfl
 | true=>rw[h.em hn]at hl;cases hl
/-- What holds whatever has come up. -/
theorem AlS.ever (h:AlS m n t F0 F1 F2 L a w) {B:World→Prop} (h0:∀w,F0 w→B w) (h1:∀v w,F1 v w→B w) (h2:∀v w,F2 v w→B w):B w:=by
 cases hn:L n with
 | true=>obtain⟨v,_,hv⟩:=h.p2 hn;exact h2 _ _ hv
 | false=>
  cases hm:L m with
  | false=>exact h0 _ (h.p0 hm)
  | true=>obtain⟨v,_,hv⟩:=h.p1 hm hn;exact h1 _ _ hv
theorem AlS.step (h:AlS m n t F0 F1 F2 L a w) {j:Nat} {d:Option Tmp} (v:Value) (hj:j≠m∧j≠n∧d≠some t) (hc:Chg (fun _=>False) w w') (k0:∀w w',F0 w→Chg (fun _=>False) w w'→F0 w') (k1:∀u w w',F1 u w→Chg (fun _=>False) w w'→F1 u w') (k2:∀u w w',F2 u w→Chg (fun _=>False) w w'→F2 u w') :
  AlS m n t F0 F1 F2 (upd L j) (a.put d v) w':=by
 obtain⟨j1,j2,j3⟩:=hj
 have em:upd L j m=L m:=upd_ne (fun e=>j1 e.symm)
 have en:upd L j n=L n:=upd_ne (fun e=>j2 e.symm)
 refine⟨by rw[put_size];exact h.size,fun hn=>by rw[em];exact h.em (by rw[←en];exact hn),fun hm=>k0 _ _ (h.p0 (by rw[←em];exact hm)) hc,fun hm hn=>?_,fun hn=>?_⟩
 ·obtain⟨u,h1,h2⟩:=h.p1 (by rw[←em];exact hm) (by rw[←en];exact hn)
  exact⟨u,put_tmps h1 j3,k1 _ _ _ h2 hc⟩
 ·obtain⟨u,h1,h2⟩:=h.p2 (by rw[←en];exact hn)
  exact⟨u,put_tmps h1 j3,k2 _ _ _ h2 hc⟩
theorem AlS.first (h:AlS m n t F0 F1 F2 L a w) (hmn:m<n) (hl:L m=false) {v:Value} (hF:F1 v w'):AlS m n t F0 F1 F2 (upd L m) (a.put (some t) v) w':=by
 have hn:=h.not hl
 have en:upd L m n=L n:=upd_ne (by omega)
 refine⟨by rw[put_size];exact h.size,fun h'=>(by rw[en,hn]at h';cases h'),fun h'=>(by rw[upd_self]at h';cases h'),fun _ _=>⟨v,?_,hF⟩,fun h'=>(by rw[en,hn]at h';cases h')⟩
 simp [Act.put,h.size]
theorem AlS.second (h:AlS m n t F0 F1 F2 L a w) (_:m<n) (hm:L m=true) {u v:Value} (hu:a.tmps[t]? = some u) (hF:F2 u w'):AlS m n t F0 F1 F2 (upd L n) (a.put none v) w':=by
 refine⟨by rw[put_size];exact h.size,fun _=>upd_mono hm,fun h'=>?_,fun _ h'=>(by rw[upd_self]at h';cases h'),fun _=>⟨u,put_tmps hu (by simp),hF⟩⟩
 rw[upd_mono hm]at h'
 cases h'
end
end
end Go.Proofs.YtkfinhpfdcjoeaaGreat
