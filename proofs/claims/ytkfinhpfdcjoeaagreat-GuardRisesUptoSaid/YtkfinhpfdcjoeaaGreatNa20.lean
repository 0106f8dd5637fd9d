/- Texts that the proof leans on, in one: NnCompM, GgK. -/
import Derived.Test.YtkfinhpfdcjoeaaGreatNa16
import Derived.Test.YtkfinhpfdcjoeaaGreatNa19
import Derived.Lib.SliceRun
import Derived.IntWalk
import Derived.Test.YtkfinhpfdcjoeaaGreatNa12
import Derived.Test.YtkfinhpfdcjoeaaGreatNa13
/- slices.CompactFunc at formulas, of a row of the call's own: what it does, in plain words; the row. -/
namespace Go.Proofs.YtkfinhpfdcjoeaaGreat
section
open Go.RowKit Go.Lib Go.Sort
instance:Inhabited AT:=⟨.mk 0 0 ([],[]) (.slice none 0 0) []⟩
theorem get_set_same {d:Array AT} {k:Nat} (u:AT) (h:k<d.size):(d.setIfInBounds k u)[k]! = u:=by simp [h]
theorem get_set_other {d:Array AT} {k j:Nat} (u:AT) (h:j≠k):(d.setIfInBounds k u)[j]! = d[j]!:=by
 by_cases hj:j<d.size
 ·rw[getElem!_pos (d.setIfInBounds k u) j (by simpa using hj),getElem!_pos d j hj,Array.getElem_setIfInBounds (by simpa using hj),if_neg (fun e=>h e.symm)]
 ·rw[getElem!_neg (d.setIfInBounds k u) j (by simpa using hj),getElem!_neg d j hj]
/-- Are two formulas of the call's own the same? -/
noncomputable def sameA (x y:AT):Bool:=by classical exact decide (eraseA x=eraseA y)
theorem sameA_yes {x y:AT}:sameA x y=true↔eraseA x=eraseA y:=by unfold sameA;simp
theorem sameA_no {x y:AT}:sameA x y=false↔eraseA x≠eraseA y:=by unfold sameA;simp
/-- Is place j kept? -/
noncomputable def keepA (d:Array AT) (j:Nat):Bool:=decide (j=0) || !sameA d[j]! d[j-1]!
noncomputable def compA (d:Array AT) (m:Nat):List AT:=((List.range m).filter (keepA d)).map (d[·]!)
theorem keepA_one (d:Array AT):∀j,j<1→keepA d j=true:=by
 intro j hj
 have:j=0:=by omega
 subst this
 simp [keepA]
theorem keepA_pos {d:Array AT} {m:Nat} (h:sameA d[m]! d[m-1]! = false):keepA d m=true:=by simp [keepA,h]
theorem keepA_neg {d:Array AT} {m:Nat} (hm:0<m) (h:sameA d[m]! d[m-1]! = true):keepA d m=false:=by
 have:m≠0:=by omega
 simp [keepA,h,this]
theorem compA_succ (d:Array AT) (m:Nat):compA d (m+1)=compA d m++(if keepA d m then [d[m]!] else []):=by
 unfold compA
 rw[List.range_succ,List.filter_append,List.map_append]
 congr 1
 by_cases h:keepA d m <;> simp [h]
theorem compA_all (d:Array AT) (m:Nat) (h:∀j,j<m→keepA d j=true):compA d m=(List.range m).map (d[·]!):=by
 unfold compA
 rw[List.filter_eq_self.2 (fun j hj=>h j (List.mem_range.1 hj))]
theorem range_mapA (d:Array AT):(List.range d.size).map (d[·]!)=d.toList:=by
 apply List.ext_getElem
 ·simp
 ·intro i h1 h2
  have hi:i<d.size:=by simpa using h2
  simp [getElem!_pos,hi]
theorem compA_len (d:Array AT):∀m,(compA d m).length≤m
 | 0=>by simp [compA]
 | m+1=>by
  have:=compA_len d m
  rw[compA_succ,List.length_append]
  split <;> simp <;> omega
theorem compA_sub (d:Array AT):(compA d d.size).Sublist d.toList:=by
 rw[←range_mapA]
 exact List.filter_sublist.map _
structure CompI (d:Array AT) (m k:Nat) (dk:Array AT):Prop where
 size:dk.size=d.size
 len:(compA d m).length=k
 lt:k<m
 low:∀j,j<k→(compA d m)[j]? = some dk[j]!
 high:∀j,k≤j→dk[j]! = d[j]!
theorem CompI.start {d:Array AT} {k0:Nat} (_:k0<d.size) (hall:∀j,j<k0→keepA d j=true) (hdup:keepA d k0=false):CompI d (k0+1) k0 d where
 size:=rfl
 len:=by rw[compA_succ,hdup,compA_all d k0 hall];simp
 lt:=Nat.lt_succ_self _
 low:=fun j hj=>by rw[compA_succ,hdup,compA_all d k0 hall];simp [hj]
 high:=fun _ _=>rfl
theorem CompI.keep {d dk:Array AT} {m k:Nat} (h:CompI d m k dk) (hm:m<d.size) (hk:keepA d m=true):CompI d (m+1) (k+1) (dk.setIfInBounds k d[m]!) where
 size:=by simp [h.size]
 len:=by rw[compA_succ,hk];simp [h.len]
 lt:=by have:=h.lt;omega
 low:=fun j hj=>by
  rw[compA_succ,hk,if_pos rfl]
  by_cases e:j=k
  ·subst e
   rw[List.getElem?_append_right (by rw[h.len];exact Nat.le_refl _),h.len,Nat.sub_self,get_set_same _ (by have:=h.lt;have:=h.size;omega)]
   rfl
  ·rw[List.getElem?_append_left (by rw[h.len];omega),h.low j (by omega),get_set_other _ e]
 high:=fun j hj=>by rw[get_set_other _ (by omega),h.high j (by omega)]
theorem CompI.skip {d dk:Array AT} {m k:Nat} (h:CompI d m k dk) (hk:keepA d m=false):CompI d (m+1) k dk where
 size:=h.size
 len:=by rw[compA_succ,hk];simpa using h.len
 lt:=by have:=h.lt;omega
 low:=fun j hj=>by rw[compA_succ,hk];simpa using h.low j hj
 high:=h.high
/-- Of the formulas: of neighbours that are equal one stays. -/
theorem cmpct_dup:∀(l:List FmB) (y:FmB),cmpctN (l++[y,y])=cmpctN (l++[y])
 | [],y=>by simp [cmpctN]
 | [a],y=>by
  simp only[List.cons_append,List.nil_append,cmpctN]
  by_cases e:a=y <;> simp [e]
 | a::b::l,y=>by
  have ih:=cmpct_dup (b::l) y
  simp only[List.cons_append]at ih ⊢
  rw[cmpctN,cmpctN,ih]
theorem cmpct_more:∀(l:List FmB) (y x:FmB),y≠x→cmpctN (l++[y,x])=cmpctN (l++[y])++[x]
 | [],y,x,h=>by simp [cmpctN,h]
 | [a],y,x,h=>by
  simp only[List.cons_append,List.nil_append,cmpctN]
  by_cases e:a=y <;> simp [e,h]
 | a::b::l,y,x,h=>by
  have ih:=cmpct_more (b::l) y x h
  simp only[List.cons_append]at ih ⊢
  rw[cmpctN,cmpctN,ih]
  split <;> simp
theorem compA_erase (d:Array AT):∀m,m≤d.size→(compA d m).map eraseA=cmpctN ((d.toList.take m).map eraseA)
 | 0,_=>by simp [compA,cmpctN]
 | 1,h=>by
  rw[compA_succ,keepA_one d 0 (by omega)]
  have e0:d.toList.take 1=[d[0]!]:=by
   rw[getElem!_pos d 0 (by omega)]
   cases hd:d.toList with
   | nil=>
    have:d.toList.length=0:=by rw[hd];rfl
    rw[Array.length_toList]at this;omega
   | cons a l=>
    have:d[0]=a:=by rw[←Array.getElem_toList];simp [hd]
    simp [this]
  rw[e0]
  simp [compA,cmpctN]
 | m+2,h=>by
  have ih:=compA_erase d (m+1) (by omega)
  have hlt:m+1<d.toList.length:=by simp;omega
  have hlt0:m<d.toList.length:=by simp;omega
  have e1:d.toList.take (m+2)=d.toList.take (m+1)++[d[m+1]!]:=by
   rw[List.take_succ_eq_append_getElem hlt,getElem!_pos d (m+1) (by omega),Array.getElem_toList]
  have e2:d.toList.take (m+1)=d.toList.take m++[d[m]!]:=by
   rw[List.take_succ_eq_append_getElem hlt0,getElem!_pos d m (by omega),Array.getElem_toList]
  rw[compA_succ,List.map_append,ih,e1,List.map_append]
  have e4:(d.toList.take (m+1)).map eraseA=(d.toList.take m).map eraseA++[eraseA d[m]!]:=by rw[e2,List.map_append];rfl
  rw[e4,List.append_assoc]
  simp only[List.map_cons,List.map_nil,List.cons_append,List.nil_append]
  by_cases e:eraseA d[m]! = eraseA d[m+1]!
  ·have hk:keepA d (m+1)=false:=keepA_neg (by omega) (sameA_yes.2 (by rw[Nat.add_sub_cancel];exact e.symm))
   rw[hk,←e,cmpct_dup]
   simp
  ·have hk:keepA d (m+1)=true:=keepA_pos (sameA_no.2 (by rw[Nat.add_sub_cancel];exact fun h=>e h.symm))
   rw[hk,cmpct_more _ _ _ e]
   simp
/-- The value of a formula. -/
def fmV (x:AT):Value:=.agg #[.int .i64 x.op,.int .i64 x.k,.string ⟨x.r.1.toArray⟩,.string ⟨x.r.2.toArray⟩,x.v]
/-- Same of two that are the call's own. -/
theorem same_own {B:Nat} {w:World} {x y:AT} (hx:OwnA B w x) (hnd:(blksA x).Nodup) (hN:nodesF (eraseA x)≤90000) (hy:OwnA B w y) (hN2:nodesF (eraseA y)≤90000) :
  Calls Tryz.prog 113 #[fmV x,fmV y] w fun e w'=>e = .returned (.bool (sameA x y))∧Chg (fun _=>False) w w':=by
 obtain⟨yo,yc,y1,y5,y2,y3,y4⟩:=own_val hy
 have hfl:(eraseA y).kids.length≤90000:=by have:=nodesL_len (eraseA y).kids;have:=nodesF_eq (eraseA y);omega
 have e2:fmV y = .agg #[.int .i64 (eraseA y).op,.int .i64 (eraseA y).k,.string ⟨(eraseA y).r.1.toArray⟩,.string ⟨(eraseA y).r.2.toArray⟩,.slice yo (eraseA y).kids.length yc]:=by rw[←y1];rfl
 obtain⟨ao,cp,hv,_⟩:=own_fms hx
 obtain⟨op,k,r,v,kids⟩:=x
 simp only[AT.v,AT.kids]at hv
 subst hv
 have:=fm_same B op k r ao kids.length cp kids (eraseA y) _ yo yc w rfl hx hnd hN y3 (fun i hi=>hi.2) y4 y2 hfl
 rw[e2]
 refine this.mono ?_
 rintro e w' ⟨b,rfl,hb,hc⟩
 refine⟨?_,hc⟩
 congr 2
 rw[Bool.eq_iff_iff,hb,sameA_yes]
/-- 'clear(s)': the cells hold the zero value's; nothing else turns. -/
theorem run_clear_fm {P:Program} (w:World) (t e ty:TypeId) (z:Value) (zs:List Value) (s:Nat) (ht:P.underlying t=some (.slice e)) (hv:∀w,(zeroValue e).run P w = .ok z w) (b o n c:Nat) (hn:0<n)
  (hzs:(Builtin.zeroCells z.cells n).toList=zs) (hl:zs.length=n*s) (h1:∀v∈zs,v.oneCell'=true)
  (hc:∀j,j<n*s→(w.cell? ⟨b,o+j,none⟩).isSome=true) (hf:∀j,j<n*s→w.frozen? ⟨b,o+j,none⟩=false) :
  (Builtin.clear_ #[t] ty #[.slice (some ⟨b,o,none⟩) n c]).run P w = .ok (.tuple #[]) (w.setCells b o zs):=by
 have hst:=run_storeCells_cells (P:=P) b o zs 0 w (by rw[hl];simpa using hc) (by rw[hl];simpa using hf) h1
 simp only[Nat.add_zero]at hst
 obtain⟨m,rfl⟩:∃m,n=m+1:=⟨n-1,by omega⟩
 simp [Builtin.clear_,run_underlying ht,hv,hzs,hst]
def fmZero:List Value:=[.int .i64 0,.int .i64 0,.string ⟨#[]⟩,.string ⟨#[]⟩,.slice none 0 0]
theorem zero_cells_fm (n:Nat):((Builtin.zeroCells fmZero.toArray n).toList).length=n*5∧∀v∈(Builtin.zeroCells fmZero.toArray n).toList,v.oneCell'=true:=by
 constructor
 ·simp [Builtin.zeroCells,fmZero]
 ·intro v hv
  simp only[Builtin.zeroCells,Array.toList_map,List.mem_map]at hv
  obtain⟨i,_,rfl⟩:=hv
  have hall:∀j:Fin 5,(fmZero.toArray[j.val]!).oneCell'=true:=by decide
  exact hall ⟨i % 5,Nat.mod_lt _ (by decide)⟩
/-- The block g holds the formulas d from its first cell on. -/
structure HoldA (w:World) (g cap:Nat) (d:Array AT):Prop where
 blk:∃cur,w.heap[g]? = some (.cells cur 46 (0,0))∧cur.size=cap*5
 at_:∀j,j<d.size→∀i,i<5→w.cell? ⟨g,j*5+i,none⟩=(cellsA d[j]!)[i]?
/-- The five cells of a formula. -/
def CellsF (w:World) (g o:Nat) (x:AT):Prop:=w.cell? ⟨g,o,none⟩=some (.int .i64 x.op)∧w.cell? ⟨g,o+1,none⟩=some (.int .i64 x.k)∧w.cell? ⟨g,o+2,none⟩=some (.string ⟨x.r.1.toArray⟩)∧w.cell? ⟨g,o+3,none⟩=some (.string ⟨x.r.2.toArray⟩)∧w.cell? ⟨g,o+4,none⟩=some x.v
theorem CellsF.keep {S:Nat→Prop} {w w':World} {g o:Nat} {x:AT} (h:CellsF w g o x) (hc:Chg S w w') (hS:¬S g):CellsF w' g o x:=⟨hc.cell h.1 hS,hc.cell h.2.1 hS,hc.cell h.2.2.1 hS,hc.cell h.2.2.2.1 hS,hc.cell h.2.2.2.2 hS⟩
theorem HoldA.fm {w:World} {g cap:Nat} {d:Array AT} (h:HoldA w g cap d) {j:Nat} (hj:j<d.size):CellsF w g (j*5) d[j]!:=⟨h.at_ j hj 0 (by omega),h.at_ j hj 1 (by omega),h.at_ j hj 2 (by omega),h.at_ j hj 3 (by omega),h.at_ j hj 4 (by omega)⟩
theorem HoldA.keep {S:Nat→Prop} {w w':World} {g cap:Nat} {d:Array AT} (h:HoldA w g cap d) (hc:Chg S w w') (hS:¬S g):HoldA w' g cap d:=
 ⟨by obtain⟨cur,h1,h2⟩:=h.blk;exact⟨cur,bE h1 hc hS,h2⟩,fun j hj i hi=>by
  have hl:i<(cellsA d[j]!).length:=hi
  have:=h.at_ j hj i hi
  rw[List.getElem?_eq_getElem hl]at this ⊢
  exact hc.cell this hS⟩
theorem HoldA.froz {w:World} {g cap:Nat} {d:Array AT} (h:HoldA w g cap d) (i:Nat):w.frozen? ⟨g,i,none⟩=false:=by
 obtain⟨cur,h1,_⟩:=h.blk
 exact froz_blk h1 i
/-- Five cells from o on, stored one by one. -/
def putA (w:World) (g o:Nat) (x:AT):World:=
 ((((w.setCell ⟨g,o,none⟩ (.int .i64 x.op)).setCell ⟨g,o+1,none⟩ (.int .i64 x.k)).setCell ⟨g,o+2,none⟩ (.string ⟨x.r.1.toArray⟩)).setCell ⟨g,o+3,none⟩ (.string ⟨x.r.2.toArray⟩)).setCell ⟨g,o+4,none⟩ x.v
theorem putA_eq (w:World) (g o:Nat) (x:AT):putA w g o x=w.setCells g o (cellsA x):=rfl
theorem blk_setCellsA {g:Nat} {ty:TypeId} {f:Nat×Nat}:∀(xs:List Value) (o:Nat) (w:World) (cur:Array Value),w.heap[g]? = some (.cells cur ty f)→∃cur2,(w.setCells g o xs).heap[g]? = some (.cells cur2 ty f)∧cur2.size=cur.size
 | [],o,w,cur,h=>⟨cur,h,rfl⟩
 | x::r,o,w,cur,h=>by
  obtain⟨c2,h1,h2⟩:=blk_setCellsA r (o+1) (w.setCell ⟨g,o,none⟩ x) _ (set_blk h o x)
  exact⟨c2,h1,by rw[h2];simp⟩
theorem chg_setCellsA {g:Nat}:∀(xs:List Value) (o:Nat) (w:World),Chg (· = g) w (w.setCells g o xs)
 | [],_,_=>Chg.refl _ _
 | x::r,o,w=>(setCell_chg w g o x).trans (chg_setCellsA r (o+1) _) (fun _ _ h=>h)
theorem HoldA.set {w:World} {g cap k:Nat} {d:Array AT} {u:AT} (h:HoldA w g cap d) (hk:k<d.size) (hcap:d.size≤cap):HoldA (putA w g (k*5) u) g cap (d.setIfInBounds k u):=by
 rw[putA_eq]
 obtain⟨cur,h1,h2⟩:=h.blk
 refine⟨by obtain⟨c2,a,b⟩:=blk_setCellsA (cellsA u) (k*5) w cur h1;exact⟨c2,a,by omega⟩,fun j hj i hi=>?_⟩
 have hj':j<d.size:=by simpa using hj
 by_cases e:j=k
 ·subst e
  rw[get_set_same u hj',List.getElem?_eq_getElem (by exact hi)]
  refine World.cell?_setCells_in g (cellsA u) (j*5) w (fun m hm=>?_) i hi
  have hm9:m<5:=hm
  rw[bC h1,Array.getElem?_eq_getElem (by omega)];rfl
 ·rw[get_set_other u e,World.cell?_setCells_out g (cellsA u) (k*5) w _ (fun _ _=>?_)]
  ·exact h.at_ j hj' i hi
  ·show j*5+i<k*5∨k*5+5≤j*5+i
   omega
theorem HoldA.aboves {g cap:Nat} {d:Array AT} (xs:List Value) (o:Nat) (w:World) (h:HoldA w g cap d) (ho:d.size*5≤o):HoldA (w.setCells g o xs) g cap d∧Chg (· = g) w (w.setCells g o xs):=by
 refine⟨?_,chg_setCellsA xs o w⟩
 obtain⟨cur,h1,h2⟩:=h.blk
 refine⟨by obtain⟨c2,a,b⟩:=blk_setCellsA xs o w cur h1;exact⟨c2,a,by omega⟩,fun j hj i hi=>?_⟩
 rw[World.cell?_setCells_out g xs o w _ (fun _ _=>.inl (by show j*5+i<o;omega))]
 exact h.at_ j hj i hi
theorem HoldA.low {w:World} {g cap:Nat} {d:Array AT} {c:List AT} (h:HoldA w g cap d) (hk:c.length≤d.size) (hl:∀j (hj:j<c.length),d[j]! = c[j]):HoldA w g cap c.toArray:=
 ⟨h.blk,fun j hj i hi=>by
  have hj':j<c.length:=by simpa using hj
  have:=hl j hj'
  rw[h.at_ j (by omega) i hi,this];simp [hj']⟩
/-- What is asked of each formula of the row. -/
def RowOk (B:Nat) (w:World) (g:Nat) (d:Array AT):Prop:=∀j,j<d.size→OwnA B w d[j]!∧(blksA d[j]!).Nodup∧g∉blksA d[j]!∧nodesF (eraseA d[j]!)≤90000
theorem RowOk.same {B:Nat} {w w':World} {g:Nat} {d:Array AT} (h:RowOk B w g d) (hc:Chg (fun k=>k=g) w w') {i j:Nat} (hi:i<d.size) (hj:j<d.size) :
  Calls Tryz.prog 113 #[fmV d[i]!,fmV d[j]!] w' fun e w''=>e = .returned (.bool (sameA d[i]! d[j]!))∧Chg (fun _=>False) w' w'':=by
 obtain⟨a1,a2,a3,a4⟩:=h i hi
 obtain⟨b1,b2,b3,b4⟩:=h j hj
 exact same_own (ownA_keep hc _ a1 fun b hb e=>a3 (e▸hb)) a2 a4 (ownA_keep hc _ b1 fun b hb e=>b3 (e▸hb)) b4
theorem eg_same (args:Array Value) (w:World):(callFunc 113 args).run Tryz.prog w = .ok (.enter 113 args) w:=enters_of Tryz.func113 (by kernel_rfl) rfl _ _
end
section
open Go.RowKit
/-- A right party. -/
structure AllRight (p:PartyB):Prop where
 name:isName p.name=true
 few:p.creds.length≤256∧p.acks.length≤8∧∀a∈p.acks,a.clo.length≤32
 held:∀x∈p.creds,isCred x.cred=true∧x.tag.length=8∧isF x.rel=true
 rise:RisingG ltC (p.creds.map (·.cred))
 guards:∀x∈p.creds,∃y,OfR p x.cred 0 y
 acks:∀a∈p.acks,isF a.rel=true∧RisingG ltC a.clo∧∀c∈a.clo,isCred c=true
 risea:RisingG ltR (p.acks.map (·.role))
structure GK:Prop where
 of_:∀ {D:Nat→Prop} (n:Nat) (p:PartyB) (po:Option Addr) (pc:Nat) (ao:Option Addr) (ac:Nat) (c:CredB) (w:World),PartyAt D w n p po pc ao ac→n≤1048577→greatP p≤4000→credShort c 20000→
  Calls Tryz.prog 12 #[.agg #[.string ⟨p.name.toArray⟩,.slice po p.creds.length pc,.slice ao p.acks.length ac],.agg #[.int .i64 c.kind,.string ⟨c.head.1.toArray⟩,.string ⟨c.head.2.toArray⟩,.string ⟨c.who.toArray⟩,.string ⟨c.b.1.toArray⟩,.string ⟨c.b.2.toArray⟩,.string ⟨c.c.1.toArray⟩,.string ⟨c.c.2.toArray⟩,.string ⟨c.w2.toArray⟩]] w fun e w'=>∃(x:AT) (k:Int),e = .returned (.tuple #[fmV x,.int .i64 k])∧OwnA w.heap.size w' x∧(blksA x).Nodup∧OfR p c k (eraseA x)∧Chg (fun _=>False) w w'
 right:∀ {D:Nat→Prop} (n:Nat) (p:PartyB) (po:Option Addr) (pc:Nat) (ao:Option Addr) (ac:Nat) (w:World),PartyAt D w n p po pc ao ac→n≤1048577→greatP p≤4000→
  Calls Tryz.prog 9 #[.agg #[.string ⟨p.name.toArray⟩,.slice po p.creds.length pc,.slice ao p.acks.length ac]] w fun e w'=>∃k:Int,e = .returned (.int .i64 k)∧(k=0↔AllRight p)∧(isName p.name=false→k=30)∧Chg (fun _=>False) w w'
 checkNil:∀ {D:Nat→Prop} (n:Nat) (p:PartyB) (po:Option Addr) (pc:Nat) (ao:Option Addr) (ac:Nat) (w:World),PartyAt D w n p po pc ao ac→n≤1048577→greatP p≤4000→AllRight p→p.creds≠[]→
  Calls Tryz.prog 15 #[.agg #[.string ⟨p.name.toArray⟩,.slice po p.creds.length pc,.slice ao p.acks.length ac],.pointer none] w fun e w'=>e = .returned (.int .i64 1)∧Chg (fun _=>False) w w'
 acks:∀ {D:Nat→Prop} (n:Nat) (p:PartyB) (po:Option Addr) (pc:Nat) (ao:Option Addr) (ac:Nat) (c:CredB) (w:World),PartyAt D w n p po pc ao ac→n≤1048577→greatP p≤4000→credShort c 20000→
  Calls Tryz.prog 10 #[.agg #[.string ⟨p.name.toArray⟩,.slice po p.creds.length pc,.slice ao p.acks.length ac],.agg #[.int .i64 c.kind,.string ⟨c.head.1.toArray⟩,.string ⟨c.head.2.toArray⟩,.string ⟨c.who.toArray⟩,.string ⟨c.b.1.toArray⟩,.string ⟨c.b.2.toArray⟩,.string ⟨c.c.1.toArray⟩,.string ⟨c.c.2.toArray⟩,.string ⟨c.w2.toArray⟩]] w fun e w'=>∃ro rc,e = .returned (.slice ro (acksB p c).length rc)∧RolesAt (fun k=>k<w'.heap.size) w' ro (acksB p c)∧Chg (fun _=>False) w w'
 free:∀ {D:Nat→Prop} (n:Nat) (p:PartyB) (po:Option Addr) (pc:Nat) (ao:Option Addr) (ac:Nat) {E:Nat→Prop} (ho:Option Addr) (hc:Nat) (ls:List CredB) (s:List UInt8) (w:World),PartyAt D w n p po pc ao ac→n≤1048577→greatP p≤4000→CredsAt E w ho ls→(∀i,E i→i<w.heap.size)→(ho=none→hc=0)→totalC ls≤20000→s.length≤1000→
  Calls Tryz.prog 7 #[.agg #[.string ⟨p.name.toArray⟩,.slice po p.creds.length pc,.slice ao p.acks.length ac],.slice ho ls.length hc,.string ⟨s.toArray⟩] w fun e w'=>∃(xs:List FactB) (zs:List CredB) (zo:Option Addr) (zc:Nat),e = .returned (.slice zo zs.length zc)∧ModelOf ls xs∧FreeR (inM xs s) p zs∧CredsAt (fun k=>k<w'.heap.size) w' zo zs∧Chg (fun _=>False) w w'
 told:∀ {D:Nat→Prop} (n:Nat) (p:PartyB) (po:Option Addr) (pc:Nat) (ao:Option Addr) (ac:Nat) {E:Nat→Prop} (r:RoleB) (ho:Option Addr) (hc:Nat) (ls:List CredB) (s:List UInt8) (w:World),PartyAt D w n p po pc ao ac→n≤1048577→greatP p≤4000→CredsAt E w ho ls→(∀i,E i→i<w.heap.size)→(ho=none→hc=0)→totalC ls≤20000→s.length≤1000→r.1.length≤20000∧r.2.length≤20000→
  Calls Tryz.prog 11 #[.agg #[.string ⟨p.name.toArray⟩,.slice po p.creds.length pc,.slice ao p.acks.length ac],.agg #[.string ⟨r.1.toArray⟩,.string ⟨r.2.toArray⟩],.slice ho ls.length hc,.string ⟨s.toArray⟩] w fun e w'=>∃xs,e = .returned (.bool (toldB (inM xs s) p r))∧ModelOf ls xs∧Chg (fun _=>False) w w'
theorem RisingG.pairs {α β:Type} {lt:β→β→Bool} (ho:Ord lt) (f:α→β):∀(l:List α),RisingG lt (l.map f)→∀a∈l,∀b∈l,f a=f b→a=b:=by
 intro l hl
 have hnd:=hl.nodup ho
 induction l with
 | nil=>exact fun a ha=>by cases ha
 | cons x l ih=>
  rw[List.map_cons,List.nodup_cons]at hnd
  intro a ha b hb e
  have key:∀c∈l,f x≠f c:=fun c hc h=>hnd.1 (h▸List.mem_map_of_mem hc)
  have ht:RisingG lt (l.map f):=hl.2
  rcases List.mem_cons.1 ha with ha2|ha2
  ·rcases List.mem_cons.1 hb with hb2|hb2
   ·rw[ha2,hb2]
   ·exact absurd (ha2▸e) (key b hb2)
  ·rcases List.mem_cons.1 hb with hb2|hb2
   ·exact absurd (hb2▸e).symm (key a ha2)
   ·exact ih ht hnd.2 a ha2 b hb2 e
theorem AllRight.good {p:PartyB} (h:AllRight p):GoodP p:=
 ⟨h.guards,fun a ha=>(h.acks a ha).1,RisingG.pairs ltR_ord (·.role) p.acks h.risea⟩
theorem free_len {T:RoleB→Bool} {p:PartyB} {zs:List CredB} (h:FreeR T p zs):zs.length≤p.creds.length:=by
 have e:p.creds.length=(p.creds.map (·.cred)).length:=by simp
 rw[e]
 refine nodup_lengthG _ _ (h.1.nodup ltC_ord) fun c hc=>?_
 obtain⟨_,⟨x,hx,e⟩,_⟩:=(h.2 c).1 hc
 exact List.mem_map.2 ⟨x,hx,e⟩
theorem gp_role {p:PartyB} (h:greatP p≤4000):∀a∈p.acks,a.role.1.length≤4000∧a.role.2.length≤4000:=fun a ha=>by
 have h9:greatP p=p.name.length+(gsum p.creds+asum p.acks):=rfl
 have key:∀(l:List AkB),a∈l→a.role.1.length+a.role.2.length≤asum l:=by
  intro l
  induction l with
  | nil=>intro h;cases h
  | cons x l ih=>
   intro h
   have e:asum (x::l)=(x.role.1.length+x.role.2.length+20*greatF x.rel+totalC x.clo)+asum l:=by simp [asum]
   rcases List.mem_cons.1 h with rfl|h
   ·omega
   ·have:=ih h;omega
 have:=key _ ha
 omega
end
end Go.Proofs.YtkfinhpfdcjoeaaGreat
