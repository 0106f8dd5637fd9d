/- Texts that the proof leans on, in one: FactCells, RefFIn, RefFStep, DrewN, RefSameS, OwnS, RefSet, RefFNames, RefRoleLess, RefFLess, RefFSame, RoleSpec, RefFSorted, RefCredRight, RefCredBytes, RefCredSet, ModelOfM, RefFOf, RefFMembers, RefFRoles, RoleSame, ModelK, StepCells, RefKFacts, FmOwn, PbApp. -/
import Derived.Test.YtkfinhpfdcjoeaaGreatNa11
import Derived.Test.YtkfinhpfdcjoeaaGreatNa7
import Derived.Test.YtkfinhpfdcjoeaaGreatNa6
import Derived.Test.YtkfinhpfdcjoeaaGreatNa1
import Derived.Deep.QuietTactic
import Derived.BigQuiet
import Derived.Test.YtkfinhpfdcjoeaaGreatProg
import Derived.Test.YtkfinhpfdcjoeaaGreatChecked
import Derived.Maps.AppendAt
import Derived.Test.YtkfinhpfdcjoeaaGreatNa2
import Derived.Test.YtkfinhpfdcjoeaaGreatNa3
import Derived.Test.YtkfinhpfdcjoeaaGreatNa9
/- Facts, as they lie in memory; lists of them of the call's own. -/
namespace Go.Proofs.YtkfinhpfdcjoeaaGreat
section
open Go.RowKit
def factCells (f:FactB):List Value:=[.string ⟨f.1.1.toArray⟩,.string ⟨f.1.2.toArray⟩,.string ⟨f.2.toArray⟩]
def factBox (f:FactB):Array Value:=#[.string ⟨f.1.1.toArray⟩,.string ⟨f.1.2.toArray⟩,.string ⟨f.2.toArray⟩]
/-- The fact f lies at the three cells from o on. -/
structure FactAt (w:World) (b o:Nat) (f:FactB):Prop where
 k0:w.cell? ⟨b,o,none⟩=some (.string ⟨f.1.1.toArray⟩)
 k1:w.cell? ⟨b,o+1,none⟩=some (.string ⟨f.1.2.toArray⟩)
 k2:w.cell? ⟨b,o+2,none⟩=some (.string ⟨f.2.toArray⟩)
theorem FactAt.keep {S:Nat→Prop} {w w':World} {b o:Nat} {f:FactB} (h:FactAt w b o f) (hc:Chg S w w') (hS:¬S b):FactAt w' b o f:=
 ⟨hc.cell h.k0 hS,hc.cell h.k1 hS,hc.cell h.k2 hS⟩
/-- The facts ls can be read from the address ao on. -/
def FactsAt (D:Nat→Prop) (w:World) (ao:Option Addr) (ls:List FactB):Prop:=
 ∀i (h:i<ls.length),∃b off,ao=some ⟨b,off,none⟩∧D b∧FactAt w b (off+i*3) ls[i]
theorem FactsAt.keep {S D:Nat→Prop} {w w':World} {ao:Option Addr} {ls:List FactB} (h:FactsAt D w ao ls) (hc:Chg S w w') (hS:∀i,D i→¬S i):FactsAt D w' ao ls:=fun i hi=>
 let ⟨b,off,h1,h2,h3⟩:=h i hi
 ⟨b,off,h1,h2,h3.keep hc (hS b h2)⟩
theorem FactsAt.mono {D D':Nat→Prop} {w:World} {ao:Option Addr} {ls:List FactB} (h:FactsAt D w ao ls) (hD:∀i,D i→D' i):FactsAt D' w ao ls:=fun i hi=>
 let ⟨b,off,h1,h2,h3⟩:=h i hi
 ⟨b,off,h1,hD b h2,h3⟩
theorem FactsAt.nil (D:Nat→Prop) (w:World) (ao:Option Addr):FactsAt D w ao []:=fun i hi=>by simp at hi
theorem fact_at_blk {w:World} {g:Nat} {f:FactB} {ty:TypeId} {z:Nat×Nat} (h:w.heap[g]? = some (.cells (factBox f) ty z)):FactAt w g 0 f:=
 ⟨bC h 0,bC h 1,bC h 2⟩
theorem Tryz.info144:(Tryz.prog.info? 144).map (fun i=>(i.zero,i.size,i.bytes))=some (some (.agg #[.string ⟨#[]⟩,.string ⟨#[]⟩,.string ⟨#[]⟩]),3,48):=by kernel_rfl
def factRow (ls:List FactB):List Value:=ls.flatMap factCells
theorem factRow_get:∀(ls:List FactB) (i j:Nat) (h:i<ls.length) (_:j<3),(factRow ls)[i*3+j]? = (factCells ls[i])[j]?
 | x::l,0,j,_,hj=>by
  rw[Nat.zero_mul,Nat.zero_add,factRow,List.flatMap_cons,List.getElem?_append_left (by simpa [factCells] using hj)]
  rfl
 | x::l,i+1,j,h,hj=>by
  have hl:(factCells x).length=3:=rfl
  have:=factRow_get l i j (by simpa using h) hj
  rw[factRow,List.flatMap_cons,List.getElem?_append_right (by rw[hl,Nat.add_mul];omega),hl]
  rw[show (i+1)*3+j-3=i*3+j by rw[Nat.add_mul];omega]
  exact this
/-- A list of facts of the call's own. -/
def OwnF (B:Nat) (w:World) (v:Value) (ls:List FactB):Prop:=w.ownsRow B 144 3 v ls.length (factRow ls)
theorem OwnF.keep {S:Nat→Prop} {B:Nat} {w w':World} {v:Value} {ls:List FactB} (h:OwnF B w v ls) (hc:Chg S w w') (hr:∀k,v.ownBlock=some k→¬S k):OwnF B w' v ls:=ownsRow_keep h hc hr
theorem OwnF.low {B A:Nat} {w:World} {v:Value} {ls:List FactB} (h:OwnF B w v ls) (hA:A≤B):OwnF A w v ls:=by
 rcases h with ⟨h1,h2|⟨g,cap,cur,h3,h4,h5⟩⟩
 ·exact⟨h1,.inl h2⟩
 ·exact⟨h1,.inr ⟨g,cap,cur,h3,Nat.le_trans hA h4,h5⟩⟩
theorem OwnF.facts {B:Nat} {w:World} {v:Value} {ls:List FactB} (h:OwnF B w v ls) :
  ∃ao cap,v = .slice ao ls.length cap∧FactsAt (fun k=>B≤k∧k<w.heap.size) w ao ls∧(ao=none→cap=0):=by
 have hall:=h
 rcases h.2 with ⟨rfl,h0⟩|⟨g,cap,cur,rfl,hg,hh,h1,h2,h3,h4⟩
 ·have:ls=[]:=List.eq_nil_of_length_eq_zero h0
  subst this
  exact⟨none,0,rfl,FactsAt.nil _ _ _,fun _=>rfl⟩
 ·have at_:∀i (hi:i<ls.length) j (hj:j<3),w.cell? ⟨g,0+i*3+j,none⟩=(factCells ls[i])[j]?:=fun i hi j hj=>by
   have hget:=factRow_get ls i j hi hj
   have hs:j<(factCells ls[i]).length:=hj
   rw[List.getElem?_eq_getElem hs]at hget ⊢
   have:=hall.cells (g:=g) rfl (i*3+j) _ hget
   rw[add_off,Nat.zero_add]at this
   rw[Nat.zero_add]
   exact this
  exact⟨_,_,rfl,fun i hi=>⟨g,0,rfl,⟨hg,lt_blk hh⟩,at_ i hi 0 (by decide),at_ i hi 1 (by decide),at_ i hi 2 (by decide)⟩,fun e=>by cases e⟩
theorem fact_one (x:FactB):∀u∈factCells x,u.oneCell'=true:=by
 intro u hu
 simp only[factCells,List.mem_cons,List.not_mem_nil,or_false]at hu
 rcases hu with rfl|rfl|rfl <;> rfl
end
section
open Go.RowKit
attribute [local go_sem ↓ high] run_eqg_role run_eql_role
end
section
open Go.RowKit
end
section
open Go.RowKit
end
section
open Go.RowKit
end
section
open Go.RowKit
def strV (l:List UInt8):Value:=.string ⟨l.toArray⟩
/-- A list of texts of the call's own. -/
def OwnS (B:Nat) (w:World) (v:Value) (ls:List (List UInt8)):Prop:=w.ownsRow B 9 1 v ls.length (ls.map strV)
theorem OwnS.strs {B:Nat} {w:World} {v:Value} {ls:List (List UInt8)} (h:OwnS B w v ls) (hb:∀x∈ls,x.length≤9223372036854775807):∃ao cap,v = .slice ao ls.length cap∧StrsAt (fun k=>B≤k∧k<w.heap.size) w ao ls:=by
 rcases h.2 with ⟨rfl,h0⟩|⟨g,cap,cur,rfl,hg,hh,h1,h2,h3,h4⟩
 ·have:ls=[]:=List.eq_nil_of_length_eq_zero h0
  subst this
  exact⟨none,0,rfl,StrsAt.nil _ _ _⟩
 ·refine⟨_,_,rfl,fun i hi=>⟨g,0,rfl,⟨hg,lt_blk hh⟩,?_,hb _ (List.getElem_mem hi)⟩⟩
  have hcell:=h.cells (g:=g) rfl i (strV ls[i]) (by simp [hi])
  rw[add_off]at hcell
  exact hcell
end
section
open Go.RowKit
end
section
open Go.RowKit
end
section
open Go.RowKit
end
section
open Go.RowKit
theorem run_eqg_fact (x y:Operand) (a b:FactB) (w:World):Sem.run Tryz.prog (eqGuard BinOp.neq 144 x y (.agg #[.string ⟨a.1.1.toArray⟩,.string ⟨a.1.2.toArray⟩,.string ⟨a.2.toArray⟩]) (.agg #[.string ⟨b.1.1.toArray⟩,.string ⟨b.1.2.toArray⟩,.string ⟨b.2.toArray⟩])) w = .ok () w:=by
 go_simp
theorem run_neq_fact (a b:FactB) (w:World):Sem.run Tryz.prog (binOp BinOp.neq 144 (.agg #[.string ⟨a.1.1.toArray⟩,.string ⟨a.1.2.toArray⟩,.string ⟨a.2.toArray⟩]) (.agg #[.string ⟨b.1.1.toArray⟩,.string ⟨b.1.2.toArray⟩,.string ⟨b.2.toArray⟩])) w = .ok (.bool (!decide (a=b))) w:=by
 have:decide (a=b)=decide (a.1.1=b.1.1∧a.1.2=b.1.2∧a.2=b.2):=by simp only[Prod.ext_iff,and_assoc]
 rw[this]
 go_simp
 repeat' split
 all_goals simp_all
attribute [local go_sem ↓ high] run_eqg_role run_eql_role
end
section
open Go.RowKit
attribute [local go_sem ↓ high] run_eqg_fact run_neq_fact
end
section
open Go.RowKit
end
section
open Go.RowKit
end
section
open Go.RowKit
end
section
open Go.RowKit
theorem credShort.mono {c:CredB} {m n:Nat} (h:credShort c m) (hm:m≤n):credShort c n:=by
 obtain⟨s1,s2,s3,s4,s5,s6,s7,s8⟩:=h
 exact⟨by omega,by omega,by omega,by omega,by omega,by omega,by omega,by omega⟩
end
section
open Go.RowKit
end
section
open Go.RowKit
end
section
open Go.RowKit
end
section
open Go.RowKit
attribute [local go_sem ↓ high] run_eqg_role run_eql_role
end
section
open Go.RowKit
attribute [local go_sem ↓ high] run_eqg_role run_eql_role
end
section
open Go.RowKit
end
section
open Go.RowKit
/-- Few credentials, of short texts. -/
def SmallC (ls:List CredB):Prop:=ls.length≤1000∧∀c∈ls,credShort c 100000
theorem totalC_len20 (a:List CredB):a.length*20≤totalC a:=by
 induction a with
 | nil=>simp [totalC]
 | cons x l ih=>rw[totalC,List.length_cons,sizeC];omega
theorem SmallC.of {ls:List CredB} (h:totalC ls≤20000):SmallC ls:=
 ⟨by have:=totalC_len20 ls;omega,fun _ hc=>(sizeC_short (Nat.le_trans (totalC_mem hc) h)).mono (by omega)⟩
end
section
open Go.RowKit
end
section
open Go.RowKit
theorem ownsRow_lowK {B A:Nat} {w:World} {ty:TypeId} {n:Nat} {v:Value} {len:Nat} {row:List Value} (h:w.ownsRow B ty n v len row) (hA:A≤B):w.ownsRow A ty n v len row:=by
 rcases h with ⟨h1,h2|⟨g,cap,cur,h3,h4,h5⟩⟩
 ·exact⟨h1,.inl h2⟩
 ·exact⟨h1,.inr ⟨g,cap,cur,h3,Nat.le_trans hA h4,h5⟩⟩
end
section
open Go.RowKit
inductive AT where
 | mk (op k:Int) (r:RoleB) (v:Value) (kids:List AT)
def AT.op:AT→Int | .mk op _ _ _ _=>op
def AT.k:AT→Int | .mk _ k _ _ _=>k
def AT.r:AT→RoleB | .mk _ _ r _ _=>r
def AT.v:AT→Value | .mk _ _ _ v _=>v
def AT.kids:AT→List AT | .mk _ _ _ _ kids=>kids
mutual
def eraseA:AT→FmB
 | .mk op k r _ kids=>.mk op k r (eraseL kids)
def eraseL:List AT→List FmB
 | []=>[]
 | t::l=>eraseA t::eraseL l
end
def cellsA (t:AT):List Value:=[.int .i64 t.op,.int .i64 t.k,.string ⟨t.r.1.toArray⟩,.string ⟨t.r.2.toArray⟩,t.v]
def rowA (ts:List AT):List Value:=ts.flatMap cellsA
/- The blocks that it lies in. -/
mutual
def blksA:AT→List Nat
 | .mk _ _ _ v kids=>v.ownBlock.toList++blksL kids
def blksL:List AT→List Nat
 | []=>[]
 | t::l=>blksA t++blksL l
end
/- It is the call's own, from the block B on. -/
mutual
def OwnA (B:Nat) (w:World):AT→Prop
 | .mk _ _ r v kids=>(r.1.length≤9223372036854775807∧r.2.length≤9223372036854775807)∧w.ownsRow B 46 5 v kids.length (rowA kids)∧OwnL B w kids
def OwnL (B:Nat) (w:World):List AT→Prop
 | []=>True
 | t::l=>OwnA B w t∧OwnL B w l
end
theorem eraseA_eq (t:AT):eraseA t = .mk t.op t.k t.r (eraseL t.kids):=by cases t;rfl
theorem blksA_eq (t:AT):blksA t=t.v.ownBlock.toList++blksL t.kids:=by cases t;rfl
theorem ownA_eq (B:Nat) (w:World) (t:AT):OwnA B w t↔(t.r.1.length≤9223372036854775807∧t.r.2.length≤9223372036854775807)∧w.ownsRow B 46 5 t.v t.kids.length (rowA t.kids)∧OwnL B w t.kids:=by cases t;exact Iff.rfl
theorem eraseL_map (l:List AT):eraseL l=l.map eraseA:=by
 induction l with
 | nil=>rfl
 | cons t l ih=>rw[eraseL,ih,List.map_cons]
theorem blksL_flat (l:List AT):blksL l=l.flatMap blksA:=by
 induction l with
 | nil=>rfl
 | cons t l ih=>rw[blksL,ih,List.flatMap_cons]
theorem ownL_all (B:Nat) (w:World) (l:List AT):OwnL B w l↔∀t∈l,OwnA B w t:=by
 induction l with
 | nil=>exact⟨fun _ _ h=>(by cases h),fun _=>trivial⟩
 | cons t l ih=>
  rw[OwnL,ih]
  exact⟨fun h s hs=>(List.mem_cons.1 hs).elim (fun e=>e▸h.1) (h.2 s),fun h=>⟨h t (by simp),fun s hs=>h s (by simp [hs])⟩⟩
theorem eraseL_len (l:List AT):(eraseL l).length=l.length:=by rw[eraseL_map,List.length_map]
theorem at_ind {P:AT→Prop} (h:∀t:AT,(∀s∈t.kids,P s)→P t):∀t,P t:=by
 have key:∀n t,nodesF (eraseA t)≤n→P t:=by
  intro n
  induction n with
  | zero=>intro t ht;have:=nodesF_pos (eraseA t);omega
  | succ n ih=>
   intro t ht
   refine h t fun s hs=>ih s ?_
   have h1:eraseA s∈eraseL t.kids:=by rw[eraseL_map];exact List.mem_map.2 ⟨s,hs,rfl⟩
   have h2:=nodesL_mem h1
   rw[eraseA_eq,nodesF]at ht
   omega
 exact fun t=>key _ t (Nat.le_refl _)
theorem rowA_len (l:List AT):(rowA l).length=l.length*5:=by
 unfold rowA
 induction l with
 | nil=>rfl
 | cons x l ih=>rw[List.flatMap_cons,List.length_append,ih,List.length_cons];simp [cellsA];omega
theorem rowA_get:∀(ls:List AT) (i j:Nat) (h:i<ls.length) (_:j<5),(rowA ls)[i*5+j]? = (cellsA ls[i])[j]?
 | x::l,0,j,_,hj=>by
  rw[Nat.zero_mul,Nat.zero_add,rowA,List.flatMap_cons,List.getElem?_append_left (by simpa [cellsA] using hj)]
  rfl
 | x::l,i+1,j,h,hj=>by
  have hl:(cellsA x).length=5:=rfl
  have:=rowA_get l i j (by simpa using h) hj
  rw[rowA,List.flatMap_cons,List.getElem?_append_right (by rw[hl,Nat.add_mul];omega),hl]
  rw[show (i+1)*5+j-5=i*5+j by rw[Nat.add_mul];omega]
  exact this
theorem ownA_lt {B:Nat} {w:World}:∀t:AT,OwnA B w t→∀b∈blksA t,B≤b∧b<w.heap.size:=by
 refine at_ind fun t ih h b hb=>?_
 rw[ownA_eq]at h
 rw[blksA_eq,List.mem_append]at hb
 rcases hb with hb|hb
 ·exact h.2.1.lt b (by simpa using hb)
 ·rw[blksL_flat,List.mem_flatMap]at hb
  obtain⟨s,hs,hb⟩:=hb
  exact ih s hs ((ownL_all _ _ _).1 h.2.2 s hs) b hb
theorem ownA_keep {S:Nat→Prop} {B:Nat} {w w':World} (hc:Chg S w w'):∀t:AT,OwnA B w t→(∀b∈blksA t,¬S b)→OwnA B w' t:=by
 refine at_ind fun t ih h hS=>?_
 rw[ownA_eq]at h ⊢
 rw[blksA_eq]at hS
 refine⟨h.1,ownsRow_keep h.2.1 hc (fun k hk=>hS k (List.mem_append_left _ (by simp [hk]))),(ownL_all _ _ _).2 fun s hs=>ih s hs ((ownL_all _ _ _).1 h.2.2 s hs) fun b hb=>hS b (List.mem_append_right _ ?_)⟩
 rw[blksL_flat]
 exact List.mem_flatMap.2 ⟨s,hs,hb⟩
theorem ownL_keep {S:Nat→Prop} {B:Nat} {w w':World} (hc:Chg S w w') {l:List AT} (h:OwnL B w l) (hS:∀b∈blksL l,¬S b):OwnL B w' l:=(ownL_all _ _ _).2 fun s hs=>ownA_keep hc s ((ownL_all _ _ _).1 h s hs) fun b hb=>hS b (by rw[blksL_flat];exact List.mem_flatMap.2 ⟨s,hs,hb⟩)
theorem ownL_lt {B:Nat} {w:World} {l:List AT} (h:OwnL B w l):∀b∈blksL l,B≤b∧b<w.heap.size:=fun b hb=>by
 rw[blksL_flat,List.mem_flatMap]at hb
 obtain⟨s,hs,hb⟩:=hb
 exact ownA_lt s ((ownL_all _ _ _).1 h s hs) b hb
theorem ownA_low {B A:Nat} {w:World} (hA:A≤B):∀t:AT,OwnA B w t→OwnA A w t:=by
 refine at_ind fun t ih h=>?_
 rw[ownA_eq]at h ⊢
 exact⟨h.1,ownsRow_lowK h.2.1 hA,(ownL_all _ _ _).2 fun s hs=>ih s hs ((ownL_all _ _ _).1 h.2.2 s hs)⟩
theorem rowV_shape {B:Nat} {w:World} {v:Value} {l:List AT} (h:w.ownsRow B 46 5 v l.length (rowA l)):∃ao cp,v = .slice ao l.length cp∧(ao=none→cp=0)∧l.length≤cp:=by
 rcases h.2 with ⟨rfl,h0⟩|⟨g,cap,cur,rfl,_,_,h1,_⟩
 ·exact⟨none,0,by rw[h0],fun _=>rfl,by omega⟩
 ·exact⟨_,_,rfl,fun e=>(by cases e),h1⟩
/-- It can be read as any formula. -/
theorem own_fm {B:Nat} {w:World}:∀(t:AT),OwnA B w t→∀(n b o:Nat),deepF (eraseA t)≤n→(∀j,j<5→w.cell? ⟨b,o+j,none⟩=(cellsA t)[j]?)→FmAt (fun k=>B≤k∧k<w.heap.size) w n b o (eraseA t):=by
 refine at_ind fun t ih h n b o hn hc=>?_
 rw[ownA_eq]at h
 obtain⟨h1,h2,h3⟩:=h
 have hd:=deepF_eq (eraseA t)
 rw[hd]at hn
 obtain⟨m,rfl⟩:∃m,n=m+1:=⟨n-1,by omega⟩
 have c0:=hc 0 (by omega)
 have c1:=hc 1 (by omega)
 have c2:=hc 2 (by omega)
 have c3:=hc 3 (by omega)
 have c4:=hc 4 (by omega)
 obtain⟨ao,cp,hv,hz,hle⟩:=rowV_shape h2
 simp only[cellsA,lZ,lS,Nat.add_zero]at c0 c1 c2 c3 c4
 rw[eraseA_eq]at hn ⊢
 refine⟨c0,c1,c2,c3,h1,ao,cp,by rw[hv]at c4;simp only[FmB.kids,eraseL_len];exact c4,hz,fun i hi=>?_⟩
 have hi2:i<t.kids.length:=by simpa only[FmB.kids,eraseL_len] using hi
 have hx:(eraseL t.kids)[i]'(by simpa only[FmB.kids] using hi)=eraseA t.kids[i]:=by simp [eraseL_map]
 have hmem:t.kids[i]∈t.kids:=List.getElem_mem hi2
 have hdi:deepF (eraseA t.kids[i])≤deepL (eraseL t.kids):=deepL_mem (by rw[eraseL_map];exact List.mem_map.2 ⟨_,hmem,rfl⟩)
 rcases h2.2 with ⟨e,h0⟩|⟨g,cap,cur,e,hg,hh,k1,k2,k3,k4⟩
 ·omega
 ·rw[e]at hv
  injection hv with hv _ _
  subst hv
  refine⟨g,0,rfl,⟨hg,lt_blk hh⟩,?_⟩
  show FmAt _ w m g (0+i*5) ((eraseL t.kids)[i]'(by simpa only[FmB.kids] using hi))
  rw[hx]
  refine ih _ hmem ((ownL_all _ _ _).1 h3 _ hmem) m g (0+i*5) (by simp only[FmB.kids]at hn;omega) fun j hj=>?_
  have hget:=rowA_get t.kids i j hi2 hj
  have hs:j<(cellsA t.kids[i]).length:=by simpa [cellsA] using hj
  rw[List.getElem?_eq_getElem hs]at hget ⊢
  rw[e]at h2
  have:=h2.cells (g:=g) rfl (i*5+j) _ hget
  rw[add_off]at this
  rw[Nat.zero_add]at this ⊢
  exact this
theorem own_fms {B:Nat} {w:World} {t:AT} (h:OwnA B w t):∃ao cp,t.v = .slice ao t.kids.length cp∧(ao=none→cp=0)∧FmsAt (fun k=>B≤k∧k<w.heap.size) w (deepF (eraseA t)) ao (eraseL t.kids)∧FmOk (eraseA t):=by
 have h0:=h
 rw[ownA_eq]at h
 obtain⟨h1,h2,h3⟩:=h
 obtain⟨ao,cp,hv,hz,hle⟩:=rowV_shape h2
 refine⟨ao,cp,hv,hz,fun i hi=>?_,by rw[eraseA_eq];exact h1⟩
 have hi2:i<t.kids.length:=by simpa only[eraseL_len] using hi
 have hx:(eraseL t.kids)[i]=eraseA t.kids[i]:=by simp [eraseL_map]
 have hmem:t.kids[i]∈t.kids:=List.getElem_mem hi2
 have hdi:deepF (eraseA t.kids[i])≤deepL (eraseL t.kids):=deepL_mem (by rw[eraseL_map];exact List.mem_map.2 ⟨_,hmem,rfl⟩)
 have hd:=deepF_eq (eraseA t)
 rw[eraseA_eq]at hd
 simp only[FmB.kids]at hd
 rcases h2.2 with ⟨e,h0⟩|⟨g,cap,cur,e,hg,hh,k1,k2,k3,k4⟩
 ·omega
 ·rw[e]at hv
  injection hv with hv _ _
  subst hv
  refine⟨g,0,rfl,⟨hg,lt_blk hh⟩,?_⟩
  rw[hx]
  refine own_fm _ ((ownL_all _ _ _).1 h3 _ hmem) _ g (0+i*5) (by rw[eraseA_eq t];omega) fun j hj=>?_
  have hget:=rowA_get t.kids i j hi2 hj
  have hs:j<(cellsA t.kids[i]).length:=by simpa [cellsA] using hj
  rw[List.getElem?_eq_getElem hs]at hget ⊢
  rw[e]at h2
  have:=h2.cells (g:=g) rfl (i*5+j) _ hget
  rw[add_off]at this
  rw[Nat.zero_add]at this ⊢
  exact this
end
section
open Go.RowKit
theorem Tryz.underlying44b:Tryz.prog.underlying 44=some (.slice 46):=by kernel_rfl
theorem wpList_append_runb {P:Program} {w w':World} {ops:Array Oper} {rest:List Oper} {o:Oper} {a:Act} {Q:Exit→Act→World→Prop} (hgd:o.guard=none) (s x:Operand) (t:TypeId)
  (ho:o.op = .call {callee:=.builtin .append,args:=#[s,x],argTypes:=#[t,t]}) {v y v':Value} (hs:a.eval s=v) (hx:a.eval x=y) (hr:(Builtin.append_ #[t,t] o.type #[v,y]).run P w = .ok v' w')
  (h:wpList P ops Q rest (a.put o.dst v') w'):wpList P ops Q (o::rest) a w:=by
 refine wpList_plain hgd fun K hK=>?_
 unfold Oper.wp execOp
 simp only[ho,resolve,invoke,builtin,Sem.run_bind,Sem.run_pure,Result.andThen_ok,List.map_toArray,List.map_cons,List.map_nil,hs,hx,hr]
 exact hK _ _ h
/-- A row of formulas of the call's own. -/
structure OwnRw (B:Nat) (w:World) (v:Value) (ts:List AT):Prop where
 row:w.ownsRow B 46 5 v ts.length (rowA ts)
 own:OwnL B w ts
 nd:(v.ownBlock.toList++blksL ts).Nodup
/-- A formula whose row of Kids it is. -/
theorem OwnRw.fm {B:Nat} {w:World} {v:Value} {ts:List AT} (h:OwnRw B w v ts) (op k:Int):OwnA B w (.mk op k ([],[]) v ts)∧(blksA (.mk op k ([],[]) v ts)).Nodup:=by
 refine⟨?_,h.nd⟩
 rw[ownA_eq]
 exact⟨⟨by simp [AT.r],by simp [AT.r]⟩,h.row,h.own⟩
theorem own_one {t:AT} {B:Nat} {w:World} (h:OwnA B w t):t.v.oneCell'=true:=by
 obtain⟨ao,cp,hv,_⟩:=own_fms h
 rw[hv]
 rfl
end
end Go.Proofs.YtkfinhpfdcjoeaaGreat
