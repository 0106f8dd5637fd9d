/- Texts that the proof leans on, in one: Drawn, Mem, OrdMath, NameMath, SetMath, Strs, RoleMath, FmMath, Row, Conv, RefRight. -/
import Derived.WalkKit
import Derived.Maps.AppendAt
import Derived.WalkSpells
import Derived.WalkLawsBesides
import Derived.Lib.SlicesCompact
import Derived.Test.YtkfinhpfdcjoeaaGreatRows
import Derived.Lib.SlBytesConst
/- No operation of the model takes a draw back. Nothing of the program's text. -/
namespace Go.Proofs.YtkfinhpfdcjoeaaGreat
section
open Go.RowKit
theorem aI {a b:Prop} (h:a) (g:b):a∧b:=⟨h,g⟩
theorem lZ {α:Type _} {a:α} {l:List α}:(a::l)[0]? = some a:=List.getElem?_cons_zero
theorem lS {α:Type _} {a:α} {i:Nat} {l:List α}:(a::l)[i+1]? = l[i]?:=List.getElem?_cons_succ
theorem lA {α:Type _} {l:List α} {i:Nat}:l.toArray[i]? = l[i]?:=List.getElem?_toArray
theorem ask_drawn {α:Type}:∀(a:Ask α) (w:World),w.drawn≤(w.ask a).2.drawn
 | .done a,w=>by rw[World.ask];exact Nat.le_refl _
 | .ask what range k,w=>by
  rw[World.ask]
  split
  ·exact ask_drawn (k 0) w
  ·exact Nat.le_trans (by simp) (ask_drawn _ _)
theorem sys_drawn (c:Sys) (w:World):w.drawn≤(w.sys c).2.drawn:=by
 have h:=ask_drawn (Kernel.perform c w.os) w
 unfold World.sys
 split
 ·exact Nat.le_refl _
 ·rename_i e
  rw[e]at h
  exact h
theorem viewStore_drawn {p:Program} {w:World} {a k:Addr} {u:TypeId} {v:Value} {atomic:Bool} {r:World×List Addr} (h:w.viewStore p a u k v atomic = .ok r):r.1.drawn=w.drawn:=by
 unfold World.viewStore at h
 simp only[bind,Except.bind,pure,Except.pure]at h
 repeat' (split at h)
 all_goals first|(injection h with h;rw[←h];done)|(cases h;rfl)|(cases h;done)|skip
theorem run_drawn (p:Program) {α:Type}:∀(s:Sem α) (w w':World) (a:α),s.run p w = .ok a w'→w.drawn≤w'.drawn:=by
 intro s
 induction s with
 | pure a=>intro w w' b h;rw[Sem.run]at h;cases h;exact Nat.le_refl _
 | load m a k ih=>
  intro w w' b h
  rw[Sem.run]at h
  split at h
  ·exact ih _ _ _ _ h
  ·split at h
   ·exact ih _ _ _ _ h
   ·cases h
 | store m a v k ih=>
  intro w w' b h
  have key:∀v:Value,(Sem.store m a v k).run p w = .ok b w'→(∀x,v ≠ .agg x)→(∀x,v ≠ .tuple x)→w.drawn≤w'.drawn:=by
   intro v h h1 h2
   rw[Sem.run]at h
   ·split at h
    ·split at h
     ·cases h
     ·have:=ih _ _ _ h;exact this
    ·split at h
     ·rename_i w2 l e
      unfold World.farStore at e
      split at e
      ·split at e
       ·rename_i e3
        cases e
        have h3:=viewStore_drawn e3
        have:=ih _ _ _ h
        simp only at h3
        omega
       ·cases e
      ·cases e
     ·cases h
   ·exact fun x e=>h1 x e
   ·exact fun x e=>h2 x e
  cases v <;> first|(rw[Sem.run]at h;cases h;done)|exact key _ h (fun _ e=>by cases e) (fun _ e=>by cases e)
 | new o k ih=>intro w w' b h;rw[Sem.run]at h;have:=ih _ _ _ _ h;exact this
 | shape r k ih=>intro w w' b h;rw[Sem.run]at h;exact ih _ _ _ _ h
 | freeze a n k ih=>
  intro w w' b h
  rw[Sem.run]at h
  have:=ih _ _ _ h
  unfold World.freeze at this
  split at this <;> exact this
 | frozen a k ih=>intro w w' b h;rw[Sem.run]at h;exact ih _ _ _ _ h
 | getObj r k ih=>
  intro w w' b h
  rw[Sem.run]at h
  split at h
  ·cases h
  ·exact ih _ _ _ _ h
  ·cases h
 | setObj r o k ih=>
  intro w w' b h
  rw[Sem.run]at h
  split at h
  ·cases h
  ·have:=ih _ _ _ h
   exact this
  ·cases h
 | choose q k ih=>
  intro w w' b h
  rw[Sem.run]at h
  split at h
  ·exact ih _ _ _ _ h
  ·exact Nat.le_trans (by simp) (ih _ _ _ _ h)
 | sys c k ih=>
  intro w w' b h
  rw[Sem.run]at h
  exact Nat.le_trans (sys_drawn c w) (ih _ _ _ _ h)
 | program k ih=>intro w w' b h;rw[Sem.run]at h;exact ih _ _ _ _ h
 | mark m k ih=>intro w w' b h;rw[Sem.run]at h;exact ih _ _ _ h
 | halt h0=>intro w w' b h;rw[Sem.run]at h;cases h
/-- Grown, and no draw taken back. -/
structure GrownD (w w':World) (row:Option Nat):Prop where
 g:w.grownBy w' row
 d:w.drawn≤w'.drawn
/-- An append to a row of the call's own, told with its draws. -/
theorem run_append_own_atD {P:Program} (w:World) (base:Nat) (t ty e:TypeId) (i:TypeInfo) (z:Value) (size bytes:Nat) (ht:P.underlying t=some (.slice e)) (hi:P.info? e=some i) (hz:i.zero=some z)
  (hsize:i.size=size) (hby:i.bytes=bytes) (hzs:z.cells.size=size) (hsz:0<size)
  (v:Value) (n:Nat) (xs:List Value) (hown:w.ownsRow base e size v n xs)
  (a:Addr) (m c:Nat) (news:List Value) (hl:news.length=m*size) (hnews:∀j u,news[j]? = some u→w.cell? (a.add j)=some u) (h1:∀u∈news,u.oneCell'=true)
  (h63:n+m≤maxLen) (hbytes:(n+m)*bytes≤140737488355328) (hbase:base≤w.heap.size) :
  ∃v' w',(Builtin.append_ #[t,t] ty #[v,.slice (some a) m c]).run P w = .ok v' w'∧w'.ownsRow base e size v' (n+m) (xs++news)∧GrownD w w' v.ownBlock∧
   (v' = .slice none 0 0↔v = .slice none 0 0∧m=0)∧(v'.ownBlock=v.ownBlock∨v'.ownBlock=some w.heap.size):=by
 obtain⟨v',w',k1,k2,k3,k4⟩:=run_append_own_at (P:=P) w base t ty e i z size bytes ht hi hz hsize hby hzs hsz v n xs hown a m c news hl hnews h1 h63 hbytes hbase
 exact⟨v',w',k1,k2,⟨k3,run_drawn _ _ _ _ _ k1⟩,k4⟩
theorem wpList_append_own_atD {P:Program} (w:World) {ops:Array Oper} {rest:List Oper} {o:Oper} {a:Act} {Q:Exit→Act→World→Prop} (hgd:o.guard=none) (s x:Operand) (t:TypeId)
  (ho:o.op = .call {callee:=.builtin .append,args:=#[s,x],argTypes:=#[t,t]})
  (base:Nat) (e:TypeId) (i:TypeInfo) (z:Value) (size bytes:Nat) (ht:P.underlying t=some (.slice e)) (hi:P.info? e=some i) (hz:i.zero=some z)
  (hsize:i.size=size) (hby:i.bytes=bytes) (hzs:z.cells.size=size) (hsz:0<size)
  (v:Value) (n:Nat) (xs:List Value) (hs:a.eval s=v) (hown:w.ownsRow base e size v n xs)
  (ad:Addr) (m c:Nat) (news:List Value) (hx:a.eval x = .slice (some ad) m c) (hl:news.length=m*size) (hnews:∀j u,news[j]? = some u→w.cell? (ad.add j)=some u) (h1:∀u∈news,u.oneCell'=true)
  (h63:n+m≤maxLen) (hbytes:(n+m)*bytes≤140737488355328) (hbase:base≤w.heap.size)
  (h:∀v' w',w'.ownsRow base e size v' (n+m) (xs++news)→GrownD w w' v.ownBlock→(v' = .slice none 0 0↔v = .slice none 0 0∧m=0)→(v'.ownBlock=v.ownBlock∨v'.ownBlock=some w.heap.size)→wpList P ops Q rest (a.put o.dst v') w') :
  wpList P ops Q (o::rest) a w:=by
 refine wpList_plain hgd fun K hK=>?_
 obtain⟨v',w',hr,h2,h3,h4,h5⟩:=run_append_own_atD (P:=P) w base t o.type e i z size bytes ht hi hz hsize hby hzs hsz v n xs hown ad m c news hl hnews h1 h63 hbytes hbase
 unfold Oper.wp execOp
 simp only[ho,resolve,invoke,builtin,Sem.run_bind,Sem.run_pure,Result.andThen_ok,List.map_toArray,List.map_cons,List.map_nil,hs,hx,hr]
 exact hK _ _ (h v' w' h2 h3 h4 h5)
end
section
open Go.RowKit
theorem ofNat_u8 (n:Nat) (h:n<256):(UInt8.ofNat n).toNat=n:=by
 rw[UInt8.toNat_ofNat']
 exact Nat.mod_eq_of_lt h
theorem hid {p:Prop} (h:p):Hid p:=h
/-- A byte's cell. -/
def cb (x:UInt8):Value:=.int .u8 (x.toNat:Int)
/-- w' is w with new blocks, and with writes to the blocks of S alone. -/
structure Chg (S:Nat→Prop) (w w':World):Prop where
 os:w'.os=w.os
 tape:w'.tape=w.tape
 output:w'.output=w.output
 size:w.heap.size≤w'.heap.size
 block:∀k,k<w.heap.size→¬S k→w'.heap[k]? = w.heap[k]?
theorem Chg.refl (S:Nat→Prop) (w:World):Chg S w w:=⟨rfl,rfl,rfl,Nat.le_refl _,fun _ _ _=>rfl⟩
theorem Chg.trans {S T:Nat→Prop} {a b c:World} (h:Chg S a b) (k:Chg T b c) (hT:∀i,i<a.heap.size→T i→S i):Chg S a c:=
 ⟨k.os.trans h.os,k.tape.trans h.tape,k.output.trans h.output,Nat.le_trans h.size k.size,fun i hi hs=>
  (k.block i (Nat.lt_of_lt_of_le hi h.size) (fun ht=>hs (hT i hi ht))).trans (h.block i hi hs)⟩
theorem Chg.mono {S T:Nat→Prop} {a b:World} (h:Chg S a b) (hT:∀i,i<a.heap.size→S i→T i):Chg T a b:=
 ⟨h.os,h.tape,h.output,h.size,fun i hi hs=>h.block i hi (fun k=>hs (hT i hi k))⟩
theorem Chg.alloc {S:Nat→Prop} {a b:World} (h:Chg S a b) (o:Obj):Chg S a (b.alloc o):=
 ⟨h.os,h.tape,h.output,Nat.le_trans h.size (by simp),fun i hi hs=>(Below.heap_alloc _ _ _ (Nat.lt_of_lt_of_le hi h.size)).trans (h.block i hi hs)⟩
theorem R0 {S:Nat→Prop} {w:World}:Chg S w w:=Chg.refl S w
theorem alc (w:World) (o:Obj):Chg (fun _=>False) w (w.alloc o):=(Chg.refl _ w).alloc o
theorem Chg.setCell {S:Nat→Prop} {a b:World} (h:Chg S a b) {p:Addr} (hp:p.block<a.heap.size→S p.block) (u:Value):Chg S a (b.setCell p u):=
 ⟨h.os,h.tape,h.output,by have:=h.size;simpa [World.setCell] using this,fun i hi hs=>
  (Below.heap_setCell _ _ _ _ (fun e=>hs (by subst e;exact hp hi))).trans (h.block i hi hs)⟩
theorem Chg.drew {S:Nat→Prop} {a b:World} (h:Chg S a b):Chg S a b.drew:=⟨h.os,h.tape,h.output,h.size,h.block⟩
theorem Chg.grown {S:Nat→Prop} {a b c:World} {row:Option Nat} (h:Chg S a b) (g2:GrownD b c row) (hr:∀k,row=some k→k<a.heap.size→S k):Chg S a c:=
 have g:=g2.g
 ⟨g.os.trans h.os,g.tape.trans h.tape,g.output.trans h.output,Nat.le_trans h.size g.size,fun i hi hs=>
  (g.block i (Nat.lt_of_lt_of_le hi h.size) (fun e=>hs (hr i e.symm hi))).trans (h.block i hi hs)⟩
theorem Chg.below {S:Nat→Prop} {a b:World} (h:Chg S a b) {B:Nat} (hB:B≤a.heap.size) (hS:∀i,i<B→¬S i):Below B a b:=
 ⟨h.os,h.tape,h.output,h.size,fun k hk=>h.block k (Nat.lt_of_lt_of_le hk hB) (hS k hk)⟩
theorem Chg.cell {S:Nat→Prop} {a b:World} (h:Chg S a b) {p:Addr} {v:Value} (hv:a.cell? p=some v) (hs:¬S p.block):b.cell? p=some v:=
 (World.cell?_of_block (h.block p.block (World.block_lt_of_cell? a p hv) hs)).trans hv
/-- The bytes l can be read through the slice value v; its block is one of D. -/
def BytesAt (D:Nat→Prop) (w:World) (v:Value) (l:List UInt8):Prop:=
 (∃ao cp,v = .slice ao 0 cp∧l=[]∧(ao=none→cp=0))∨
 ∃b off cap,v = .slice (some ⟨b,off,none⟩) l.length cap∧l.length≤cap∧cap≤maxLen∧D b∧∀i (h:i<l.length),w.cell? ⟨b,off+i,none⟩=some (.int .u8 (l[i].toNat:Int))
theorem BytesAt.mono {D D':Nat→Prop} {w:World} {v:Value} {l:List UInt8} (h:BytesAt D w v l) (hD:∀i,D i→D' i):BytesAt D' w v l:=by
 rcases h with h|⟨b,off,cap,h1,h2,h3,h4,h5⟩
 ·exact .inl h
 ·exact .inr ⟨b,off,cap,h1,h2,h3,hD b h4,h5⟩
theorem BytesAt.keep {S D:Nat→Prop} {w w':World} {v:Value} {l:List UInt8} (h:BytesAt D w v l) (hc:Chg S w w') (hS:∀i,D i→¬S i):BytesAt D w' v l:=by
 rcases h with h|⟨b,off,cap,h1,h2,h3,h4,h5⟩
 ·exact .inl h
 ·exact .inr ⟨b,off,cap,h1,h2,h3,h4,fun i hi=>hc.cell (h5 i hi) (hS b h4)⟩
theorem BytesAt.nil (D:Nat→Prop) (w:World):BytesAt D w (.slice none 0 0) []:=.inl ⟨none,0,rfl,rfl,fun _=>rfl⟩
theorem BytesAt.shape {D:Nat→Prop} {v:Value} {l:List UInt8} {w:World} (h:BytesAt D w v l):∃ao cap,v = .slice ao l.length cap:=by
 rcases h with ⟨ao,cp,rfl,rfl,_⟩|⟨b,off,cap,rfl,_⟩
 ·exact⟨ao,cp,rfl⟩
 ·exact⟨_,_,rfl⟩
theorem bC {w:World} {b:Nat} {cs:Array Value} {T:TypeId} {f:Nat×Nat} (h:w.heap[b]? = some (.cells cs T f)) (i:Nat):w.cell? ⟨b,i,none⟩=cs[i]?:=by
 simp [World.cell?,h]
theorem froz_blk {w:World} {b:Nat} {cs:Array Value} {T:TypeId} (h:w.heap[b]? = some (.cells cs T (0,0))) (i:Nat):w.frozen? ⟨b,i,none⟩=false:=by
 simp [World.frozen?,h]
theorem lt_blk {w:World} {b:Nat} {o:Obj} (h:w.heap[b]? = some o):b<w.heap.size:=(Array.getElem?_eq_some_iff.1 h).1
theorem set_blk {w:World} {b:Nat} {cs:Array Value} {T:TypeId} {f:Nat×Nat} (h:w.heap[b]? = some (.cells cs T f)) (i:Nat) (v:Value) :
  (w.setCell ⟨b,i,none⟩ v).heap[b]? = some (.cells (cs.setIfInBounds i v) T f):=by
 simp [World.setCell,Array.getElem?_modify,h]
theorem set_blk_ne {w:World} {b:Nat} {a:Addr} {v:Value} (hne:b≠a.block):(w.setCell a v).heap[b]? = w.heap[b]?:=Below.heap_setCell _ _ _ _ hne
theorem bE {S:Nat→Prop} {w w':World} {b:Nat} {o:Obj} (h:w.heap[b]? = some o) (hc:Chg S w w') (hs:¬S b):w'.heap[b]? = some o:=(hc.block b (lt_blk h) hs).trans h
theorem setCell_chg (w:World) (b i:Nat) (v:Value):Chg (· = b) w (w.setCell ⟨b,i,none⟩ v):=(Chg.refl (· = b) w).setCell (p:=⟨b,i,none⟩) (fun _=>rfl) v
end
section
open Go.RowKit
/-- An order without equals. -/
structure Ord {α:Type} (lt:α→α→Bool):Prop where
 irrefl:∀a,lt a a=false
 trans:∀a b c,lt a b=true→lt b c=true→lt a c=true
 tri:∀a b,lt a b=true∨a=b∨lt b a=true
section
variable {α:Type} {lt:α→α→Bool} {good:α→Bool}
theorem Ord.asymm (o:Ord lt) {a b:α} (h:lt a b=true):lt b a=false:=by
 cases hk:lt b a with
 | false=>rfl
 | true=>have:=o.trans _ _ _ h hk;rw[o.irrefl]at this;cases this
/-- Rising, each once. -/
def RisingG (lt:α→α→Bool):List α→Prop
 | []=>True
 | x::l=>(∀y∈l,lt x y=true)∧RisingG lt l
/-- out is the set of the right ones of ls. -/
def SetG (lt:α→α→Bool) (good:α→Bool) (ls out:List α):Prop:=RisingG lt out∧∀x,x∈out↔x∈ls∧good x=true
theorem RisingG.ext (o:Ord lt):∀ {a b:List α},RisingG lt a→RisingG lt b→(∀x,x∈a↔x∈b)→a=b
 | [],[],_,_,_=>rfl
 | [],y::b,_,_,h=>by have:=(h y).2 (by simp);simp at this
 | x::a,[],_,_,h=>by have:=(h x).1 (by simp);simp at this
 | x::a,y::b,ha,hb,h=>by
  have hxy:x=y:=by
   rcases o.tri x y with k|k|k
   ·rcases List.mem_cons.1 ((h x).1 (by simp)) with e|e
    ·exact e
    ·have:=o.trans _ _ _ k (hb.1 x e)
     rw[o.irrefl]at this
     cases this
   ·exact k
   ·rcases List.mem_cons.1 ((h y).2 (by simp)) with e|e
    ·exact e.symm
    ·have:=o.trans _ _ _ k (ha.1 y e)
     rw[o.irrefl]at this
     cases this
  subst hxy
  congr 1
  refine RisingG.ext o ha.2 hb.2 fun z=>⟨fun hz=>?_,fun hz=>?_⟩
  ·rcases List.mem_cons.1 ((h z).1 (List.mem_cons_of_mem _ hz)) with e|e
   ·subst e
    have:=ha.1 _ hz
    rw[o.irrefl]at this
    cases this
   ·exact e
  ·rcases List.mem_cons.1 ((h z).2 (List.mem_cons_of_mem _ hz)) with e|e
   ·subst e
    have:=hb.1 _ hz
    rw[o.irrefl]at this
    cases this
   ·exact e
theorem RisingG.snoc:∀ {a:List α} {x:α},RisingG lt a→(∀y∈a,lt y x=true)→RisingG lt (a++[x])
 | [],_,_,_=>⟨fun _ h=>(by cases h),trivial⟩
 | y::a,x,h,hx=>⟨fun z hz=>by
   rcases List.mem_append.1 hz with k|k
   ·exact h.1 z k
   ·rw[List.mem_singleton.1 k];exact hx y (by simp),RisingG.snoc h.2 fun z hz=>hx z (List.mem_cons_of_mem _ hz)⟩
theorem RisingG.nodup (o:Ord lt):∀ {a:List α},RisingG lt a→a.Nodup
 | [],_=>List.nodup_nil
 | x::a,h=>List.nodup_cons.2 ⟨(fun hx=>by have:=h.1 x hx;rw[o.irrefl]at this;cases this),RisingG.nodup o h.2⟩
theorem nodup_lengthG [BEq α] [LawfulBEq α]:∀(a b:List α),a.Nodup→(∀x∈a,x∈b)→a.length≤b.length
 | [],_,_,_=>Nat.zero_le _
 | x::a,b,hn,h=>by
  have hx:=h x (by simp)
  have hn':=List.nodup_cons.1 hn
  have:=nodup_lengthG a (b.erase x) hn'.2 (fun y hy=>(List.mem_erase_of_ne (fun e=>hn'.1 (by rw[←e];exact hy))).2 (h y (List.mem_cons_of_mem _ hy)))
  rw[List.length_erase_of_mem hx]at this
  have hp:0<b.length:=List.length_pos_of_mem hx
  simp only[List.length_cons]
  omega
theorem RisingG.lt_get:∀ {ls:List α},RisingG lt ls→∀(i j:Nat) (hj:j<ls.length) (hi:i<j),lt (ls[i]'(Nat.lt_trans hi hj)) ls[j]=true
 | [],_,_,_,hj,_=>by simp at hj
 | x::l,h,0,j+1,hj,_=>h.1 _ (by simp)
 | x::l,h,i+1,j+1,hj,hi=>h.2.lt_get i j (by simpa using hj) (by omega)
/-- Compacted, what is in order: what is kept, so far. -/
theorem compactG_inv [Inhabited α] [DecidableEq α] (o:Ord lt) (d:List α) (hs:d.Pairwise fun x y=>lt y x=false):∀m,m≤d.length→
  RisingG lt (Lib.compactUpTo d.toArray m)∧(∀y,y∈Lib.compactUpTo d.toArray m↔y∈d.take m)
 | 0,_=>⟨trivial,fun y=>by simp [Lib.compactUpTo]⟩
 | m+1,h=>by
  obtain⟨h1,h2⟩:=compactG_inv o d hs m (by omega)
  have hm:m<d.length:=by omega
  have hg:d.toArray[m]! = d[m]:=by simp [hm]
  rw[Lib.compactUpTo_succ,hg]
  by_cases h0:m=0
  ·subst h0
   have:Lib.keeps d.toArray 0=true:=by simp [Lib.keeps]
   rw[this,if_pos rfl]
   have e:Lib.compactUpTo d.toArray 0=[]:=rfl
   rw[e]
   refine⟨⟨(fun _ h=>by cases h),trivial⟩,fun y=>?_⟩
   rw[List.take_succ_eq_append_getElem hm]
   simp
  ·have hp:m-1<d.length:=by omega
   have hg1:d.toArray[m-1]! = d[m-1]:=by simp [hp]
   have hle:lt d[m] d[m-1]=false:=List.pairwise_iff_getElem.1 hs (m-1) m hp hm (by omega)
   have hmem:d[m-1]∈d.take m:=List.mem_take_iff_getElem.2 ⟨m-1,by omega,rfl⟩
   by_cases hk:Lib.keeps d.toArray m=true
   ·rw[hk,if_pos rfl]
    have hne:d[m]≠d[m-1]:=by
     have:m=0∨d.toArray[m]!≠d.toArray[m-1]!:=by simpa [Lib.keeps] using hk
     rw[hg,hg1]at this
     exact this.resolve_left h0
    have hlt:lt d[m-1] d[m]=true:=by
     rcases o.tri d[m-1] d[m] with k|k|k
     ·exact k
     ·exact absurd k.symm hne
     ·rw[hle]at k;cases k
    refine⟨h1.snoc fun y hy=>?_,fun y=>?_⟩
    ·obtain⟨j,hj,rfl⟩:=List.mem_take_iff_getElem.1 ((h2 y).1 hy)
     by_cases hjm:j=m-1
     ·subst hjm;exact hlt
     ·have hjl:lt d[m-1] d[j]=false:=List.pairwise_iff_getElem.1 hs j (m-1) (by omega) hp (by omega)
      rcases o.tri d[j] d[m-1] with k|k|k
      ·exact o.trans _ _ _ k hlt
      ·rw[k];exact hlt
      ·rw[hjl]at k;cases k
    ·rw[List.take_succ_eq_append_getElem hm]
     simp only[List.mem_append,h2 y]
   ·have hk':Lib.keeps d.toArray m=false:=by simpa using hk
    rw[hk',if_neg (by simp),List.append_nil]
    have he:d[m]=d[m-1]:=by
     have:¬(m=0∨d.toArray[m]!≠d.toArray[m-1]!):=by simpa [Lib.keeps] using hk'
     rw[hg,hg1]at this
     simp only[not_or,Decidable.not_not]at this
     exact this.2
    refine⟨h1,fun y=>?_⟩
    rw[List.take_succ_eq_append_getElem hm,h2 y]
    simp only[List.mem_append,List.mem_singleton]
    exact⟨.inl,fun k=>k.elim id fun e=>by rw[e,he];exact hmem⟩
/-- A list in order of just the right ones, compacted, is the set. -/
theorem compactG_set [Inhabited α] [DecidableEq α] (o:Ord lt) {ls d:List α} (hs:d.Pairwise fun x y=>lt y x=false) (hd:∀x,x∈d↔x∈ls∧good x=true):SetG lt good ls (Lib.compact d):=by
 obtain⟨h1,h2⟩:=compactG_inv o d hs _ (Nat.le_refl _)
 refine⟨h1,fun x=>?_⟩
 rw[List.take_of_length_le (Nat.le_refl _)]at h2
 rw[show Lib.compact d=Lib.compactUpTo d.toArray d.length from rfl,h2 x,hd x]
end
/-- Two orders, one behind the other. -/
def lexLt {α β:Type} [BEq α] (f:α→α→Bool) (g:β→β→Bool) (a b:α×β):Bool:=f a.1 b.1||(a.1==b.1&&g a.2 b.2)
theorem lexLt_ord {α β:Type} [BEq α] [LawfulBEq α] {f:α→α→Bool} {g:β→β→Bool} (hf:Ord f) (hg:Ord g):Ord (lexLt f g) where
 irrefl a:=by simp [lexLt,hf.irrefl,hg.irrefl]
 trans a b c h1 h2:=by
  simp only[lexLt,Bool.or_eq_true,Bool.and_eq_true,beq_iff_eq]at *
  rcases h1 with h1|⟨e1,h1⟩
  ·rcases h2 with h2|⟨e2,h2⟩
   ·exact .inl (hf.trans _ _ _ h1 h2)
   ·exact .inl (by rw[←e2];exact h1)
  ·rcases h2 with h2|⟨e2,h2⟩
   ·exact .inl (by rw[e1];exact h2)
   ·exact .inr ⟨e1.trans e2,hg.trans _ _ _ h1 h2⟩
 tri a b:=by
  simp only[lexLt,Bool.or_eq_true,Bool.and_eq_true,beq_iff_eq]
  rcases hf.tri a.1 b.1 with h|h|h
  ·exact .inl (.inl h)
  ·rcases hg.tri a.2 b.2 with k|k|k
   ·exact .inl (.inr ⟨h,k⟩)
   ·exact .inr (.inl (Prod.ext h k))
   ·exact .inr (.inr (.inr ⟨h.symm,k⟩))
  ·exact .inr (.inr (.inl h))
end
section
open Go.RowKit
/-- A sign of a name. -/
def okByte (c:UInt8):Bool:=(decide (97≤c.toNat)&&decide (c.toNat≤122))||(decide (48≤c.toNat)&&decide (c.toNat≤57))||decide (c.toNat=45)
def okFirst (c:UInt8):Bool:=decide (97≤c.toNat)&&decide (c.toNat≤122)
/-- A name. -/
def isName:List UInt8→Bool
 | []=>false
 | c::l=>okFirst c&&decide (l.length<16)&&(c::l).all okByte
theorem isName_long {l:List UInt8} (h:16<l.length):isName l=false:=by
 cases l with
 | nil=>rfl
 | cons c l=>
  have:decide (l.length<16)=false:=by simp at h ⊢;omega
  simp [isName,this]
theorem isName_first {l:List UInt8} (h0:0<l.length) (h:okFirst l[0]=false):isName l=false:=by
 cases l with
 | nil=>simp at h0
 | cons c l=>simp at h;simp [isName,h]
theorem isName_all {l:List UInt8} (h0:0<l.length) (h:okFirst l[0]=true) (h1:l.length≤16):isName l=l.all okByte:=by
 cases l with
 | nil=>simp at h0
 | cons c l=>
  have h2:decide (l.length<16)=true:=by simp at h1 ⊢;omega
  simp only[List.getElem_cons_zero]at h
  simp only[isName,h,h2,Bool.true_and]
theorem isName_len {l:List UInt8} (h:isName l=true):0<l.length∧l.length≤16:=by
 cases l with
 | nil=>cases h
 | cons c l=>
  simp only[isName,Bool.and_eq_true,decide_eq_true_eq]at h
  simp
  omega
theorem all_take_succ (l:List UInt8) (k:Nat) (h:k<l.length) (ha:(l.take k).all okByte=true):(l.take (k+1)).all okByte=okByte l[k]:=by
 rw[List.take_succ_eq_append_getElem h,List.all_append,ha]
 simp
theorem all_of_bad (l:List UInt8) (k:Nat) (h:k<l.length) (hb:okByte l[k]=false):l.all okByte=false:=by
 rw[List.all_eq_false]
 exact⟨l[k],List.getElem_mem h,by simp [hb]⟩
end
section
open Go.RowKit
/-- Byte by byte. -/
def ltS (a b:List UInt8):Bool:=Op.bytesLess a b
theorem ltS_cons (a b:UInt8) (x y:List UInt8):ltS (a::x) (b::y)=(decide (a<b)||(a==b&&ltS x y)):=rfl
theorem ltS_nil (a:List UInt8):ltS a []=false:=by cases a <;> rfl
theorem ltS_nil_cons (b:UInt8) (y:List UInt8):ltS [] (b::y)=true:=rfl
theorem ltS_irrefl:∀(a:List UInt8),ltS a a=false
 | []=>rfl
 | a::x=>by
  rw[ltS_cons,ltS_irrefl x]
  simp
theorem ltS_trans:∀(a b c:List UInt8),ltS a b=true→ltS b c=true→ltS a c=true
 | _,[],_,h,_=>by rw[ltS_nil]at h;cases h
 | _,_::_,[],_,h=>by rw[ltS_nil]at h;cases h
 | [],_::_,_::_,_,_=>rfl
 | a::x,b::y,c::z,h1,h2=>by
  rw[ltS_cons]at *
  simp only[Bool.or_eq_true,decide_eq_true_eq,Bool.and_eq_true,beq_iff_eq]at *
  rcases h1 with h1|⟨rfl,h1⟩
  ·rcases h2 with h2|⟨rfl,_⟩
   ·exact .inl (UInt8.lt_trans h1 h2)
   ·exact .inl h1
  ·rcases h2 with h2|⟨rfl,h2⟩
   ·exact .inl h2
   ·exact .inr ⟨rfl,ltS_trans x y z h1 h2⟩
theorem ltS_tri:∀(a b:List UInt8),ltS a b=true∨a=b∨ltS b a=true
 | [],[]=>.inr (.inl rfl)
 | [],_::_=>.inl rfl
 | _::_,[]=>.inr (.inr rfl)
 | a::x,b::y=>by
  rw[ltS_cons,ltS_cons]
  simp only[Bool.or_eq_true,decide_eq_true_eq,Bool.and_eq_true,beq_iff_eq]
  rcases UInt8.lt_or_eq_of_le (a:=a) (b:=b) |> fun _=>Nat.lt_trichotomy a.toNat b.toNat with h|h|h
  ·exact .inl (.inl (UInt8.lt_iff_toNat_lt.2 h))
  ·have hab:a=b:=UInt8.toNat_inj.1 h
   subst hab
   rcases ltS_tri x y with k|k|k
   ·exact .inl (.inr ⟨rfl,k⟩)
   ·exact .inr (.inl (by rw[k]))
   ·exact .inr (.inr (.inr ⟨rfl,k⟩))
  ·exact .inr (.inr (.inl (UInt8.lt_iff_toNat_lt.2 h)))
/-- Rising, each once. -/
def Rising:List (List UInt8)→Prop
 | []=>True
 | x::l=>(∀y∈l,ltS x y=true)∧Rising l
theorem Rising.ext:∀ {a b:List (List UInt8)},Rising a→Rising b→(∀x,x∈a↔x∈b)→a=b
 | [],[],_,_,_=>rfl
 | [],y::b,_,_,h=>by have:=(h y).2 (by simp);simp at this
 | x::a,[],_,_,h=>by have:=(h x).1 (by simp);simp at this
 | x::a,y::b,ha,hb,h=>by
  have hxy:x=y:=by
   rcases ltS_tri x y with k|k|k
   ·have h1:=(h x).1 (by simp)
    rcases List.mem_cons.1 h1 with e|e
    ·exact e
    ·have:=ltS_trans _ _ _ k (hb.1 x e)
     rw[ltS_irrefl]at this
     cases this
   ·exact k
   ·have h1:=(h y).2 (by simp)
    rcases List.mem_cons.1 h1 with e|e
    ·exact e.symm
    ·have:=ltS_trans _ _ _ k (ha.1 y e)
     rw[ltS_irrefl]at this
     cases this
  subst hxy
  congr 1
  refine Rising.ext ha.2 hb.2 fun z=>⟨fun hz=>?_,fun hz=>?_⟩
  ·rcases List.mem_cons.1 ((h z).1 (List.mem_cons_of_mem _ hz)) with e|e
   ·subst e
    have:=ha.1 _ hz
    rw[ltS_irrefl]at this
    cases this
   ·exact e
  ·rcases List.mem_cons.1 ((h z).2 (List.mem_cons_of_mem _ hz)) with e|e
   ·subst e
    have:=hb.1 _ hz
    rw[ltS_irrefl]at this
    cases this
   ·exact e
end
section
open Go.RowKit
theorem ba_get (l:List UInt8) (k:Nat) (h:k<(⟨l.toArray⟩:ByteArray).size):(⟨l.toArray⟩:ByteArray)[k]=l[k]'h:=rfl
/-- The texts ls can be read from the address ao on. -/
def StrsAt (D:Nat→Prop) (w:World) (ao:Option Addr) (ls:List (List UInt8)):Prop:=
 ∀i (h:i<ls.length),∃b off,ao=some ⟨b,off,none⟩∧D b∧w.cell? ⟨b,off+i,none⟩=some (.string ⟨ls[i].toArray⟩)∧ls[i].length≤9223372036854775807
theorem StrsAt.keep {S D:Nat→Prop} {w w':World} {ao:Option Addr} {ls:List (List UInt8)} (h:StrsAt D w ao ls) (hc:Chg S w w') (hS:∀i,D i→¬S i):StrsAt D w' ao ls:=fun i hi=>
 let ⟨b,off,h1,h2,h3,h4⟩:=h i hi
 ⟨b,off,h1,h2,hc.cell h3 (hS b h2),h4⟩
theorem StrsAt.mono {D D':Nat→Prop} {w:World} {ao:Option Addr} {ls:List (List UInt8)} (h:StrsAt D w ao ls) (hD:∀i,D i→D' i):StrsAt D' w ao ls:=fun i hi=>
 let ⟨b,off,h1,h2,h3,h4⟩:=h i hi
 ⟨b,off,h1,hD b h2,h3,h4⟩
theorem StrsAt.nil (D:Nat→Prop) (w:World) (ao:Option Addr):StrsAt D w ao []:=fun i hi=>by simp at hi
end
section
open Go.RowKit
/-- An owner and a word. -/
abbrev RoleB:=List UInt8×List UInt8
def isRole (r:RoleB):Bool:=isName r.1&&isName r.2
def ltR (a b:RoleB):Bool:=lexLt ltS ltS a b
theorem ltS_ord:Ord ltS:=⟨ltS_irrefl,ltS_trans,ltS_tri⟩
theorem ltR_ord:Ord ltR:=lexLt_ord ltS_ord ltS_ord
theorem ltR_def (a b:RoleB):ltR a b=(ltS a.1 b.1||(a.1==b.1&&ltS a.2 b.2)):=rfl
/-- How two compare. -/
def cmpR (a b:RoleB):Int:=if ltR a b then -1 else if ltR b a then 1 else 0
/-- A role, as the program holds it. -/
def roleV (r:RoleB):Value:=.agg #[.string ⟨r.1.toArray⟩,.string ⟨r.2.toArray⟩]
def roleCells (r:RoleB):List Value:=[.string ⟨r.1.toArray⟩,.string ⟨r.2.toArray⟩]
/-- The role r lies at the two cells from o on. -/
def RoleAt (w:World) (b o:Nat) (r:RoleB):Prop:=
 w.cell? ⟨b,o,none⟩=some (.string ⟨r.1.toArray⟩)∧w.cell? ⟨b,o+1,none⟩=some (.string ⟨r.2.toArray⟩)∧r.1.length≤9223372036854775807∧r.2.length≤9223372036854775807
/-- The roles ls can be read from the address ao on. -/
def RolesAt (D:Nat→Prop) (w:World) (ao:Option Addr) (ls:List RoleB):Prop:=
 ∀i (h:i<ls.length),∃b off,ao=some ⟨b,off,none⟩∧D b∧RoleAt w b (off+i*2) ls[i]
theorem RoleAt.keep {S:Nat→Prop} {w w':World} {b o:Nat} {r:RoleB} (h:RoleAt w b o r) (hc:Chg S w w') (hS:¬S b):RoleAt w' b o r:=
 ⟨hc.cell h.1 hS,hc.cell h.2.1 hS,h.2.2⟩
theorem RolesAt.keep {S D:Nat→Prop} {w w':World} {ao:Option Addr} {ls:List RoleB} (h:RolesAt D w ao ls) (hc:Chg S w w') (hS:∀i,D i→¬S i):RolesAt D w' ao ls:=fun i hi=>
 let ⟨b,off,h1,h2,h3⟩:=h i hi
 ⟨b,off,h1,h2,h3.keep hc (hS b h2)⟩
theorem RolesAt.mono {D D':Nat→Prop} {w:World} {ao:Option Addr} {ls:List RoleB} (h:RolesAt D w ao ls) (hD:∀i,D i→D' i):RolesAt D' w ao ls:=fun i hi=>
 let ⟨b,off,h1,h2,h3⟩:=h i hi
 ⟨b,off,h1,hD b h2,h3⟩
theorem RolesAt.nil (D:Nat→Prop) (w:World) (ao:Option Addr):RolesAt D w ao []:=fun i hi=>by simp at hi
end
section
open Go.RowKit
/-- A formula: its Op, its K, its Role, its Kids. -/
inductive FmB where
 | mk (op k:Int) (r:RoleB) (kids:List FmB)
def FmB.op:FmB→Int | .mk op _ _ _=>op
def FmB.k:FmB→Int | .mk _ k _ _=>k
def FmB.r:FmB→RoleB | .mk _ _ r _=>r
def FmB.kids:FmB→List FmB | .mk _ _ _ kids=>kids
/- How many nodes; how deep; how great (layer 11's law's word). -/
mutual
def nodesF:FmB→Nat
 | .mk _ _ _ kids=>1+nodesL kids
def nodesL:List FmB→Nat
 | []=>0
 | f::l=>nodesF f+nodesL l
end
mutual
def deepF:FmB→Nat
 | .mk _ _ _ kids=>1+deepL kids
def deepL:List FmB→Nat
 | []=>0
 | f::l=>max (deepF f) (deepL l)
end
mutual
def greatF:FmB→Nat
 | .mk _ _ r kids=>1+(r.1.length+r.2.length) / 16+greatL kids
def greatL:List FmB→Nat
 | []=>0
 | f::l=>greatF f+greatL l
end
/-- Is a node right, whatever its Kids are? -/
def rightN (op k:Int) (r:RoleB) (n:Nat):Bool:=
 if op=1 then isRole r&&(decide (n=0)&&decide (k=0))
 else if 8<n∨r≠([],[]) then false
 else if op=2∨op=3 then decide (k=0)
 else if op=4 then decide (0<n)&&(decide (0≤k)&&decide (k≤(n:Int)))
 else false
/- Are all nodes? -/
mutual
def rightF:FmB→Bool
 | .mk op k r kids=>rightL kids&&rightN op k r kids.length
def rightL:List FmB→Bool
 | []=>true
 | f::l=>rightF f&&rightL l
end
def isF (f:FmB):Bool:=decide (nodesF f≤64)&&(decide (deepF f≤6)&&rightF f)
/-- How many Kids must be true. -/
def leastN (op k:Int) (n:Nat):Int:=if op=2 then (n:Int) else if op=3 then 1 else k
/- Is it true, of the roles that T tells? -/
mutual
def holdsF (T:RoleB→Bool):FmB→Bool
 | .mk op k r kids=>if op=1 then T r else decide (leastN op k kids.length≤(holdsN T kids:Int))
def holdsN (T:RoleB→Bool):List FmB→Nat
 | []=>0
 | f::l=>(if holdsF T f then 1 else 0)+holdsN T l
end
/- The roles of its atoms. -/
theorem nodesF_eq (f:FmB):nodesF f=1+nodesL f.kids:=by cases f;rfl
theorem deepF_eq (f:FmB):deepF f=1+deepL f.kids:=by cases f;rfl
theorem greatF_eq (f:FmB):greatF f=1+(f.r.1.length+f.r.2.length) / 16+greatL f.kids:=by cases f;rfl
theorem rightF_eq (f:FmB):rightF f=(rightL f.kids&&rightN f.op f.k f.r f.kids.length):=by cases f;rfl
theorem holdsF_eq (T:RoleB→Bool) (f:FmB):holdsF T f=if f.op=1 then T f.r else decide (leastN f.op f.k f.kids.length≤(holdsN T f.kids:Int)):=by cases f;rfl
theorem nodesL_app (a b:List FmB):nodesL (a++b)=nodesL a+nodesL b:=by
 induction a with
 | nil=>simp [nodesL]
 | cons x l ih=>rw[List.cons_append,nodesL,nodesL,ih];omega
theorem nodesL_snoc (a:List FmB) (x:FmB):nodesL (a++[x])=nodesL a+nodesF x:=by rw[nodesL_app];simp [nodesL]
theorem deepL_snoc (a:List FmB) (x:FmB):deepL (a++[x])=max (deepL a) (deepF x):=by
 induction a with
 | nil=>simp [deepL]
 | cons y l ih=>rw[List.cons_append,deepL,deepL,ih];omega
theorem greatL_snoc (a:List FmB) (x:FmB):greatL (a++[x])=greatL a+greatF x:=by
 induction a with
 | nil=>simp [greatL]
 | cons y l ih=>rw[List.cons_append,greatL,greatL,ih];omega
theorem rightL_snoc (a:List FmB) (x:FmB):rightL (a++[x])=(rightL a&&rightF x):=by
 induction a with
 | nil=>simp [rightL]
 | cons y l ih=>rw[List.cons_append,rightL,rightL,ih,Bool.and_assoc]
theorem holdsN_snoc (T:RoleB→Bool) (a:List FmB) (x:FmB):holdsN T (a++[x])=holdsN T a+if holdsF T x then 1 else 0:=by
 induction a with
 | nil=>simp [holdsN]
 | cons y l ih=>rw[List.cons_append,holdsN,holdsN,ih];omega
theorem nodesF_pos (f:FmB):1≤nodesF f:=by rw[nodesF_eq];omega
theorem nodesL_len (l:List FmB):l.length≤nodesL l:=by
 induction l with
 | nil=>simp
 | cons x l ih=>have:=nodesF_pos x;rw[nodesL,List.length_cons];omega
theorem nodesL_take (l:List FmB) (j:Nat):nodesL (l.take j)≤nodesL l:=by
 have h:=nodesL_app (l.take j) (l.drop j)
 rw[List.take_append_drop]at h
 omega
theorem nodesL_get (l:List FmB) (j:Nat) (h:j<l.length):nodesL (l.take (j+1))=nodesL (l.take j)+nodesF l[j]:=by rw[List.take_succ_eq_append_getElem h,nodesL_snoc]
theorem nodesL_mem {l:List FmB} {f:FmB} (h:f∈l):nodesF f≤nodesL l:=by
 induction l with
 | nil=>cases h
 | cons x l ih=>
  rcases List.mem_cons.1 h with rfl|h
  ·rw[nodesL];omega
  ·have:=ih h;rw[nodesL];omega
theorem deepL_mem {l:List FmB} {f:FmB} (h:f∈l):deepF f≤deepL l:=by
 induction l with
 | nil=>cases h
 | cons x l ih=>
  rcases List.mem_cons.1 h with rfl|h
  ·rw[deepL];omega
  ·have:=ih h;rw[deepL];omega
theorem rightL_mem {l:List FmB} (h:rightL l=true):∀f∈l,rightF f=true:=by
 induction l with
 | nil=>exact fun _ h=>by cases h
 | cons x l ih=>
  intro f hf
  rw[rightL,Bool.and_eq_true]at h
  rcases List.mem_cons.1 hf with rfl|hf
  ·exact h.1
  ·exact ih h.2 f hf
theorem rightL_no {l:List FmB} {j:Nat} (hj:j<l.length) (h:rightF l[j]=false):rightL l=false:=by
 cases e:rightL l with
 | false=>rfl
 | true=>rw[rightL_mem e _ (List.getElem_mem hj)]at h;cases h
theorem holdsN_len (T:RoleB→Bool) (l:List FmB):holdsN T l≤l.length:=by
 induction l with
 | nil=>simp [holdsN]
 | cons x l ih=>rw[holdsN,List.length_cons];split <;> omega
/-- By as many nodes as it has: every formula is reached. -/
theorem nodes_ind {P:FmB→Prop} (h:∀f:FmB,(∀g∈f.kids,P g)→P f):∀f,P f:=by
 have key:∀n f,nodesF f≤n→P f:=by
  intro n
  induction n with
  | zero=>intro f hf;have:=nodesF_pos f;omega
  | succ n ih=>
   intro f hf
   refine h f fun g hg=>ih g ?_
   have:=nodesL_mem hg
   rw[nodesF_eq]at hf
   omega
 exact fun f=>key _ f (Nat.le_refl _)
/-- No fewer nodes than this greatness. -/
theorem great_nodes:∀f:FmB,nodesF f≤greatF f:=by
 refine nodes_ind fun f h=>?_
 have key:∀l:List FmB,(∀g∈l,nodesF g≤greatF g)→nodesL l≤greatL l:=by
  intro l
  induction l with
  | nil=>exact fun _=>Nat.le_refl _
  | cons x l ih=>
   intro h
   have h1:=h x (by simp)
   have h2:=ih (fun g hg=>h g (by simp [hg]))
   rw[nodesL,greatL]
   omega
 have:=key _ h
 rw[nodesF_eq,greatF_eq]
 omega
/-- With more roles it stays true, if it is right. -/
theorem holds_mono {T U:RoleB→Bool} (hTU:∀r,T r=true→U r=true):∀f:FmB,rightF f=true→holdsF T f=true→holdsF U f=true:=by
 refine nodes_ind fun f ih hr hT=>?_
 have hk:holdsN T f.kids≤holdsN U f.kids:=by
  rw[rightF_eq,Bool.and_eq_true]at hr
  have hl:=rightL_mem hr.1
  have key:∀l:List FmB,(∀g∈l,rightF g=true→holdsF T g=true→holdsF U g=true)→(∀g∈l,rightF g=true)→holdsN T l≤holdsN U l:=by
   intro l
   induction l with
   | nil=>exact fun _ _=>Nat.le_refl _
   | cons x l ih2=>
    intro h1 h2
    have h3:=ih2 (fun g hg=>h1 g (by simp [hg])) (fun g hg=>h2 g (by simp [hg]))
    have h4:=h1 x (by simp) (h2 x (by simp))
    rw[holdsN,holdsN]
    by_cases e:holdsF T x=true
    ·rw[if_pos e,if_pos (h4 e)];omega
    ·rw[if_neg e];omega
  exact key _ (fun g hg=>ih g hg) hl
 rw[holdsF_eq]at hT ⊢
 by_cases h1:f.op=1
 ·rw[if_pos h1]at hT ⊢;exact hTU _ hT
 ·rw[if_neg h1]at hT ⊢
  have:=of_decide_eq_true hT
  exact decide_eq_true (by omega)
end
section
open Go.RowKit
theorem cb_getElem? (l:List UInt8) (i:Nat) (u:Value) (h:(l.map cb)[i]? = some u):∃hi:i<l.length,u = .int .u8 (l[i].toNat:Int):=by
 have hi:i<l.length:=by
  have:=(List.getElem?_eq_some_iff.1 h).1
  simpa using this
 refine⟨hi,?_⟩
 simp [hi]at h
 exact h.symm
theorem cb_one (l:List UInt8):∀u∈l.map cb,u.oneCell'=true:=by
 intro u hu
 simp at hu
 obtain⟨x,_,rfl⟩:=hu
 rfl
theorem add_off (b off i:Nat):(⟨b,off,none⟩:Addr).add i=⟨b,off+i,none⟩:=by
 unfold Addr.add
 split <;> simp_all
end
section
open Go.RowKit
theorem Tryz.info5:(Tryz.prog.info? 5).map (fun i=>(i.zero,i.size,i.bytes))=some (some (.int .u8 0),1,1):=by kernel_rfl
theorem bytesRow_list (acc:List UInt8) (cap:Nat) (i:Nat) (h:i<acc.length):(bytesRow ⟨acc.toArray⟩ cap)[i]? = some (.int .u8 (acc[i].toNat:Int)):=by
 have:=bytesRow_at ⟨acc.toArray⟩ cap i (by simpa using h)
 simpa using this
/-- '[]byte(s)'. -/
theorem bytes_of (acc:List UInt8) (w:World) (c:Nat) (hc:acc.length≤c) (hm:c≤maxLen) (f:Nat×Nat) :
  BytesAt (fun k=>k=w.heap.size) (w.alloc (.cells (bytesRow ⟨acc.toArray⟩ c) 5 f)) (.slice (some ⟨w.heap.size,0,none⟩) acc.length c) acc:=by
 refine .inr ⟨_,0,c,rfl,hc,hm,rfl,fun i hi=>?_⟩
 rw[bC (heap_alloc_new w _),Nat.zero_add]
 exact bytesRow_list acc c i hi
theorem conv_str (acc:List UInt8) (w:World):(convert 9 41 (.string ⟨acc.toArray⟩)).run Tryz.prog w = .ok (.slice (some ⟨w.heap.size,0,none⟩) acc.length (grownCap w acc.length 0 5))
   (w.drew.alloc (.cells (bytesRow ⟨acc.toArray⟩ (grownCap w acc.length 0 5)) 5 ((bytesRow ⟨acc.toArray⟩ (grownCap w acc.length 0 5)).size,(bytesRow ⟨acc.toArray⟩ (grownCap w acc.length 0 5)).size+1))):=by
 have:=run_bytes_of_string (P:=Tryz.prog) w 9 41 5 ⟨acc.toArray⟩ Tryz.underlying9 Tryz.underlying41 Tryz.underlying5
 exact this
end
section
open Go.RowKit
end
end Go.Proofs.YtkfinhpfdcjoeaaGreat
