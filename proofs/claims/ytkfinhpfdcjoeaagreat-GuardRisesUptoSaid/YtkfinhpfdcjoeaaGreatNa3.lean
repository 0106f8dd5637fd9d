/- A rule for a region that draws its order: what is known of each slot, shown operation by operation; nothing of the program's text. -/
import Derived.Test.YtkfinhpfdcjoeaaGreatNa1
namespace Go.Proofs.YtkfinhpfdcjoeaaGreat
open Go.RowKit
/-- What is known of slot t. -/
def Knows (G:Tmp→Value→World→Prop) (a:Act) (w:World) (t:Tmp):Prop:=∃v,a.tmps[t]? = some v∧G t v w
/-- The temporaries among operands. -/
def tmpsOf:List Operand→List Tmp
 | []=>[]
 | .tmp t::l=>t::tmpsOf l
 | _::l=>tmpsOf l
/-- The slot of an operation's guard, and what it must say. -/
def gSlot (ops:Array Oper) (o:Oper):Option (Tmp×Bool):=
 match o.guard with
 | none=>none
 | some (j,b)=>match (ops[j]?).bind (·.dst) with
  | some t=>some (t,b)
  | none=>none
def gTmps:Option (Tmp×Bool)→List Tmp
 | none=>[]
 | some (t,_)=>[t]
/-- What an operation looks at. -/
def looks (g:Option (Tmp×Bool)) (o:Oper):List Tmp:=gTmps g++tmpsOf o.op.operands.toList
def Gd (G:Tmp→Value→World→Prop):Option Tmp→Value→World→Prop
 | none,_,_=>True
 | some d,v,w=>G d v w
def says (b:Bool):Option Value→Bool
 | some (.bool c)=>c==b
 | _=>false
/-- What is to be shown of one operation. -/
def Ob (P:Program) (Q:Exit→Act→World→Prop) (R:World→World→Prop) (G:Tmp→Value→World→Prop) (w0:World) (g:Option (Tmp×Bool)) (o:Oper):Prop:=
 ∀(a:Act) (w:World),R w0 w→(∀t∈looks g o,Knows G a w t)→
  ∀K:Act→World→Prop,(∀v w',R w w'→Gd G o.dst v w'→K (a.put o.dst v) w')→
   match g with
   | none=>o.wp P a w K Q
   | some (t,b)=>if says b a.tmps[t]? = true then o.wp P a w K Q else K (a.put o.dst undef) w
def dstsOf (ops:List Oper):List Tmp:=ops.filterMap (·.dst)
/-- Is each slot that is looked at written by an operation that comes ahead by an edge of its own, or by none of the region? Are no two written alike? -/
def regOk (ops:Array Oper) (ds:List Tmp):Bool:=
 (dstsOf ops.toList==ds)&&decide ds.Nodup &&
 (List.range ops.size).all fun i=>match ops[i]? with
  | none=>true
  | some o=>
   (match o.guard with|none=>true|some _=>(gSlot ops o).isSome) &&
   (o.after.all fun e=>!Region.binds .any e||decide (e.on<i)) &&
   ((looks (gSlot ops o) o).all fun t=>!ds.contains t||o.after.any fun e=>Region.binds .any e&&((ops[e.on]?).bind (·.dst)==some t))
/-- The slots that are looked at and written by none of the region. -/
def outsOf (ops:Array Oper) (ds:List Tmp):List Tmp:=
 (ops.toList.flatMap fun o=>looks (gSlot ops o) o).filter fun t=>!ds.contains t
def putAll (vals:Tmp→Value):List Tmp→Array Value→Array Value
 | [],x=>x
 | t::l,x=>putAll vals l (x.setIfInBounds t (vals t))
theorem putAll_out (vals:Tmp→Value):∀(l:List Tmp) (x:Array Value) (t:Tmp),t∉l→(putAll vals l x)[t]? = x[t]?
 | [],_,_,_=>rfl
 | s::l,x,t,h=>by
  have hne:s≠t:=fun e=>h (by rw[e];exact List.mem_cons_self)
  rw[putAll,putAll_out vals l _ t (fun k=>h (List.mem_cons_of_mem _ k)),Array.getElem?_setIfInBounds_ne hne]
theorem putAll_in (vals:Tmp→Value):∀(l:List Tmp) (x:Array Value) (t:Tmp),l.Nodup→t∈l→t<x.size→(putAll vals l x)[t]? = some (vals t)
 | [],_,_,_,h,_=>by cases h
 | s::l,x,t,hn,h,hl=>by
  rw[putAll]
  have hn':=List.nodup_cons.1 hn
  rcases List.mem_cons.1 h with rfl|h
  ·rw[putAll_out vals l _ t hn'.1]
   simp [hl]
  ·exact putAll_in vals l _ t hn'.2 h (by simpa using hl)
section
variable {P:Program} {ops:Array Oper} {Q:Exit→Act→World→Prop} {R:World→World→Prop} {G:Tmp→Value→World→Prop} {w0:World} {a0:Act} {ds:List Tmp}
structure RegInv (ops:Array Oper) (R:World→World→Prop) (G:Tmp→Value→World→Prop) (w0:World) (a0:Act) (listed:Array Bool) (a:Act) (w:World):Prop where
 len:listed.size=ops.size
 world:R w0 w
 defers:a.defers=a0.defers
 size:a.tmps.size=a0.tmps.size
 same:∀t,(∀(i:Nat) (o:Oper),ops[i]? = some o→o.dst≠some t)→a.tmps[t]? = a0.tmps[t]?
 known:∀(i:Nat) (o:Oper) (t:Tmp),ops[i]? = some o→listed.getD i false=true→o.dst=some t→Knows G a w t
def unlisted (n:Nat) (listed:Array Bool):Nat:=(List.range n).countP fun i=>!listed.getD i false
theorem countP_lt {p q:Nat→Bool} (hpq:∀i,q i=true→p i=true):∀(l:List Nat) (i:Nat),i∈l→p i=true→q i=false→l.countP q<l.countP p
 | [],_,h,_,_=>by cases h
 | x::l,i,h,hp,hq=>by
  rcases List.mem_cons.1 h with rfl|h
  ·rw[List.countP_cons,List.countP_cons,hp,hq]
   have:=List.countP_mono_left (l:=l) (p:=q) (q:=p) (fun x _ hx=>hpq x hx)
   simp
   omega
  ·have:=countP_lt hpq l i h hp hq
   rw[List.countP_cons,List.countP_cons]
   cases hx:q x with
   | false=>cases p x <;> simp <;> omega
   | true=>rw[hpq x hx];simp;omega
theorem mem_ds (hds:dstsOf ops.toList=ds) {i:Nat} {o:Oper} {t:Tmp} (hi:ops[i]? = some o) (hd:o.dst=some t):t∈ds:=by
 rw[←hds]
 exact List.mem_filterMap.2 ⟨o,Array.mem_toList_iff.2 (Array.mem_of_getElem? hi),hd⟩
theorem of_mem_ds (hds:dstsOf ops.toList=ds) {t:Tmp} (h:t∈ds):∃(i:Nat) (o:Oper),ops[i]? = some o∧o.dst=some t:=by
 rw[←hds]at h
 obtain⟨o,ho,hd⟩:=List.mem_filterMap.1 h
 obtain⟨i,hi⟩:=List.getElem?_of_mem ho
 exact⟨i,o,by simpa using hi,hd⟩
theorem nodup_dst:∀(l:List Oper),(dstsOf l).Nodup→∀(i j:Nat) (o p:Oper) (t:Tmp),l[i]? = some o→l[j]? = some p→o.dst=some t→p.dst=some t→i=j
 | [],_,_,_,_,_,_,h,_,_,_=>by simp at h
 | x::l,hn,i,j,o,p,t,hi,hj,ho,hp=>by
  have hl:(dstsOf l).Nodup:=by
   unfold dstsOf at hn ⊢
   rw[List.filterMap_cons]at hn
   cases hx:x.dst with
   | none=>rw[hx]at hn;exact hn
   | some d=>rw[hx]at hn;exact(List.nodup_cons.1 hn).2
  have hmem:∀(k:Nat) (q:Oper),l[k]? = some q→q.dst=some t→x.dst≠some t:=by
   intro k q hk hq hx
   unfold dstsOf at hn
   rw[List.filterMap_cons,hx]at hn
   exact(List.nodup_cons.1 hn).1 (List.mem_filterMap.2 ⟨q,List.mem_of_getElem? hk,hq⟩)
  cases i with
  | zero=>
   cases j with
   | zero=>rfl
   | succ j=>
    simp only[lZ,Option.some.injEq,lS]at hi hj
    exact absurd (hi▸ho) (hmem j p hj hp)
  | succ i=>
   cases j with
   | zero=>
    simp only[lZ,Option.some.injEq,lS]at hi hj
    exact absurd (hj▸hp) (hmem i o hi ho)
   | succ j=>
    simp only[lS]at hi hj
    exact congrArg (· + 1) (nodup_dst l hl i j o p t hi hj ho hp)
theorem wanted_of {o:Oper} {a:Act} (hg:o.guard.isSome=true→(gSlot ops o).isSome=true) :
  Region.wanted o (yielded ops a.tmps)=match gSlot ops o with|none=>true|some (t,b)=>says b a.tmps[t]?:=by
 unfold Region.wanted gSlot at *
 cases hgu:o.guard with
 | none=>rfl
 | some jb=>
  obtain⟨j,b⟩:=jb
  rw[hgu]at hg
  simp only[Option.isSome_some,forall_const]at hg
  simp only
  cases hd:(ops[j]?).bind (·.dst) with
  | none=>rw[hd]at hg;simp at hg
  | some t=>
   simp only[yielded,hd,Option.bind_some]
   cases ht:a.tmps[t]? with
   | none=>cases b <;> rfl
   | some v=>
    cases v with
    | bool c=>cases b <;> cases c <;> decide
    | _=>cases b <;> rfl
theorem region_go (hds:dstsOf ops.toList=ds) (hnd:ds.Nodup)
  (hok:∀(i:Nat) (o:Oper),ops[i]? = some o→(o.guard.isSome=true→(gSlot ops o).isSome=true)∧(∀e∈o.after,Region.binds .any e=true→e.on<i)∧
   (∀t∈looks (gSlot ops o) o,t∈ds→∃e∈o.after,Region.binds .any e=true∧(ops[e.on]?).bind (·.dst)=some t))
  (htrans:∀a b c,R a b→R b c→R a c) (hG:∀t v w w',R w w'→G t v w→G t v w')
  (hsize:∀t∈ds,t<a0.tmps.size)
  (hstart:∀w,R w0 w→∀t∈outsOf ops ds,Knows G a0 w t)
  (hobs:∀o∈ops.toList,Ob P Q R G w0 (gSlot ops o) o)
  (hfin:∀a w,R w0 w→a.defers=a0.defers→a.tmps.size=a0.tmps.size→(∀t,t∉ds→a.tmps[t]? = a0.tmps[t]?)→(∀t∈ds,Knows G a w t)→Q .normal a w) :
  ∀(fuel:Nat) (listed:Array Bool) (a:Act) (w:World),unlisted ops.size listed≤fuel→RegInv ops R G w0 a0 listed a w→wpAny P .any ops Q fuel listed a w:=by
 have hend:∀(listed:Array Bool) (a:Act) (w:World),Region.ready .any ops listed=[]→RegInv ops R G w0 a0 listed a w→Q .normal a w:=by
  intro listed a w hr hi
  have hall:∀(i:Nat),i<ops.size→listed.getD i false=true:=by
   intro i
   induction i using Nat.strongRecOn with
   | ind i ih=>
    intro hlt
    refine Decidable.byContradiction fun hne=>?_
    have hmem:i∈Region.ready .any ops listed:=by
     rw[mem_ready]
     refine⟨?_,ops[i],Array.getElem?_eq_getElem hlt,fun e he hb=>?_⟩
     ·have h1:i<listed.size:=by rw[hi.len];exact hlt
      simp [h1]at hne ⊢
      exact hne
     ·have:=(hok i _ (Array.getElem?_eq_getElem hlt)).2.1 e he hb
      exact ih e.on this (by omega)
    rw[hr]at hmem
    cases hmem
  refine hfin a w hi.world hi.defers hi.size (fun t ht=>hi.same t fun i o ho hd=>ht (mem_ds hds ho hd)) (fun t ht=>?_)
  obtain⟨i,o,ho,hd⟩:=of_mem_ds hds ht
  exact hi.known i o t ho (hall i (Array.getElem?_eq_some_iff.1 ho).1) hd
 have hzero:∀(listed:Array Bool),unlisted ops.size listed=0→listed.size=ops.size→Region.ready .any ops listed=[]:=by
  intro listed h0 hlen
  refine List.eq_nil_iff_forall_not_mem.2 fun i hi=>?_
  obtain⟨h1,o,ho,_⟩:=mem_ready.1 hi
  have hlt:=(Array.getElem?_eq_some_iff.1 ho).1
  have:=List.countP_eq_zero.1 h0 i (List.mem_range.2 hlt)
  have h2:i<listed.size:=by omega
  simp [h2]at h1 this
  rw[h1]at this
  cases this
 intro fuel
 induction fuel with
 | zero=>
  intro listed a w hu hi
  have hr:=hzero listed (by omega) hi.len
  exact⟨hr,hend listed a w hr hi⟩
 | succ fuel ih=>
  intro listed a w hu hi
  refine⟨fun hr=>hend listed a w hr hi,fun i hir=>?_⟩
  obtain⟨hun,o,ho,hpre⟩:=mem_ready.1 hir
  obtain⟨hok1,hok2,hok3⟩:=hok i o ho
  have hilt:=(Array.getElem?_eq_some_iff.1 ho).1
  have hilt':i<listed.size:=by rw[hi.len];exact hilt
  have hkn:∀t∈looks (gSlot ops o) o,Knows G a w t:=by
   intro t ht
   by_cases hin:t∈ds
   ·obtain⟨e,he,hb,hd⟩:=hok3 t ht hin
    cases hoe:ops[e.on]? with
    | none=>rw[hoe]at hd;cases hd
    | some p=>rw[hoe]at hd;exact hi.known e.on p t hoe (hpre e he hb) hd
   ·obtain⟨v,hv,hg⟩:=hstart w hi.world t (by
     unfold outsOf
     refine List.mem_filter.2 ⟨List.mem_flatMap.2 ⟨o,Array.mem_toList_iff.2 (Array.mem_of_getElem? ho),ht⟩,?_⟩
     simpa using hin)
    exact⟨v,(hi.same t fun j p hj hd=>hin (mem_ds hds hj hd)).trans hv,hg⟩
  have hK:∀v w',R w w'→Gd G o.dst v w'→wpAny P .any ops Q fuel (listed.setIfInBounds i true) (a.put o.dst v) w':=by
   intro v w' hR hg
   refine ih _ _ _ ?_ ⟨by simpa using hi.len,htrans _ _ _ hi.world hR,?_,?_,?_,?_⟩
   ·have:unlisted ops.size (listed.setIfInBounds i true)<unlisted ops.size listed:=by
     refine countP_lt (fun j hj=>?_) _ i (List.mem_range.2 hilt) ?_ ?_
     ·by_cases hji:i=j
      ·subst hji
       simp [hilt']at hj
      ·rw[getD_set_ne false hji]at hj
       exact hj
     ·simp [hilt']at hun ⊢
      exact hun
     ·simp [hilt']
    omega
   ·cases o.dst <;> exact hi.defers
   ·cases o.dst with
    | none=>exact hi.size
    | some d=>simpa [Act.put] using hi.size
   ·intro t ht
    rw[←hi.same t ht]
    cases hd:o.dst with
    | none=>rfl
    | some d=>
     have:d≠t:=fun e=>ht i o ho (e▸hd)
     simp [Act.put,Array.getElem?_setIfInBounds_ne this]
   ·intro j p t hj hl hd
    by_cases hji:i=j
    ·subst hji
     rw[ho]at hj
     cases hj
     rw[hd]at hg ⊢
     refine⟨v,?_,hg⟩
     have hlt:t<a.tmps.size:=by rw[hi.size];exact hsize t (mem_ds hds ho hd)
     simp [Act.put,hlt]
    ·rw[getD_set_ne false hji]at hl
     obtain⟨u,hu1,hu2⟩:=hi.known j p t hj hl hd
     refine⟨u,?_,hG _ _ _ _ hR hu2⟩
     cases hod:o.dst with
     | none=>exact hu1
     | some d=>
      have hdt:d≠t:=fun e=>hji (nodup_dst ops.toList (by rw[hds];exact hnd) i j o p t (by simpa using ho) (by simpa using hj) (e▸hod) hd)
      simp [Act.put,Array.getElem?_setIfInBounds_ne hdt,hu1]
  have hOb:=hobs o (Array.mem_toList_iff.2 (Array.mem_of_getElem? ho)) a w hi.world hkn _ hK
  unfold wpOp
  simp only[ho]
  rw[wanted_of hok1]
  cases hgs:gSlot ops o with
  | none=>
   rw[hgs]at hOb
   simp only[if_true]
   exact .inl hOb
  | some tb=>
   obtain⟨t,b⟩:=tb
   rw[hgs]at hOb
   simp only at hOb ⊢
   split at hOb
   ·rename_i h;rw[if_pos h];exact .inl hOb
   ·rename_i h;rw[if_neg h];exact hOb
theorem regOk_spec (h:regOk ops ds=true):dstsOf ops.toList=ds∧ds.Nodup∧∀(i:Nat) (o:Oper),ops[i]? = some o→(o.guard.isSome=true→(gSlot ops o).isSome=true)∧(∀e∈o.after,Region.binds .any e=true→e.on<i)∧
   (∀t∈looks (gSlot ops o) o,t∈ds→∃e∈o.after,Region.binds .any e=true∧(ops[e.on]?).bind (·.dst)=some t):=by
 unfold regOk at h
 rw[Bool.and_eq_true,Bool.and_eq_true]at h
 obtain⟨⟨h1,h2⟩,h3⟩:=h
 refine⟨by simpa using h1,by simpa using h2,fun i o ho=>?_⟩
 have h4:=List.all_eq_true.1 h3 i (List.mem_range.2 (Array.getElem?_eq_some_iff.1 ho).1)
 rw[ho]at h4
 simp only[Bool.and_eq_true]at h4
 obtain⟨⟨k1,k2⟩,k3⟩:=h4
 refine⟨fun hs=>?_,fun e he hb=>?_,fun t ht hd=>?_⟩
 ·cases hg:o.guard with
  | none=>rw[hg]at hs;cases hs
  | some _=>rw[hg]at k1;exact k1
 ·have:=Array.all_eq_true_iff_forall_mem.1 k2 e he
  simp only[hb,Bool.not_true,Bool.false_or,decide_eq_true_eq]at this
  exact this
 ·have:=List.all_eq_true.1 k3 t ht
  simp only[Bool.or_eq_true,Bool.not_eq_true']at this
  rcases this with this|this
  ·rw[←List.contains_iff_mem,this]at hd;cases hd
  ·obtain⟨e,he,hb⟩:=Array.any_eq_true'.1 this
   simp only[Bool.and_eq_true,beq_iff_eq]at hb
   exact⟨e,he,hb.1,hb.2⟩
/-- The obligations, one behind the other. -/
inductive Obs (P:Program) (Q:Exit→Act→World→Prop) (R:World→World→Prop) (G:Tmp→Value→World→Prop) (w0:World) (ops:Array Oper):List Oper→Prop
 | nil:Obs P Q R G w0 ops []
 | cons {o:Oper} {l:List Oper} (g:Option (Tmp×Bool)) (hg:gSlot ops o=g) (h:Ob P Q R G w0 g o) (hs:Obs P Q R G w0 ops l):Obs P Q R G w0 ops (o::l)
theorem Obs.all {l:List Oper} (h:Obs P Q R G w0 ops l):∀o∈l,Ob P Q R G w0 (gSlot ops o) o:=by
 induction h with
 | nil=>intro o ho;cases ho
 | cons g hg h hs ih=>
  intro o ho
  rcases List.mem_cons.1 ho with rfl|ho
  ·rw[hg];exact h
  ·exact ih o ho
/-- The rule: R a preorder of worlds that draws keep to, G what each slot holds, stable under R; each operation shown by itself, whenever it comes up. -/
theorem wp_region_known {id:Nat} {l:List Oper} (R:World→World→Prop) (G:Tmp→Value→World→Prop) (ds:List Tmp) (hm:P.follows .mixedOrders=true) (hok:regOk l.toArray ds=true)
  (htrans:∀a b c,R a b→R b c→R a c) (hdrew:R w0 w0.drew) (hG:∀t v w w',R w w'→G t v w→G t v w')
  (hsize:(ds.all fun t=>decide (t<a0.tmps.size))=true) (outs:List Tmp) (houts:outsOf l.toArray ds=outs)
  (hstart:∀w,R w0 w→∀t∈outs,Knows G a0 w t)
  (hobs:Obs P Q R G w0 l.toArray l)
  (hfin:∀(vals:Tmp→Value) (w:World),R w0 w→(∀t∈ds,G t (vals t) w)→Q .normal ⟨putAll vals ds a0.tmps,a0.defers⟩ w) :
  (Code.region id l.toArray true).wp P Q a0 w0:=by
 obtain⟨h1,h2,h3⟩:=regOk_spec hok
 subst houts
 have hsz:∀t∈ds,t<a0.tmps.size:=fun t ht=>by simpa using List.all_eq_true.1 hsize t ht
 refine wp_region_any hm (region_go (R:=R) (G:=G) (w0:=w0) (a0:=a0) h1 h2 h3 htrans hG hsz hstart (by simpa using hobs.all) ?_ _ _ _ _ ?_ ⟨by simp,hdrew,rfl,rfl,fun _ _=>rfl,fun i o t ho hl hd=>?_⟩)
 ·intro a w hR hd hs hsame hkn
  have:=hfin (fun t=>a.tmps.getD t undef) w hR (fun t ht=>by
   obtain⟨v,hv,hg⟩:=hkn t ht
   have:a.tmps.getD t undef=v:=by
    rw[Array.getD_eq_getD_getElem?,hv]
    rfl
   rw[this]
   exact hg)
  have e:a=⟨putAll (fun t=>a.tmps.getD t undef) ds a0.tmps,a0.defers⟩:=by
   obtain⟨tm,df⟩:=a
   simp only at hd hs hsame hkn ⊢
   rw[hd]
   congr 1
   refine Array.ext' ?_
   refine List.ext_getElem? fun t=>?_
   rw[Array.getElem?_toList,Array.getElem?_toList]
   by_cases ht:t∈ds
   ·rw[putAll_in _ ds _ t h2 ht (hsz t ht)]
    obtain⟨v,hv,_⟩:=hkn t ht
    rw[hv,Array.getD_eq_getD_getElem?,hv]
    rfl
   ·rw[putAll_out _ ds _ t ht]
    exact hsame t ht
  rw[e]
  exact this
 ·unfold unlisted
  refine Nat.le_trans List.countP_le_length ?_
  simp
 ·simp [Array.getElem?_replicate]at hl
  split at hl <;> simp at hl
end
/-! ### The rule with a state of its own: what the world is like may hang on which operations have come up. -/
def upd (L:Nat→Bool) (i:Nat):Nat→Bool:=fun j=>if j=i then true else L j
/-- What is to be shown of the operation i, W being what holds of the world where the operations of L have come up, S what becomes of a world. -/
def ObL (P:Program) (Q:Exit→Act→World→Prop) (S:World→World→Prop) (W:(Nat→Bool)→World→Prop) (G:Tmp→Value→World→Prop) (i:Nat) (g:Option (Tmp×Bool)) (o:Oper):Prop:=
 ∀(L:Nat→Bool) (a:Act) (w:World),L i=false→(∀e∈o.after,Region.binds .any e=true→L e.on=true)→W L w→(∀t∈looks g o,Knows G a w t)→
  ∀K:Act→World→Prop,(∀v w',S w w'→W (upd L i) w'→Gd G o.dst v w'→K (a.put o.dst v) w')→
   match g with
   | none=>o.wp P a w K Q
   | some (t,b)=>if says b a.tmps[t]? = true then o.wp P a w K Q else K (a.put o.dst undef) w
inductive ObsL (P:Program) (Q:Exit→Act→World→Prop) (S:World→World→Prop) (W:(Nat→Bool)→World→Prop) (G:Tmp→Value→World→Prop) (ops:Array Oper):Nat→List Oper→Prop
 | nil {n:Nat}:ObsL P Q S W G ops n []
 | cons {n:Nat} {o:Oper} {l:List Oper} (g:Option (Tmp×Bool)) (hg:gSlot ops o=g) (h:ObL P Q S W G n g o) (hs:ObsL P Q S W G ops (n+1) l):ObsL P Q S W G ops n (o::l)
section
variable {P:Program} {ops:Array Oper} {Q:Exit→Act→World→Prop} {S:World→World→Prop} {W:(Nat→Bool)→World→Prop} {G:Tmp→Value→World→Prop} {a0:Act} {ds:List Tmp}
theorem ObsL.all {n:Nat} {l:List Oper} (h:ObsL P Q S W G ops n l):∀(i:Nat) (o:Oper),l[i]? = some o→ObL P Q S W G (n+i) (gSlot ops o) o:=by
 induction h with
 | nil=>intro i o ho;simp at ho
 | @cons k _ _ g hg h hs ih=>
  intro i o ho
  cases i with
  | zero=>
   simp only[lZ,Option.some.injEq]at ho
   subst ho
   rw[hg]
   exact h
  | succ i=>
   simp only[lS]at ho
   have:=ih i o ho
   rwa [show k+1+i=k+(i+1) from by omega]at this
structure RegInvL (ops:Array Oper) (W:(Nat→Bool)→World→Prop) (G:Tmp→Value→World→Prop) (a0:Act) (listed:Array Bool) (a:Act) (w:World):Prop where
 len:listed.size=ops.size
 world:W (fun j=>listed.getD j false) w
 defers:a.defers=a0.defers
 size:a.tmps.size=a0.tmps.size
 same:∀t,(∀(i:Nat) (o:Oper),ops[i]? = some o→o.dst≠some t)→a.tmps[t]? = a0.tmps[t]?
 known:∀(i:Nat) (o:Oper) (t:Tmp),ops[i]? = some o→listed.getD i false=true→o.dst=some t→Knows G a w t
 outs:∀t∈outsOf ops (dstsOf ops.toList),Knows G a0 w t
theorem upd_listed {listed:Array Bool} {i:Nat} (hi:i<listed.size):upd (fun j=>listed.getD j false) i=fun j=>(listed.setIfInBounds i true).getD j false:=by
 funext j
 unfold upd
 by_cases h:j=i
 ·subst h
  simp [hi]
 ·rw[if_neg h,getD_set_ne false (fun e=>h e.symm)]
theorem region_goL (hds:dstsOf ops.toList=ds) (hnd:ds.Nodup)
  (hok:∀(i:Nat) (o:Oper),ops[i]? = some o→(o.guard.isSome=true→(gSlot ops o).isSome=true)∧(∀e∈o.after,Region.binds .any e=true→e.on<i)∧
   (∀t∈looks (gSlot ops o) o,t∈ds→∃e∈o.after,Region.binds .any e=true∧(ops[e.on]?).bind (·.dst)=some t))
  (hG:∀t v w w',S w w'→G t v w→G t v w')
  (hsize:∀t∈ds,t<a0.tmps.size)
  (hobs:∀(i:Nat) (o:Oper),ops[i]? = some o→ObL P Q S W G i (gSlot ops o) o)
  (hfin:∀L a w,(∀i,i<ops.size→L i=true)→W L w→a.defers=a0.defers→a.tmps.size=a0.tmps.size→(∀t,t∉ds→a.tmps[t]? = a0.tmps[t]?)→(∀t∈ds,Knows G a w t)→Q .normal a w) :
  ∀(fuel:Nat) (listed:Array Bool) (a:Act) (w:World),unlisted ops.size listed≤fuel→RegInvL ops W G a0 listed a w→wpAny P .any ops Q fuel listed a w:=by
 have hend:∀(listed:Array Bool) (a:Act) (w:World),Region.ready .any ops listed=[]→RegInvL ops W G a0 listed a w→Q .normal a w:=by
  intro listed a w hr hi
  have hall:∀(i:Nat),i<ops.size→listed.getD i false=true:=by
   intro i
   induction i using Nat.strongRecOn with
   | ind i ih=>
    intro hlt
    refine Decidable.byContradiction fun hne=>?_
    have hmem:i∈Region.ready .any ops listed:=by
     rw[mem_ready]
     refine⟨?_,ops[i],Array.getElem?_eq_getElem hlt,fun e he hb=>?_⟩
     ·have h1:i<listed.size:=by rw[hi.len];exact hlt
      simp [h1]at hne ⊢
      exact hne
     ·have:=(hok i _ (Array.getElem?_eq_getElem hlt)).2.1 e he hb
      exact ih e.on this (by omega)
    rw[hr]at hmem
    cases hmem
  refine hfin (fun j=>listed.getD j false) a w hall hi.world hi.defers hi.size (fun t ht=>hi.same t fun i o ho hd=>ht (mem_ds hds ho hd)) (fun t ht=>?_)
  obtain⟨i,o,ho,hd⟩:=of_mem_ds hds ht
  exact hi.known i o t ho (hall i (Array.getElem?_eq_some_iff.1 ho).1) hd
 have hzero:∀(listed:Array Bool),unlisted ops.size listed=0→listed.size=ops.size→Region.ready .any ops listed=[]:=by
  intro listed h0 hlen
  refine List.eq_nil_iff_forall_not_mem.2 fun i hi=>?_
  obtain⟨h1,o,ho,_⟩:=mem_ready.1 hi
  have hlt:=(Array.getElem?_eq_some_iff.1 ho).1
  have:=List.countP_eq_zero.1 h0 i (List.mem_range.2 hlt)
  have h2:i<listed.size:=by omega
  simp [h2]at h1 this
  rw[h1]at this
  cases this
 intro fuel
 induction fuel with
 | zero=>
  intro listed a w hu hi
  have hr:=hzero listed (by omega) hi.len
  exact⟨hr,hend listed a w hr hi⟩
 | succ fuel ih=>
  intro listed a w hu hi
  refine⟨fun hr=>hend listed a w hr hi,fun i hir=>?_⟩
  obtain⟨hun,o,ho,hpre⟩:=mem_ready.1 hir
  obtain⟨hok1,hok2,hok3⟩:=hok i o ho
  have hilt:=(Array.getElem?_eq_some_iff.1 ho).1
  have hilt':i<listed.size:=by rw[hi.len];exact hilt
  have hun':listed.getD i false=false:=by
   simp [hilt']at hun ⊢
   exact hun
  have hkn:∀t∈looks (gSlot ops o) o,Knows G a w t:=by
   intro t ht
   by_cases hin:t∈ds
   ·obtain⟨e,he,hb,hd⟩:=hok3 t ht hin
    cases hoe:ops[e.on]? with
    | none=>rw[hoe]at hd;cases hd
    | some p=>rw[hoe]at hd;exact hi.known e.on p t hoe (hpre e he hb) hd
   ·obtain⟨v,hv,hg⟩:=hi.outs t (by
     unfold outsOf
     refine List.mem_filter.2 ⟨List.mem_flatMap.2 ⟨o,Array.mem_toList_iff.2 (Array.mem_of_getElem? ho),ht⟩,?_⟩
     rw[hds]
     simpa using hin)
    exact⟨v,(hi.same t fun j p hj hd=>hin (mem_ds hds hj hd)).trans hv,hg⟩
  have hK:∀v w',S w w'→W (upd (fun j=>listed.getD j false) i) w'→Gd G o.dst v w'→wpAny P .any ops Q fuel (listed.setIfInBounds i true) (a.put o.dst v) w':=by
   intro v w' hR hW hg
   refine ih _ _ _ ?_ ⟨by simpa using hi.len,by rw[←upd_listed hilt'];exact hW,?_,?_,?_,?_,?_⟩
   ·have:unlisted ops.size (listed.setIfInBounds i true)<unlisted ops.size listed:=by
     refine countP_lt (fun j hj=>?_) _ i (List.mem_range.2 hilt) ?_ ?_
     ·by_cases hji:i=j
      ·subst hji
       simp [hilt']at hj
      ·rw[getD_set_ne false hji]at hj
       exact hj
     ·simp [hilt']at hun ⊢
      exact hun
     ·simp [hilt']
    omega
   ·cases o.dst <;> exact hi.defers
   ·cases o.dst with
    | none=>exact hi.size
    | some d=>simpa [Act.put] using hi.size
   ·intro t ht
    rw[←hi.same t ht]
    cases hd:o.dst with
    | none=>rfl
    | some d=>
     have:d≠t:=fun e=>ht i o ho (e▸hd)
     simp [Act.put,Array.getElem?_setIfInBounds_ne this]
   ·intro j p t hj hl hd
    by_cases hji:i=j
    ·subst hji
     rw[ho]at hj
     cases hj
     rw[hd]at hg ⊢
     refine⟨v,?_,hg⟩
     have hlt:t<a.tmps.size:=by rw[hi.size];exact hsize t (mem_ds hds ho hd)
     simp [Act.put,hlt]
    ·rw[getD_set_ne false hji]at hl
     obtain⟨u,hu1,hu2⟩:=hi.known j p t hj hl hd
     refine⟨u,?_,hG _ _ _ _ hR hu2⟩
     cases hod:o.dst with
     | none=>exact hu1
     | some d=>
      have hdt:d≠t:=fun e=>hji (nodup_dst ops.toList (by rw[hds];exact hnd) i j o p t (by simpa using ho) (by simpa using hj) (e▸hod) hd)
      simp [Act.put,Array.getElem?_setIfInBounds_ne hdt,hu1]
   ·intro t ht
    obtain⟨u,hu1,hu2⟩:=hi.outs t ht
    exact⟨u,hu1,hG _ _ _ _ hR hu2⟩
  have hOb:=hobs i o ho (fun j=>listed.getD j false) a w hun' (fun e he hb=>hpre e he hb) hi.world hkn _ hK
  unfold wpOp
  simp only[ho]
  rw[wanted_of hok1]
  cases hgs:gSlot ops o with
  | none=>
   rw[hgs]at hOb
   simp only[if_true]
   exact .inl hOb
  | some tb=>
   obtain⟨t,b⟩:=tb
   rw[hgs]at hOb
   simp only at hOb ⊢
   split at hOb
   ·rename_i h;rw[if_pos h];exact .inl hOb
   ·rename_i h;rw[if_neg h];exact hOb
/-- The rule with a state. -/
theorem wp_region_state {id:Nat} {l:List Oper} {w0:World} (S:World→World→Prop) (W:(Nat→Bool)→World→Prop) (G:Tmp→Value→World→Prop) (ds outs:List Tmp) (hm:P.follows .mixedOrders=true) (hok:regOk l.toArray ds=true)
  (hW:W (fun _=>false) w0.drew) (hG:∀t v w w',S w w'→G t v w→G t v w')
  (hsize:(ds.all fun t=>decide (t<a0.tmps.size))=true) (houts:((outsOf l.toArray ds).all fun t=>outs.contains t)=true)
  (hstart:∀t∈outs,Knows G a0 w0.drew t)
  (hobs:ObsL P Q S W G l.toArray 0 l)
  (hfin:∀(L:Nat→Bool) (vals:Tmp→Value) (w:World),(∀i,i<l.length→L i=true)→W L w→(∀t∈ds,G t (vals t) w)→Q .normal ⟨putAll vals ds a0.tmps,a0.defers⟩ w) :
  (Code.region id l.toArray true).wp P Q a0 w0:=by
 obtain⟨h1,h2,h3⟩:=regOk_spec hok
 have hsz:∀t∈ds,t<a0.tmps.size:=fun t ht=>by simpa using List.all_eq_true.1 hsize t ht
 refine wp_region_any hm (region_goL (S:=S) (W:=W) (G:=G) (a0:=a0) h1 h2 h3 hG hsz (fun i o ho=>by have:=hobs.all i o (by simpa using ho);rwa [Nat.zero_add]at this) ?_ _ _ _ _ ?_ ⟨by simp,?_,rfl,rfl,fun _ _=>rfl,fun i o t ho hl hd=>?_,fun t ht=>?_⟩)
 ·intro L a w hL hR hd hs hsame hkn
  have:=hfin L (fun t=>a.tmps.getD t undef) w (by simpa using hL) hR (fun t ht=>by
   obtain⟨v,hv,hg⟩:=hkn t ht
   have:a.tmps.getD t undef=v:=by
    rw[Array.getD_eq_getD_getElem?,hv]
    rfl
   rw[this]
   exact hg)
  have e:a=⟨putAll (fun t=>a.tmps.getD t undef) ds a0.tmps,a0.defers⟩:=by
   obtain⟨tm,df⟩:=a
   simp only at hd hs hsame hkn ⊢
   rw[hd]
   congr 1
   refine Array.ext' ?_
   refine List.ext_getElem? fun t=>?_
   rw[Array.getElem?_toList,Array.getElem?_toList]
   by_cases ht:t∈ds
   ·rw[putAll_in _ ds _ t h2 ht (hsz t ht)]
    obtain⟨v,hv,_⟩:=hkn t ht
    rw[hv,Array.getD_eq_getD_getElem?,hv]
    rfl
   ·rw[putAll_out _ ds _ t ht]
    exact hsame t ht
  rw[e]
  exact this
 ·unfold unlisted
  refine Nat.le_trans List.countP_le_length ?_
  simp
 ·have:(fun j=>(Array.replicate l.toArray.size false).getD j false)=fun _=>false:=by
   funext j
   rw[Array.getD_eq_getD_getElem?,Array.getElem?_replicate]
   split <;> rfl
  rw[this]
  exact hW
 ·simp [Array.getElem?_replicate]at hl
  split at hl <;> simp at hl
 ·rw[h1]at ht
  have h4:=List.all_eq_true.1 houts t ht
  exact hstart t (by simpa using h4)
end
theorem ObL.plain {P:Program} {Q:Exit→Act→World→Prop} {S:World→World→Prop} {W:(Nat→Bool)→World→Prop} {G:Tmp→Value→World→Prop} {i:Nat} {o:Oper}
  (h:∀(L:Nat→Bool) (a:Act) (w:World),L i=false→(∀e∈o.after,Region.binds .any e=true→L e.on=true)→W L w→(∀t∈looks none o,Knows G a w t)→
   ∀K:Act→World→Prop,(∀v w',S w w'→W (upd L i) w'→Gd G o.dst v w'→K (a.put o.dst v) w')→o.wp P a w K Q):ObL P Q S W G i none o:=h
/-- What is known of a value, whatever becomes of the world by S. -/
structure SpecR (S:World→World→Prop) where
 p:Value→World→Prop
 st:∀v w w',S w w'→p v w→p v w'
def SpecR.any {S:World→World→Prop}:SpecR S:=⟨fun _ _=>True,fun _ _ _ _ h=>h⟩
def SpecR.eq {S:World→World→Prop} (v0:Value):SpecR S:=⟨fun v _=>v=v0,fun _ _ _ _ h=>h⟩
def specAtR {S:World→World→Prop} (l:List (SpecR S)) (t:Tmp) (v:Value) (w:World):Prop:=(l.getD t SpecR.any).p v w
theorem specAtR_st {S:World→World→Prop} (l:List (SpecR S)) (t:Tmp) (v:Value) (w w':World) (hc:S w w') (h:specAtR l t v w):specAtR l t v w':=(l.getD t SpecR.any).st v w w' hc h
/-- What is known of a value, whatever is done beside. -/
structure Spec where
 p:Value→World→Prop
 st:∀v w w',Chg (fun _=>False) w w'→p v w→p v w'
def Spec.any:Spec:=⟨fun _ _=>True,fun _ _ _ _ h=>h⟩
def Spec.eq (v0:Value):Spec:=⟨fun v _=>v=v0,fun _ _ _ _ h=>h⟩
/-- A slice of the bytes l. -/
def Spec.bytes (n:Nat) (l:List UInt8):Spec:=
 ⟨fun v w=>∃ao cap,v = .slice ao n cap∧l.length=n∧BytesAt (fun _=>True) w v l,fun _ _ _ hc ⟨ao,cap,h1,h2,h3⟩=>⟨ao,cap,h1,h2,h3.keep hc (fun _ _=>id)⟩⟩
def specAt (l:List Spec) (t:Tmp) (v:Value) (w:World):Prop:=(l.getD t Spec.any).p v w
theorem specAt_st (l:List Spec) (t:Tmp) (v:Value) (w w':World) (hc:Chg (fun _=>False) w w') (h:specAt l t v w):specAt l t v w':=(l.getD t Spec.any).st v w w' hc h
/-- The rule, where nothing that was there is turned. -/
theorem wp_region_specs {P:Program} {Q:Exit→Act→World→Prop} {w0:World} {a0:Act} {id:Nat} {l:List Oper} (specs:List Spec) (ds outs:List Tmp) (hm:P.follows .mixedOrders=true) (hok:regOk l.toArray ds=true)
  (hsize:(ds.all fun t=>decide (t<a0.tmps.size))=true) (houts:((outsOf l.toArray ds).all fun t=>outs.contains t)=true)
  (hstart:∀t∈outs,Knows (specAt specs) a0 w0 t)
  (hobs:Obs P Q (Chg fun _=>False) (specAt specs) w0 l.toArray l)
  (hfin:∀(vals:Tmp→Value) (w:World),Chg (fun _=>False) w0 w→(∀t∈ds,specAt specs t (vals t) w)→Q .normal ⟨putAll vals ds a0.tmps,a0.defers⟩ w) :
  (Code.region id l.toArray true).wp P Q a0 w0:=
 wp_region_known (R:=Chg fun _=>False) (G:=specAt specs) (ds:=ds) hm hok (fun _ _ _ h k=>h.trans k (fun _ _ h=>h)) R0.drew (fun t v w w' hc h=>specAt_st specs t v w w' hc h) hsize _ rfl
  (fun w hc t ht=>by
   have h1:=List.all_eq_true.1 houts t ht
   obtain⟨v,hv,hg⟩:=hstart t (by simpa using h1)
   exact⟨v,hv,specAt_st specs t v w0 w hc hg⟩)
  hobs hfin
/-- An operation without a guard. -/
theorem Ob.plain {P:Program} {Q:Exit→Act→World→Prop} {R:World→World→Prop} {G:Tmp→Value→World→Prop} {w0:World} {o:Oper}
  (h:∀(a:Act) (w:World),R w0 w→(∀t∈looks none o,Knows G a w t)→∀K:Act→World→Prop,(∀v w',R w w'→Gd G o.dst v w'→K (a.put o.dst v) w')→o.wp P a w K Q):Ob P Q R G w0 none o:=h
/-- An operation whose guard says yes. -/
theorem Ob.yes {P:Program} {Q:Exit→Act→World→Prop} {R:World→World→Prop} {G:Tmp→Value→World→Prop} {w0:World} {o:Oper} {t:Tmp} {b:Bool}
  (hb:∀v w,G t v w→v = .bool b)
  (h:∀(a:Act) (w:World),R w0 w→(∀t∈looks none o,Knows G a w t)→∀K:Act→World→Prop,(∀v w',R w w'→Gd G o.dst v w'→K (a.put o.dst v) w')→o.wp P a w K Q):Ob P Q R G w0 (some (t,b)) o:=by
 intro a w hR hk K hK
 obtain⟨v,hv,hg⟩:=hk t (by simp [looks,gTmps])
 have:=hb v w hg
 subst this
 have hs:says b a.tmps[t]? = true:=by rw[hv];simp [says]
 simp only[if_pos hs]
 exact h a w hR (fun s hs=>hk s (by simp [looks,gTmps]at hs ⊢;exact .inr hs)) K hK
/-- An operation whose guard says no. -/
theorem Ob.no {P:Program} {Q:Exit→Act→World→Prop} {R:World→World→Prop} {G:Tmp→Value→World→Prop} {w0:World} {o:Oper} {t:Tmp} {b:Bool}
  (hb:∀v w,G t v w→v = .bool (!b)) (hrefl:∀w,R w w) (hd:∀w,R w0 w→Gd G o.dst undef w):Ob P Q R G w0 (some (t,b)) o:=by
 intro a w hR hk K hK
 obtain⟨v,hv,hg⟩:=hk t (by simp [looks,gTmps])
 have:=hb v w hg
 subst this
 have hne:¬(says b a.tmps[t]? = true):=by
  rw[hv]
  cases b <;> simp [says]
 simp only[if_neg hne]
 exact hK _ _ (hrefl w) (hd w hR)
end Go.Proofs.YtkfinhpfdcjoeaaGreat
