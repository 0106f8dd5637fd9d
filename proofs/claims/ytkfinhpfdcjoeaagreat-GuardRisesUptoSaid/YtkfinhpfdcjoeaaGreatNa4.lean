/- Texts that the proof leans on, in one: RegE, LastW, RegD, FmGreat. -/
import Derived.Test.YtkfinhpfdcjoeaaGreatNa3
import Derived.Test.YtkfinhpfdcjoeaaGreatNa2
/- A rule for a region that draws its order, where one slot is read before the one operation that writes it. -/
namespace Go.Proofs.YtkfinhpfdcjoeaaGreat
section
open Go.RowKit
/-- What a reader knows of the slots: of te, that it holds ve. -/
def rdE (te:Tmp) (ve:Value) (G:Tmp→Value→World→Prop) (t:Tmp) (v:Value) (w:World):Prop:=if t=te then v=ve else G t v w
def ObE (P:Program) (Q:Exit→Act→World→Prop) (R:World→World→Prop) (GR G:Tmp→Value→World→Prop) (w0:World) (g:Option (Tmp×Bool)) (o:Oper):Prop:=
 ∀(a:Act) (w:World),R w0 w→(∀t∈looks g o,Knows GR a w t)→
  ∀K:Act→World→Prop,(∀v w',R w w'→Gd G o.dst v w'→K (a.put o.dst v) w')→
   match g with
   | none=>o.wp P a w K Q
   | some (t,b)=>if says b a.tmps[t]? = true then o.wp P a w K Q else K (a.put o.dst undef) w
inductive ObsE (P:Program) (Q:Exit→Act→World→Prop) (R:World→World→Prop) (GR G:Tmp→Value→World→Prop) (w0:World) (ops:Array Oper):List Oper→Prop
 | nil:ObsE P Q R GR G w0 ops []
 | cons {o:Oper} {l:List Oper} (g:Option (Tmp×Bool)) (hg:gSlot ops o=g) (h:ObE P Q R GR G w0 g o) (hs:ObsE P Q R GR G w0 ops l):ObsE P Q R GR G w0 ops (o::l)
theorem ObE.plain {P:Program} {Q:Exit→Act→World→Prop} {R:World→World→Prop} {GR G:Tmp→Value→World→Prop} {w0:World} {o:Oper}
  (h:∀(a:Act) (w:World),R w0 w→(∀t∈looks none o,Knows GR a w t)→∀K:Act→World→Prop,(∀v w',R w w'→Gd G o.dst v w'→K (a.put o.dst v) w')→o.wp P a w K Q):ObE P Q R GR G w0 none o:=h
/-- As regOk, but te may be read ahead of its writer, if the writer leans on each reader by an edge of its own. -/
def regOkE (ops:Array Oper) (ds:List Tmp) (te:Tmp):Bool:=
 (dstsOf ops.toList==ds)&&decide ds.Nodup &&
 ((List.range ops.size).all fun i=>match ops[i]? with
  | none=>true
  | some o=>
   (match o.guard with|none=>true|some _=>(gSlot ops o).isSome) &&
   (o.after.all fun e=>!Region.binds .any e||decide (e.on<i)) &&
   ((looks (gSlot ops o) o).all fun t=>t==te||(!ds.contains t||o.after.any fun e=>Region.binds .any e&&((ops[e.on]?).bind (·.dst)==some t)))) &&
 ((List.range ops.size).all fun j=>match ops[j]? with
  | none=>true
  | some p=>!(p.dst==some te)||((List.range ops.size).all fun i=>match ops[i]? with
   | none=>true
   | some o=>!(looks (gSlot ops o) o).contains te||p.after.any fun e=>Region.binds .any e&&(e.on==i)))
section
variable {P:Program} {ops:Array Oper} {Q:Exit→Act→World→Prop} {R:World→World→Prop} {G:Tmp→Value→World→Prop} {w0:World} {a0:Act} {ds:List Tmp} {te:Tmp} {ve:Value}
theorem regOkE_spec (h:regOkE ops ds te=true):dstsOf ops.toList=ds∧ds.Nodup∧(∀(i:Nat) (o:Oper),ops[i]? = some o→(o.guard.isSome=true→(gSlot ops o).isSome=true)∧(∀e∈o.after,Region.binds .any e=true→e.on<i)∧
   (∀t∈looks (gSlot ops o) o,t∈ds→t≠te→∃e∈o.after,Region.binds .any e=true∧(ops[e.on]?).bind (·.dst)=some t))∧
   ∀(j:Nat) (p:Oper),ops[j]? = some p→p.dst=some te→∀(i:Nat) (o:Oper),ops[i]? = some o→te∈looks (gSlot ops o) o→∃e∈p.after,Region.binds .any e=true∧e.on=i:=by
 unfold regOkE at h
 rw[Bool.and_eq_true,Bool.and_eq_true,Bool.and_eq_true]at h
 obtain⟨⟨⟨h1,h2⟩,h3⟩,h5⟩:=h
 refine⟨by simpa using h1,by simpa using h2,fun i o ho=>?_,fun j p hj hd i o ho ht=>?_⟩
 ·have h4:=List.all_eq_true.1 h3 i (List.mem_range.2 (Array.getElem?_eq_some_iff.1 ho).1)
  rw[ho]at h4
  simp only[Bool.and_eq_true]at h4
  obtain⟨⟨k1,k2⟩,k3⟩:=h4
  refine⟨fun hs=>?_,fun e he hb=>?_,fun t ht hd hne=>?_⟩
  ·cases hg:o.guard with
   | none=>rw[hg]at hs;cases hs
   | some _=>rw[hg]at k1;exact k1
  ·have:=Array.all_eq_true_iff_forall_mem.1 k2 e he
   simp only[hb,Bool.not_true,Bool.false_or,decide_eq_true_eq]at this
   exact this
  ·have:=List.all_eq_true.1 k3 t ht
   simp only[Bool.or_eq_true,Bool.not_eq_true',beq_iff_eq]at this
   rcases this with this|this|this
   ·exact absurd this hne
   ·rw[←List.contains_iff_mem,this]at hd;cases hd
   ·obtain⟨e,he,hb⟩:=Array.any_eq_true'.1 this
    simp only[Bool.and_eq_true,beq_iff_eq]at hb
    exact⟨e,he,hb.1,hb.2⟩
 ·have h6:=List.all_eq_true.1 h5 j (List.mem_range.2 (Array.getElem?_eq_some_iff.1 hj).1)
  rw[hj]at h6
  simp only[hd,beq_self_eq_true,Bool.not_true,Bool.false_or]at h6
  have h7:=List.all_eq_true.1 h6 i (List.mem_range.2 (Array.getElem?_eq_some_iff.1 ho).1)
  rw[ho]at h7
  simp only[List.contains_iff_mem.2 ht,Bool.not_true,Bool.false_or]at h7
  obtain⟨e,he,hb⟩:=Array.any_eq_true'.1 h7
  simp only[Bool.and_eq_true,beq_iff_eq]at hb
  exact⟨e,he,hb.1,hb.2⟩
theorem ObsE.all {GR:Tmp→Value→World→Prop} {l:List Oper} (h:ObsE P Q R GR G w0 ops l):∀o∈l,ObE P Q R GR G w0 (gSlot ops o) o:=by
 induction h with
 | nil=>intro o ho;cases ho
 | cons g hg h hs ih=>
  intro o ho
  rcases List.mem_cons.1 ho with rfl|ho
  ·rw[hg];exact h
  ·exact ih o ho
structure RegInvE (ops:Array Oper) (R:World→World→Prop) (G:Tmp→Value→World→Prop) (w0:World) (a0:Act) (listed:Array Bool) (a:Act) (w:World):Prop where
 len:listed.size=ops.size
 world:R w0 w
 defers:a.defers=a0.defers
 size:a.tmps.size=a0.tmps.size
 same:∀t,(∀(i:Nat) (o:Oper),ops[i]? = some o→o.dst=some t→listed.getD i false=false)→a.tmps[t]? = a0.tmps[t]?
 known:∀(i:Nat) (o:Oper) (t:Tmp),ops[i]? = some o→listed.getD i false=true→o.dst=some t→Knows G a w t
 pre:∀(i:Nat) (o:Oper),ops[i]? = some o→listed.getD i false=true→∀e∈o.after,Region.binds .any e=true→listed.getD e.on false=true
theorem region_goE (hds:dstsOf ops.toList=ds) (hnd:ds.Nodup)
  (hok:∀(i:Nat) (o:Oper),ops[i]? = some o→(o.guard.isSome=true→(gSlot ops o).isSome=true)∧(∀e∈o.after,Region.binds .any e=true→e.on<i)∧
   (∀t∈looks (gSlot ops o) o,t∈ds→t≠te→∃e∈o.after,Region.binds .any e=true∧(ops[e.on]?).bind (·.dst)=some t))
  (hte:∀(j:Nat) (p:Oper),ops[j]? = some p→p.dst=some te→∀(i:Nat) (o:Oper),ops[i]? = some o→te∈looks (gSlot ops o) o→∃e∈p.after,Region.binds .any e=true∧e.on=i) (hve:a0.tmps[te]? = some ve)
  (htrans:∀a b c,R a b→R b c→R a c) (hG:∀t v w w',R w w'→G t v w→G t v w')
  (hsize:∀t∈ds,t<a0.tmps.size)
  (hstart:∀w,R w0 w→∀t∈outsOf ops ds,Knows G a0 w t)
  (hobs:∀o∈ops.toList,ObE P Q R (rdE te ve G) G w0 (gSlot ops o) o)
  (hfin:∀a w,R w0 w→a.defers=a0.defers→a.tmps.size=a0.tmps.size→(∀t,t∉ds→a.tmps[t]? = a0.tmps[t]?)→(∀t∈ds,Knows G a w t)→Q .normal a w) :
  ∀(fuel:Nat) (listed:Array Bool) (a:Act) (w:World),unlisted ops.size listed≤fuel→RegInvE ops R G w0 a0 listed a w→wpAny P .any ops Q fuel listed a w:=by
 have hend:∀(listed:Array Bool) (a:Act) (w:World),Region.ready .any ops listed=[]→RegInvE ops R G w0 a0 listed a w→Q .normal a w:=by
  intro listed a w hr hi
  have hall:∀(i:Nat),i<ops.size→listed.getD i false=true:=by
   intro i
   induction i using Nat.strongRecOn with
   | ind i ih=>
    intro hlt
    refine Decidable.byContradiction fun hne=>?_
    have hmem:i∈Region.ready .any ops listed:=by
     rw[mem_ready]
     refine⟨?_,ops[i],Array.getElem?_eq_getElem hlt,fun e he hb=>?_⟩
     ·have h1:i<listed.size:=by rw[hi.len];exact hlt
      simp [h1]at hne ⊢
      exact hne
     ·have:=(hok i _ (Array.getElem?_eq_getElem hlt)).2.1 e he hb
      exact ih e.on this (by omega)
    rw[hr]at hmem
    cases hmem
  refine hfin a w hi.world hi.defers hi.size (fun t ht=>hi.same t fun i o ho hd=>absurd (mem_ds hds ho hd) ht) (fun t ht=>?_)
  obtain⟨i,o,ho,hd⟩:=of_mem_ds hds ht
  exact hi.known i o t ho (hall i (Array.getElem?_eq_some_iff.1 ho).1) hd
 have hzero:∀(listed:Array Bool),unlisted ops.size listed=0→listed.size=ops.size→Region.ready .any ops listed=[]:=by
  intro listed h0 hlen
  refine List.eq_nil_iff_forall_not_mem.2 fun i hi=>?_
  obtain⟨h1,o,ho,_⟩:=mem_ready.1 hi
  have hlt:=(Array.getElem?_eq_some_iff.1 ho).1
  have:=List.countP_eq_zero.1 h0 i (List.mem_range.2 hlt)
  have h2:i<listed.size:=by omega
  simp [h2]at h1 this
  rw[h1]at this
  cases this
 intro fuel
 induction fuel with
 | zero=>
  intro listed a w hu hi
  have hr:=hzero listed (by omega) hi.len
  exact⟨hr,hend listed a w hr hi⟩
 | succ fuel ih=>
  intro listed a w hu hi
  refine⟨fun hr=>hend listed a w hr hi,fun i hir=>?_⟩
  obtain⟨hun,o,ho,hpre⟩:=mem_ready.1 hir
  obtain⟨hok1,hok2,hok3⟩:=hok i o ho
  have hilt:=(Array.getElem?_eq_some_iff.1 ho).1
  have hilt':i<listed.size:=by rw[hi.len];exact hilt
  have hif:listed.getD i false=false:=by
   simp [hilt']at hun ⊢
   exact hun
  have hkn:∀t∈looks (gSlot ops o) o,Knows (rdE te ve G) a w t:=by
   intro t ht
   by_cases hee:t=te
   ·subst hee
    refine⟨ve,(hi.same t fun j p hj hd=>?_).trans hve,by simp [rdE]⟩
    obtain⟨e,he,hb,hon⟩:=hte j p hj hd i o ho ht
    refine Decidable.byContradiction fun hl=>?_
    have:=hi.pre j p hj (by simpa using hl) e he hb
    rw[hon,hif]at this
    cases this
   refine(?_:Knows G a w t).imp fun v hv=>⟨hv.1,by rw[rdE,if_neg hee];exact hv.2⟩
   by_cases hin:t∈ds
   ·obtain⟨e,he,hb,hd⟩:=hok3 t ht hin hee
    cases hoe:ops[e.on]? with
    | none=>rw[hoe]at hd;cases hd
    | some p=>rw[hoe]at hd;exact hi.known e.on p t hoe (hpre e he hb) hd
   ·obtain⟨v,hv,hg⟩:=hstart w hi.world t (by
     unfold outsOf
     refine List.mem_filter.2 ⟨List.mem_flatMap.2 ⟨o,Array.mem_toList_iff.2 (Array.mem_of_getElem? ho),ht⟩,?_⟩
     simpa using hin)
    exact⟨v,(hi.same t fun j p hj hd=>absurd (mem_ds hds hj hd) hin).trans hv,hg⟩
  have hK:∀v w',R w w'→Gd G o.dst v w'→wpAny P .any ops Q fuel (listed.setIfInBounds i true) (a.put o.dst v) w':=by
   intro v w' hR hg
   refine ih _ _ _ ?_ ⟨by simpa using hi.len,htrans _ _ _ hi.world hR,?_,?_,?_,?_,?_⟩
   ·have:unlisted ops.size (listed.setIfInBounds i true)<unlisted ops.size listed:=by
     refine countP_lt (fun j hj=>?_) _ i (List.mem_range.2 hilt) ?_ ?_
     ·by_cases hji:i=j
      ·subst hji
       simp [hilt']at hj
      ·rw[getD_set_ne false hji]at hj
       exact hj
     ·simp [hilt']at hun ⊢
      exact hun
     ·simp [hilt']
    omega
   ·cases o.dst <;> exact hi.defers
   ·cases o.dst with
    | none=>exact hi.size
    | some d=>simpa [Act.put] using hi.size
   ·intro t ht
    rw[←hi.same t (fun j p hj hd=>by
     have h1:=ht j p hj hd
     by_cases hji:i=j
     ·subst hji;exact hif
     ·rwa [getD_set_ne false hji]at h1)]
    cases hd:o.dst with
    | none=>rfl
    | some d=>
     have:d≠t:=fun e=>by
      have h1:=ht i o ho (e▸hd)
      simp [hilt']at h1
     simp [Act.put,Array.getElem?_setIfInBounds_ne this]
   ·intro j p t hj hl hd
    by_cases hji:i=j
    ·subst hji
     rw[ho]at hj
     cases hj
     rw[hd]at hg ⊢
     refine⟨v,?_,hg⟩
     have hlt:t<a.tmps.size:=by rw[hi.size];exact hsize t (mem_ds hds ho hd)
     simp [Act.put,hlt]
    ·rw[getD_set_ne false hji]at hl
     obtain⟨u,hu1,hu2⟩:=hi.known j p t hj hl hd
     refine⟨u,?_,hG _ _ _ _ hR hu2⟩
     cases hod:o.dst with
     | none=>exact hu1
     | some d=>
      have hdt:d≠t:=fun e=>hji (nodup_dst ops.toList (by rw[hds];exact hnd) i j o p t (by simpa using ho) (by simpa using hj) (e▸hod) hd)
      simp [Act.put,Array.getElem?_setIfInBounds_ne hdt,hu1]
   ·intro j p hj hl e he hb
    by_cases hie:i=e.on
    ·rw[←hie];simp [hilt']
    ·rw[getD_set_ne false hie]
     by_cases hji:i=j
     ·subst hji
      rw[ho]at hj
      cases hj
      exact hpre e he hb
     ·rw[getD_set_ne false hji]at hl
      exact hi.pre j p hj hl e he hb
  have hOb:=hobs o (Array.mem_toList_iff.2 (Array.mem_of_getElem? ho)) a w hi.world hkn _ hK
  unfold wpOp
  simp only[ho]
  rw[wanted_of hok1]
  cases hgs:gSlot ops o with
  | none=>
   rw[hgs]at hOb
   simp only[if_true]
   exact .inl hOb
  | some tb=>
   obtain⟨t,b⟩:=tb
   rw[hgs]at hOb
   simp only at hOb ⊢
   split at hOb
   ·rename_i h;rw[if_pos h];exact .inl hOb
   ·rename_i h;rw[if_neg h];exact hOb
theorem wp_region_early {id:Nat} {l:List Oper} (R:World→World→Prop) (G:Tmp→Value→World→Prop) (ds:List Tmp) (hm:P.follows .mixedOrders=true) (te:Tmp) (ve:Value) (hok:regOkE l.toArray ds te=true) (hve:a0.tmps[te]? = some ve)
  (htrans:∀a b c,R a b→R b c→R a c) (hdrew:R w0 w0.drew) (hG:∀t v w w',R w w'→G t v w→G t v w')
  (hsize:(ds.all fun t=>decide (t<a0.tmps.size))=true) (outs:List Tmp) (houts:outsOf l.toArray ds=outs)
  (hstart:∀w,R w0 w→∀t∈outs,Knows G a0 w t)
  (hobs:ObsE P Q R (rdE te ve G) G w0 l.toArray l)
  (hfin:∀(vals:Tmp→Value) (w:World),R w0 w→(∀t∈ds,G t (vals t) w)→Q .normal ⟨putAll vals ds a0.tmps,a0.defers⟩ w) :
  (Code.region id l.toArray true).wp P Q a0 w0:=by
 obtain⟨h1,h2,h3,h4⟩:=regOkE_spec hok
 subst houts
 have hsz:∀t∈ds,t<a0.tmps.size:=fun t ht=>by simpa using List.all_eq_true.1 hsize t ht
 refine wp_region_any hm (region_goE (R:=R) (G:=G) (w0:=w0) (a0:=a0) (te:=te) (ve:=ve) h1 h2 h3 h4 hve htrans hG hsz hstart (by simpa using hobs.all) ?_ _ _ _ _ ?_ ⟨by simp,hdrew,rfl,rfl,fun _ _=>rfl,fun i o t ho hl hd=>?_,fun i o ho hl e he hb=>?_⟩)
 ·intro a w hR hd hs hsame hkn
  have:=hfin (fun t=>a.tmps.getD t undef) w hR (fun t ht=>by
   obtain⟨v,hv,hg⟩:=hkn t ht
   have:a.tmps.getD t undef=v:=by
    rw[Array.getD_eq_getD_getElem?,hv]
    rfl
   rw[this]
   exact hg)
  have e:a=⟨putAll (fun t=>a.tmps.getD t undef) ds a0.tmps,a0.defers⟩:=by
   obtain⟨tm,df⟩:=a
   simp only at hd hs hsame hkn ⊢
   rw[hd]
   congr 1
   refine Array.ext' ?_
   refine List.ext_getElem? fun t=>?_
   rw[Array.getElem?_toList,Array.getElem?_toList]
   by_cases ht:t∈ds
   ·rw[putAll_in _ ds _ t h2 ht (hsz t ht)]
    obtain⟨v,hv,_⟩:=hkn t ht
    rw[hv,Array.getD_eq_getD_getElem?,hv]
    rfl
   ·rw[putAll_out _ ds _ t ht]
    exact hsame t ht
  rw[e]
  exact this
 ·unfold unlisted
  refine Nat.le_trans List.countP_le_length ?_
  simp
 ·simp [Array.getElem?_replicate]at hl
  split at hl <;> simp at hl
 ·simp [Array.getElem?_replicate]at hl
  split at hl <;> simp at hl
end
/-- The rule by specs, where te is read before it is written. -/
theorem wp_region_specsE {P:Program} {Q:Exit→Act→World→Prop} {w0:World} {a0:Act} {id:Nat} {l:List Oper} (specs:List Spec) (ds outs:List Tmp) (te:Tmp) (ve:Value) (hm:P.follows .mixedOrders=true) (hok:regOkE l.toArray ds te=true) (hve:a0.tmps[te]? = some ve)
  (hsize:(ds.all fun t=>decide (t<a0.tmps.size))=true) (houts:((outsOf l.toArray ds).all fun t=>outs.contains t)=true)
  (hstart:∀t∈outs,Knows (specAt specs) a0 w0 t)
  (hobs:ObsE P Q (Chg fun _=>False) (rdE te ve (specAt specs)) (specAt specs) w0 l.toArray l)
  (hfin:∀(vals:Tmp→Value) (w:World),Chg (fun _=>False) w0 w→(∀t∈ds,specAt specs t (vals t) w)→Q .normal ⟨putAll vals ds a0.tmps,a0.defers⟩ w) :
  (Code.region id l.toArray true).wp P Q a0 w0:=
 wp_region_early (R:=Chg fun _=>False) (G:=specAt specs) (ds:=ds) hm te ve hok hve (fun _ _ _ h k=>h.trans k (fun _ _ h=>h)) R0.drew (fun t v w w' hc h=>specAt_st specs t v w w' hc h) hsize _ rfl
  (fun w hc t ht=>by
   have h1:=List.all_eq_true.1 houts t ht
   obtain⟨v,hv,hg⟩:=hstart t (by simpa using h1)
   exact⟨v,hv,specAt_st specs t v w0 w hc hg⟩)
  hobs hfin
end
section
open Go.RowKit
/-- Till operation n has come up nothing that was there is turned, and it comes behind the first m; then F is so. -/
structure LastW (n m:Nat) (w0:World) (F:World→Prop) (L:Nat→Bool) (w:World):Prop where
 all:L n=true→∀j,j<m→L j=true
 pre:L n=false→Chg (fun _=>False) w0 w
 post:L n=true→F w
theorem LastW.start (n m:Nat) (w0:World) (F:World→Prop) {w:World} (h:Chg (fun _=>False) w0 w):LastW n m w0 F (fun _=>false) w:=⟨fun h=>(by cases h),fun _=>h,fun h=>(by cases h)⟩
theorem LastW.not {n m:Nat} {w0:World} {F:World→Prop} {L:Nat→Bool} {w:World} (h:LastW n m w0 F L w) {j:Nat} (hj:j<m) (hl:L j=false):L n=false:=by
 cases hn:L n with
 | false=>rfl
 | true=>rw[h.all hn j hj]at hl;cases hl
theorem LastW.early {n m:Nat} {w0:World} {F:World→Prop} {L:Nat→Bool} {w:World} (h:LastW n m w0 F L w) {j:Nat} (hj:j<m) (hl:L j=false):Chg (fun _=>False) w0 w:=h.pre (h.not hj hl)
theorem LastW.step {n m:Nat} {w0:World} {F:World→Prop} {L:Nat→Bool} {w w':World} (h:LastW n m w0 F L w) {j:Nat} (hj:j<m∧j≠n) (hl:L j=false) (hc:Chg (fun _=>False) w w'):LastW n m w0 F (upd L j) w':=by
 have hn:=h.not hj.1 hl
 have e:upd L j n=false:=by unfold upd;rw[if_neg (fun e=>hj.2 e.symm)];exact hn
 exact⟨fun h'=>(by rw[e]at h';cases h'),fun _=>(h.pre hn).trans hc (fun _ _ h=>h),fun h'=>(by rw[e]at h';cases h')⟩
theorem LastW.stay {n m:Nat} {w0:World} {F:World→Prop} {L:Nat→Bool} {w:World} (h:LastW n m w0 F L w) {j:Nat} (hj:j≠n):LastW n m w0 F (upd L j) w:=by
 have e:upd L j n=L n:=by unfold upd;rw[if_neg (fun e=>hj e.symm)]
 refine⟨fun h' i hi=>?_,fun h'=>h.pre (by rw[←e];exact h'),fun h'=>h.post (by rw[←e];exact h')⟩
 unfold upd
 split
 ·rfl
 ·exact h.all (by rw[←e];exact h') i hi
theorem LastW.last {n m:Nat} {w0:World} {F:World→Prop} {L:Nat→Bool} {w w':World} (_:LastW n m w0 F L w) (hall:∀j,j<m→L j=true) (hf:F w'):LastW n m w0 F (upd L n) w':=by
 have e:upd L n n=true:=by unfold upd;rw[if_pos rfl]
 refine⟨fun _ i hi=>?_,fun h'=>(by rw[e]at h';cases h'),fun _=>hf⟩
 unfold upd
 split
 ·rfl
 ·exact hall i hi
end
section
open Go.RowKit
/-- Where an operation has come up, those that it leans on have. -/
def ClosedL (ops:Array Oper) (L:Nat→Bool):Prop:=∀(i:Nat) (o:Oper),ops[i]? = some o→L i=true→∀e∈o.after,Region.binds .any e=true→L e.on=true
theorem ClosedL.upd {ops:Array Oper} {L:Nat→Bool} (h:ClosedL ops L) {i:Nat} {o:Oper} (ho:ops[i]? = some o) (he:∀e∈o.after,Region.binds .any e=true→L e.on=true):ClosedL ops (upd L i):=by
 have mono:∀j,L j=true→Proofs.YtkfinhpfdcjoeaaGreat.upd L i j=true:=fun j hj=>by
  unfold Proofs.YtkfinhpfdcjoeaaGreat.upd
  split
  ·rfl
  ·exact hj
 intro j p hp hj e hep hb
 by_cases hji:j=i
 ·subst hji
  rw[ho]at hp
  cases hp
  exact mono _ (he e hep hb)
 ·refine mono _ (h j p hp ?_ e hep hb)
  unfold Proofs.YtkfinhpfdcjoeaaGreat.upd at hj
  rwa [if_neg hji]at hj
def ObD (P:Program) (Q:Exit→Act→World→Prop) (S:World→World→Prop) (W:(Nat→Bool)→World→Prop) (G:Tmp→Value→World→Prop) (ops:Array Oper) (i:Nat) (g:Option (Tmp×Bool)) (o:Oper):Prop:=
 ∀(L:Nat→Bool) (a:Act) (w:World),L i=false→(∀e∈o.after,Region.binds .any e=true→L e.on=true)→ClosedL ops L→W L w→(∀t∈looks g o,Knows G a w t)→
  ∀K:Act→World→Prop,(∀v w',S w w'→W (upd L i) w'→Gd G o.dst v w'→K (a.put o.dst v) w')→
   match g with
   | none=>o.wp P a w K Q
   | some (t,b)=>if says b a.tmps[t]? = true then o.wp P a w K Q else K (a.put o.dst undef) w
inductive ObsD (P:Program) (Q:Exit→Act→World→Prop) (S:World→World→Prop) (W:(Nat→Bool)→World→Prop) (G:Tmp→Value→World→Prop) (ops:Array Oper):Nat→List Oper→Prop
 | nil {n:Nat}:ObsD P Q S W G ops n []
 | cons {n:Nat} {o:Oper} {l:List Oper} (g:Option (Tmp×Bool)) (hg:gSlot ops o=g) (h:ObD P Q S W G ops n g o) (hs:ObsD P Q S W G ops (n+1) l):ObsD P Q S W G ops n (o::l)
theorem ObsD.toL {P:Program} {Q:Exit→Act→World→Prop} {S:World→World→Prop} {W:(Nat→Bool)→World→Prop} {G:Tmp→Value→World→Prop} {ops:Array Oper} {n:Nat} {l:List Oper} (h:ObsD P Q S W G ops n l) :
  (∀(k:Nat) (o:Oper),l[k]? = some o→ops[n+k]? = some o)→ObsL P Q S (fun L w=>ClosedL ops L∧W L w) G ops n l:=by
 induction h with
 | nil=>exact fun _=>ObsL.nil
 | @cons n o l g hg h hs ih=>
  intro hl
  have ho:ops[n]? = some o:=hl 0 o rfl
  refine ObsL.cons g hg ?_ (ih (fun k p hk=>?_))
  ·intro L a w hi he hW hk K hK
   exact h L a w hi he hW.1 hW.2 hk K (fun v w' h1 h2 h3=>hK v w' h1 ⟨hW.1.upd ho he,h2⟩ h3)
  ·rw[show n+1+k=n+(k+1) from by omega]
   exact hl (k+1) p hk
theorem wp_region_stateD {P:Program} {Q:Exit→Act→World→Prop} {id:Nat} {l:List Oper} {w0:World} {a0:Act} (S:World→World→Prop) (W:(Nat→Bool)→World→Prop) (G:Tmp→Value→World→Prop) (ds outs:List Tmp) (hm:P.follows .mixedOrders=true) (hok:regOk l.toArray ds=true)
  (hW:W (fun _=>false) w0.drew) (hG:∀t v w w',S w w'→G t v w→G t v w')
  (hsize:(ds.all fun t=>decide (t<a0.tmps.size))=true) (houts:((outsOf l.toArray ds).all fun t=>outs.contains t)=true)
  (hstart:∀t∈outs,Knows G a0 w0.drew t)
  (hobs:ObsD P Q S W G l.toArray 0 l)
  (hfin:∀(L:Nat→Bool) (vals:Tmp→Value) (w:World),(∀i,i<l.length→L i=true)→W L w→(∀t∈ds,G t (vals t) w)→Q .normal ⟨putAll vals ds a0.tmps,a0.defers⟩ w) :
  (Code.region id l.toArray true).wp P Q a0 w0:=
 wp_region_state S (fun L w=>ClosedL l.toArray L∧W L w) G ds outs hm hok ⟨fun _ _ _ h=>(by cases h),hW⟩ hG hsize houts hstart (hobs.toL (fun k o hk=>by rw[Nat.zero_add];simpa using hk)) (fun L vals w h1 h2 h3=>hfin L vals w h1 h2.2 h3)
theorem ObD.plain {P:Program} {Q:Exit→Act→World→Prop} {S:World→World→Prop} {W:(Nat→Bool)→World→Prop} {G:Tmp→Value→World→Prop} {ops:Array Oper} {i:Nat} {o:Oper}
  (h:∀(L:Nat→Bool) (a:Act) (w:World),L i=false→(∀e∈o.after,Region.binds .any e=true→L e.on=true)→ClosedL ops L→W L w→(∀t∈looks none o,Knows G a w t)→
   ∀K:Act→World→Prop,(∀v w',S w w'→W (upd L i) w'→Gd G o.dst v w'→K (a.put o.dst v) w')→o.wp P a w K Q):ObD P Q S W G ops i none o:=h
/-- Does each operation ahead of n have one behind it, up to n? -/
def behindOk (ops:Array Oper) (n:Nat):Bool:=
 (List.range n).all fun j=>(List.range (n+1)).any fun i=>decide (j<i)&&match ops[i]? with
  | none=>false
  | some o=>o.after.any fun e=>Region.binds .any e&&e.on==j
theorem behind_all {ops:Array Oper} {L:Nat→Bool} {n:Nat} {o:Oper} (hc:ClosedL ops L) (ho:ops[n]? = some o) (he:∀e∈o.after,Region.binds .any e=true→L e.on=true) (hb:behindOk ops n=true):∀j,j<n→L j=true:=by
 have key:∀d j,n-j≤d→j<n→L j=true:=by
  intro d
  induction d with
  | zero=>intro j h1 h2;omega
  | succ d ih=>
   intro j h1 h2
   have h3:=List.all_eq_true.1 hb j (List.mem_range.2 h2)
   obtain⟨i,hi,h4⟩:=List.any_eq_true.1 h3
   simp only[Bool.and_eq_true,decide_eq_true_eq]at h4
   obtain⟨hji,h5⟩:=h4
   have hin:i≤n:=by have:=List.mem_range.1 hi;omega
   cases hop:ops[i]? with
   | none=>rw[hop]at h5;cases h5
   | some p=>
    rw[hop]at h5
    simp only[Array.any_eq_true,Bool.and_eq_true,beq_iff_eq]at h5
    obtain⟨q,hq,h6,h7⟩:=h5
    have hm:p.after[q]∈p.after:=Array.getElem_mem hq
    rw[←h7]
    by_cases e:i=n
    ·subst e
     rw[ho]at hop
     cases hop
     exact he _ hm h6
    ·exact hc i p hop (ih i (by omega) (by omega)) _ hm h6
 exact fun j hj=>key (n-j) j (Nat.le_refl _) hj
end
section
open Go.RowKit
def fmgSpecs (X m:Nat) (ao2:Option Addr) (cp2:Nat) (g:FmB):List Spec:=[.any,.any,.any,.eq (.int .i64 (m+greatF g:Nat)),.any,.eq (.pointer (some ⟨X,0,none⟩)),.any,.any,.any,.any,.any,.any,.eq (.int .i64 (m:Nat)),.eq (.pointer (some ⟨X,2,none⟩)),.eq (.pointer (some ⟨X,2,none⟩)),.eq (.string ⟨g.r.1.toArray⟩),.eq (.int .i64 (g.r.1.length:Nat)),.eq (.pointer (some ⟨X,2,none⟩)),.eq (.pointer (some ⟨X,3,none⟩)),.eq (.string ⟨g.r.2.toArray⟩),.eq (.int .i64 (g.r.2.length:Nat)),.eq (.int .i64 (g.r.1.length+g.r.2.length:Nat)),.eq (.int .i64 ((g.r.1.length+g.r.2.length) / 16:Nat)),.eq (.int .i64 (1+(g.r.1.length+g.r.2.length) / 16:Nat)),.eq (.pointer (some ⟨X,4,none⟩)),.eq (.slice ao2 g.kids.length cp2),.eq (.int .i64 (greatL g.kids:Nat)),.eq (.int .i64 (greatF g:Nat)),.eq (.int .i64 (m+greatF g:Nat)),.any,.any]
theorem greatL_len (l:List FmB):l.length≤greatL l:=by
 induction l with
 | nil=>simp
 | cons x l ih=>rw[greatL,List.length_cons,greatF_eq];omega
theorem greatL_take (l:List FmB) (j:Nat):greatL (l.take j)≤greatL l:=by
 induction l generalizing j with
 | nil=>simp [greatL]
 | cons x l ih=>
  cases j with
  | zero=>simp [greatL]
  | succ j=>rw[List.take_succ_cons,greatL,greatL];have:=ih j;omega
theorem div16 (a b:Nat) (h:a+b≤9223372036854775807):IntKind.i64.wrap (Int.tdiv ((a+b:Nat):Int) 16)=(((a+b) / 16:Nat):Int):=by
 rw[IntKind.wrap_i64,Int.tdiv_eq_ediv_of_nonneg (by omega)]
 omega
set_option maxRecDepth 100000 in
set_option maxHeartbeats 4000000 in
theorem fm_great {D:Nat→Prop}:∀(n:Nat) (ao:Option Addr) (cp:Nat) (ls:List FmB) (w:World),greatL ls≤4503599627370496→FmsAt D w n ao ls→
  Calls Tryz.prog 17 #[.slice ao ls.length cp] w fun e w'=>e = .returned (.int .i64 (greatL ls))∧Chg (fun _=>False) w w':=by
 intro n
 induction n using Nat.strongRecOn with
 | _ n ih=>
 intro ao cp ls w hn h
 have hl:=greatL_len ls
 have HX:=hid h
 have HIN:=hid ih
 clear h ih
 go_enter Tryz.func17,Tryz.ntmps17
 go_wp2
 go_loopw [3,8] (fun n i wr=>∃j m:Nat,j≤ls.length∧i = .int .i64 j∧n = .int .i64 m∧Hid (m=greatL (ls.take j))∧m≤4503599627370496∧Hid (Chg (fun _=>False) w wr)) (fun _ i _=>ls.length-(intOf i).toNat)
 case atStart=>exact⟨0,0,Nat.zero_le _,rfl,rfl,hid (by simp [greatL]),by omega,hid R0⟩
 case round=>
  obtain⟨j,m,hk,rfl,rfl,hm,hml,hc⟩:=hrel
  by_cases hlt:j<ls.length
  ·obtain⟨b,off,hao,_,hat⟩:=(HX.out.keep hc.out (fun _ _=>id)) j hlt
   obtain⟨d,ao2,cp2,hd,⟨a0,a1,a2,a3,a4⟩,hok,hz2,hkids⟩:=hat.open_
   have htk:greatL (ls.take (j+1))=greatL (ls.take j)+greatF ls[j]:=by rw[List.take_succ_eq_append_getElem hlt,greatL_snoc]
   have hle:=greatL_take ls (j+1)
   have HNX:Hid (m+greatF ls[j]=greatL (ls.take (j+1))):=hid (by rw[htk,hm.out])
   have hsz:m+greatF ls[j]≤4503599627370496:=by rw[HNX.out];omega
   have hge:=greatF_eq ls[j]
   have HKL:=hid hlt
   clear htk hle hm
   generalize ls[j]=g at *
   have HB:Hid (1+(g.r.1.length+g.r.2.length) / 16+greatL g.kids≤4503599627370496):=hid (by omega)
   have HB2:=hid hsz
   have hSb:(wr.alloc (.cells #[.int .i64 g.op,.int .i64 g.k,.string ⟨g.r.1.toArray⟩,.string ⟨g.r.2.toArray⟩,.slice ao2 g.kids.length cp2] 46)).heap[wr.heap.size]? = some (.cells #[.int .i64 g.op,.int .i64 g.k,.string ⟨g.r.1.toArray⟩,.string ⟨g.r.2.toArray⟩,.slice ao2 g.kids.length cp2] 46 (0,0)):=heap_alloc_new wr _
   have hcA:=alc wr (.cells #[.int .i64 g.op,.int .i64 g.k,.string ⟨g.r.1.toArray⟩,.string ⟨g.r.2.toArray⟩,.slice ao2 g.kids.length cp2] 46)
   have HT:=hid hSb
   have HC2:=hid (hc.out.trans hcA (fun _ _ h=>h))
   have HOK:Hid (g.r.1.length+g.r.2.length≤9223372036854775807):=hid (by omega)
   have HIH:Hid (∀w2,Chg (fun _=>False) (wr.alloc (.cells #[.int .i64 g.op,.int .i64 g.k,.string ⟨g.r.1.toArray⟩,.string ⟨g.r.2.toArray⟩,.slice ao2 g.kids.length cp2] 46)) w2→Calls Tryz.prog 17 #[.slice ao2 g.kids.length cp2] w2 fun e w'=>e = .returned (.int .i64 (greatL g.kids))∧Chg (fun _=>False) w2 w'):=hid (fun w2 hc2=>HIN.out d hd ao2 cp2 g.kids w2 (by omega) (hkids.keep (hcA.trans hc2 (fun _ _ h=>h)) (fun _ _=>id)))
   clear hSb hcA hc hok hkids hge hsz hd hat
   subst hao
   go_wp2_with fail
   clear a0 a1 a2 a3 a4
   generalize (wr.alloc (.cells #[.int .i64 g.op,.int .i64 g.k,.string ⟨g.r.1.toArray⟩,.string ⟨g.r.2.toArray⟩,.slice ao2 g.kids.length cp2] 46))=w3 at *
   generalize wr.heap.size=X at *
   refine wp_region_specsE (fmgSpecs X m ao2 cp2 g) [12,13,14,15,16,17,18,19,20,21,22,23,24,25,26,27,28,3] [5] 3 (.int .i64 m) (by kernel_rfl) (by kernel_rfl) (by rfl) (by rfl) (by kernel_rfl) ?start ?obs ?fin
   case start=>
    simp only[List.forall_mem_cons];exact⟨⟨_,rfl,rfl⟩,fun _ h=>by cases h⟩
   case obs=>
    refine ObsE.cons none (by kernel_rfl) ?_ ?_
    ·refine ObE.plain fun a w hR hk K k9=>?_
     obtain⟨_,e3,f3⟩:=hk 3 (by decide)
     clear hk
     go_simp
     exact k9 _ _ R0 f3
    refine ObsE.cons none (by kernel_rfl) ?_ ?_
    ·refine ObE.plain fun a w hR hk K k9=>?_
     obtain⟨_,e5,rfl⟩:=hk 5 (by decide)
     clear hk
     go_simp
     exact k9 _ _ R0 rfl
    refine ObsE.cons none (by kernel_rfl) ?_ ?_
    ·refine ObE.plain fun a w hR hk K k9=>?_
     obtain⟨_,e13,rfl⟩:=hk 13 (by decide)
     clear hk
     go_simp
     exact k9 _ _ R0 rfl
    refine ObsE.cons none (by kernel_rfl) ?_ ?_
    ·refine ObE.plain fun a w hR hk K k9=>?_
     obtain⟨_,e14,rfl⟩:=hk 14 (by decide)
     clear hk
     have hb:=bE HT.out hR id
     have a2:w.cell? ⟨X,2,none⟩=some (.string ⟨g.r.1.toArray⟩):=bC hb 2
     have a3:w.cell? ⟨X,3,none⟩=some (.string ⟨g.r.2.toArray⟩):=bC hb 3
     have a4:w.cell? ⟨X,4,none⟩=some (.slice ao2 g.kids.length cp2):=bC hb 4
     clear hb hR
     go_simp
     exact k9 _ _ R0 rfl
    refine ObsE.cons none (by kernel_rfl) ?_ ?_
    ·refine ObE.plain fun a w hR hk K k9=>?_
     obtain⟨_,e15,rfl⟩:=hk 15 (by decide)
     clear hk
     go_simp
     exact k9 _ _ R0 rfl
    refine ObsE.cons none (by kernel_rfl) ?_ ?_
    ·refine ObE.plain fun a w hR hk K k9=>?_
     obtain⟨_,e5,rfl⟩:=hk 5 (by decide)
     clear hk
     go_simp
     exact k9 _ _ R0 rfl
    refine ObsE.cons none (by kernel_rfl) ?_ ?_
    ·refine ObE.plain fun a w hR hk K k9=>?_
     obtain⟨_,e17,rfl⟩:=hk 17 (by decide)
     clear hk
     go_simp
     exact k9 _ _ R0 rfl
    refine ObsE.cons none (by kernel_rfl) ?_ ?_
    ·refine ObE.plain fun a w hR hk K k9=>?_
     obtain⟨_,e18,rfl⟩:=hk 18 (by decide)
     clear hk
     have hb:=bE HT.out hR id
     have a2:w.cell? ⟨X,2,none⟩=some (.string ⟨g.r.1.toArray⟩):=bC hb 2
     have a3:w.cell? ⟨X,3,none⟩=some (.string ⟨g.r.2.toArray⟩):=bC hb 3
     have a4:w.cell? ⟨X,4,none⟩=some (.slice ao2 g.kids.length cp2):=bC hb 4
     clear hb hR
     go_simp
     exact k9 _ _ R0 rfl
    refine ObsE.cons none (by kernel_rfl) ?_ ?_
    ·refine ObE.plain fun a w hR hk K k9=>?_
     obtain⟨_,e19,rfl⟩:=hk 19 (by decide)
     clear hk
     go_simp
     exact k9 _ _ R0 rfl
    refine ObsE.cons none (by kernel_rfl) ?_ ?_
    ·refine ObE.plain fun a w hR hk K k9=>?_
     obtain⟨_,e16,rfl⟩:=hk 16 (by decide)
     obtain⟨_,e20,rfl⟩:=hk 20 (by decide)
     clear hk
     have e1:IntKind.i64.wrap (((g.r.1.length:Nat):Int)+((g.r.2.length:Nat):Int))=((g.r.1.length+g.r.2.length:Nat):Int):=by rw[IntKind.wrap_i64];have:=HB.out;omega
     go_simp
     exact k9 _ _ R0 (by first|rfl|(show Value.int _ _=Value.int _ _;first|exact congrArg _ e1|(simp only[Int.natCast_add]at e1 ⊢;first|exact congrArg _ e1|rw[e1])))
    refine ObsE.cons none (by kernel_rfl) ?_ ?_
    ·refine ObE.plain fun a w hR hk K k9=>?_
     obtain⟨_,e21,rfl⟩:=hk 21 (by decide)
     clear hk
     have e1:=div16 g.r.1.length g.r.2.length (by have:=HOK.out;omega)
     go_simp
     exact k9 _ _ R0 (by first|rfl|(show Value.int _ _=Value.int _ _;first|exact congrArg _ e1|(simp only[Int.natCast_add]at e1 ⊢;first|exact congrArg _ e1|rw[e1])))
    refine ObsE.cons none (by kernel_rfl) ?_ ?_
    ·refine ObE.plain fun a w hR hk K k9=>?_
     obtain⟨_,e22,rfl⟩:=hk 22 (by decide)
     clear hk
     have e1:IntKind.i64.wrap (1+(((g.r.1.length+g.r.2.length) / 16:Nat):Int))=((1+(g.r.1.length+g.r.2.length) / 16:Nat):Int):=by rw[IntKind.wrap_i64];have:=HB.out;omega
     go_simp
     exact k9 _ _ R0 (by first|rfl|(show Value.int _ _=Value.int _ _;first|exact congrArg _ e1|(simp only[Int.natCast_add]at e1 ⊢;first|exact congrArg _ e1|rw[e1])))
    refine ObsE.cons none (by kernel_rfl) ?_ ?_
    ·refine ObE.plain fun a w hR hk K k9=>?_
     obtain⟨_,e5,rfl⟩:=hk 5 (by decide)
     clear hk
     go_simp
     exact k9 _ _ R0 rfl
    refine ObsE.cons none (by kernel_rfl) ?_ ?_
    ·refine ObE.plain fun a w hR hk K k9=>?_
     obtain⟨_,e24,rfl⟩:=hk 24 (by decide)
     clear hk
     have hb:=bE HT.out hR id
     have a2:w.cell? ⟨X,2,none⟩=some (.string ⟨g.r.1.toArray⟩):=bC hb 2
     have a3:w.cell? ⟨X,3,none⟩=some (.string ⟨g.r.2.toArray⟩):=bC hb 3
     have a4:w.cell? ⟨X,4,none⟩=some (.slice ao2 g.kids.length cp2):=bC hb 4
     clear hb hR
     go_simp
     exact k9 _ _ R0 rfl
    refine ObsE.cons none (by kernel_rfl) ?_ ?_
    ·refine ObE.plain fun a w hR hk K k9=>?_
     obtain⟨_,e25,rfl⟩:=hk 25 (by decide)
     clear hk
     have hq:=HIH.out w hR
     clear hR
     go_simp
     refine hq.mono ?_
     rintro e w2 ⟨rfl,hc⟩
     exact k9 _ _ hc rfl
    refine ObsE.cons none (by kernel_rfl) ?_ ?_
    ·refine ObE.plain fun a w hR hk K k9=>?_
     obtain⟨_,e23,rfl⟩:=hk 23 (by decide)
     obtain⟨_,e26,rfl⟩:=hk 26 (by decide)
     clear hk
     have e1:IntKind.i64.wrap (((1+(g.r.1.length+g.r.2.length) / 16:Nat):Int)+((greatL g.kids:Nat):Int))=((greatF g:Nat):Int):=by rw[IntKind.wrap_i64,greatF_eq];have:=HB.out;omega
     go_simp
     exact k9 _ _ R0 (by first|rfl|(show Value.int _ _=Value.int _ _;first|exact congrArg _ e1|(simp only[Int.natCast_add]at e1 ⊢;first|exact congrArg _ e1|rw[e1])))
    refine ObsE.cons none (by kernel_rfl) ?_ ?_
    ·refine ObE.plain fun a w hR hk K k9=>?_
     obtain⟨_,e12,rfl⟩:=hk 12 (by decide)
     obtain⟨_,e27,rfl⟩:=hk 27 (by decide)
     clear hk
     have e1:IntKind.i64.wrap ((m:Int)+((greatF g:Nat):Int))=((m+greatF g:Nat):Int):=by rw[IntKind.wrap_i64];have:=HB2.out;omega
     go_simp
     exact k9 _ _ R0 (by first|rfl|(show Value.int _ _=Value.int _ _;first|exact congrArg _ e1|(simp only[Int.natCast_add]at e1 ⊢;first|exact congrArg _ e1|rw[e1])))
    refine ObsE.cons none (by kernel_rfl) ?_ ?_
    ·refine ObE.plain fun a w hR hk K k9=>?_
     obtain⟨_,e28,f28⟩:=hk 28 (by decide)
     clear hk
     go_simp
     exact k9 _ _ R0 f28
    exact ObsE.nil
   case fin=>
    intro vals w9 hc9 hv
    have h3:vals 3 = .int .i64 (m+greatF g:Nat):=hv 3 (by decide)
    have HC9:=hid (HC2.out.trans hc9 (fun _ _ h=>h))
    simp only[putAll,List.setIfInBounds_toArray,List.set_cons_zero,List.set_cons_succ,h3]
    clear hv h3 hc9
    go_wp2
    go_roundw
    case rel=>exact⟨j+1,m+greatF g,by have:=HKL.out;omega,by go_num,rfl,HNX,HB2.out,HC9⟩
    case measure=>have:=HKL.out;simp [intOf];omega
  ·have hk2:j=ls.length:=by omega
   have hx:m=greatL ls:=by have:=hm.out;rwa [hk2,List.take_length]at this
   subst hx
   clear hm
   go_wp2
   go_ret
   exact⟨rfl,hc.out⟩
end
end Go.Proofs.YtkfinhpfdcjoeaaGreat
