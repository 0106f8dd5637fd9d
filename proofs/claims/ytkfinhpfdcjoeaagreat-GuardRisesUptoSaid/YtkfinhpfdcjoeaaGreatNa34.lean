/- Texts that the proof leans on, in one: PmMap, PmKeys, PmMath. -/
import Derived.Test.YtkfinhpfdcjoeaaGreatNa3
import Derived.Test.YtkfinhpfdcjoeaaGreatNa13
import Derived.Maps.OwnSet
import Derived.Maps.RangeWalk
import Derived.WalkSpells
import Derived.Test.YtkfinhpfdcjoeaaGreatNa25
import Derived.DeepKeys4
import Derived.Test.YtkfinhpfdcjoeaaGreatNa11
import Derived.Test.YtkfinhpfdcjoeaaGreatNa7
/- Maps and sets of the model, as they lie in memory: whatever the kind of their keys. -/
namespace Go.Proofs.YtkfinhpfdcjoeaaGreat
section
open Go.RowKit Go.Maps Go.ChangeMaps Go.WideMaps
/-- A kind of keys. -/
structure KT (α:Type) where
 ty:TypeId
 val:α→Value
 lit:α→Lit
 ok:α→Prop
 keyed:Keyed Tryz.prog ty
 isKey:∀a,WideAt.IsKeyLit (lit a)
 reads:∀a,ok a→Go.keyOf Tryz.prog ty (val a)=some (lit a)
 inj:∀a b,val a=val b→a=b
variable {α:Type} {β:Type}
theorem KT.lit_inj (k:KT α) {a b:α} (ha:k.ok a) (hb:k.ok b) (h:k.lit a=k.lit b):a=b:=
 k.inj _ _ (k.keyed.inj (k.reads a ha) (h▸k.reads b hb))
/-- An element stands for itself. -/
def heldElem (v:Value):Option (DataW Value×List MemPlace):=some (.held v,[])
/-- The map in the block mb, which reads as M, has the keys ks. -/
structure KM (k:KT α) (R:Value→Option (DataW Value×List MemPlace)) (w:World) (mb:Nat) (ks:List α) (M:DataW Value):Prop where
 own:w.ownsMap Tryz.prog k.ty R mb ks.length M
 has:∀a,k.ok a→(Maps.has M (k.lit a)=true↔a∈ks)
 of:∀kl,Maps.has M kl=true→∃a∈ks,kl=k.lit a
 nd:ks.Nodup
 ok:∀a∈ks,k.ok a
section
variable {k:KT α} {R:Value→Option (DataW Value×List MemPlace)} {w:World} {mb:Nat} {ks:List α} {M:DataW Value}
theorem owns_keep {S:Nat→Prop} {w w':World} {ty:TypeId} {mb n:Nat} {M:DataW Value} (h:w.ownsMap Tryz.prog ty R mb n M) (hc:Chg S w w') (hs:¬S mb):w'.ownsMap Tryz.prog ty R mb n M:=by
 obtain⟨es,clock,hb,r⟩:=h
 exact⟨es,clock,bE hb hc hs,r⟩
theorem KM.keep {S:Nat→Prop} {w':World} (h:KM k R w mb ks M) (hc:Chg S w w') (hs:¬S mb):KM k R w' mb ks M:=
 ⟨owns_keep h.own hc hs,h.has,h.of,h.nd,h.ok⟩
theorem KM.lt (h:KM k R w mb ks M):mb<w.heap.size:=h.own.lt
theorem KM.has_eq [DecidableEq α] (h:KM k R w mb ks M) {a:α} (ha:k.ok a):Maps.has M (k.lit a)=decide (a∈ks):=by
 have:=h.has a ha
 by_cases e:a∈ks
 ·rw[this.2 e];simp [e]
 ·cases hh:Maps.has M (k.lit a) with
  | false=>simp [e]
  | true=>exact absurd (this.1 hh) e
theorem km_made (k:KT α) (R:Value→Option (DataW Value×List MemPlace)) (w:World):KM k R (w.alloc (.map #[] 0)) w.heap.size [] (.map []):=
 ⟨World.ownsMap_made w _ _ _,fun a _=>⟨fun h=>(by simp [Maps.has]at h),fun h=>(by cases h)⟩,fun kl h=>(by simp [Maps.has]at h),List.nodup_nil,fun _ h=>(by cases h)⟩
/-- A key that is new. -/
theorem KM.add [DecidableEq α] {t e:TypeId} (h:KM k R w mb ks M) (ht:Tryz.prog.underlying t=some (.map k.ty e)) (hn:ks.length<9223372036854775807) {a:α} (ha:k.ok a) (hno:a∉ks) {val:Value} {d:DataW Value} {ps:List MemPlace} (hv:R val=some (d,ps)) :
  ∃w',(Instr.mapUpdate t (.map (some mb)) (k.val a) val).run Tryz.prog w = .ok () w'∧KM k R w' mb (ks++[a]) (M.put (k.lit a) d)∧Chg (· = mb) w w':=by
 obtain⟨w',hrun,hown,hg⟩:=h.own.update k.keyed ht (by unfold maxLen;omega) (k.reads a ha) hv
 have hM:=h.own.isMap
 refine⟨w',hrun,⟨by rw[List.length_append];exact hown,fun b hb=>?_,fun kl hkl=>?_,?_,?_⟩,(Chg.refl (· = mb) w).grown ⟨hg,run_drawn _ _ _ _ _ hrun⟩ (fun k hk _=>by simpa using hk.symm)⟩
 ·by_cases e:b=a
  ·subst e
   rw[Maps.has_put_same hM (k.isKey _)]
   simp
  ·rw[Maps.has_put_other (fun e'=>e (k.lit_inj hb ha e')),h.has b hb]
   simp [e]
 ·by_cases e:kl=k.lit a
  ·exact⟨a,by simp,e⟩
  ·rw[Maps.has_put_other e]at hkl
   obtain⟨b,hb,e⟩:=h.of kl hkl
   exact⟨b,by simp [hb],e⟩
 ·rw[List.nodup_append]
  refine⟨h.nd,by simp,fun x hx y hy e=>?_⟩
  simp at hy
  subst hy
  subst e
  exact hno hx
 ·intro x hx
  rcases List.mem_append.1 hx with hx|hx
  ·exact h.ok x hx
  ·simp at hx;subst hx;exact ha
end
/-- A set. -/
def SMap (k:KT α) (w:World) (mb:Nat) (l:List α):Prop:=∃M,KM k unitElem w mb l M
section
variable {k:KT α} {w:World} {mb:Nat} {l:List α}
theorem SMap.keep {S:Nat→Prop} {w':World} (h:SMap k w mb l) (hc:Chg S w w') (hs:¬S mb):SMap k w' mb l:=let ⟨M,h⟩:=h;⟨M,h.keep hc hs⟩
theorem SMap.lt (h:SMap k w mb l):mb<w.heap.size:=let ⟨_,h⟩:=h;h.lt
theorem SMap.nd (h:SMap k w mb l):l.Nodup:=let ⟨_,h⟩:=h;h.nd
theorem SMap.ok (h:SMap k w mb l):∀a∈l,k.ok a:=let ⟨_,h⟩:=h;h.ok
theorem smap_made (k:KT α) (w:World):SMap k (w.alloc (.map #[] 0)) w.heap.size []:=⟨_,km_made k _ w⟩
theorem SMap.look [DecidableEq α] {t e:TypeId} (h:SMap k w mb l) (ht:Tryz.prog.underlying t=some (.map k.ty e)) (hz:(zeroValue e).run Tryz.prog w = .ok (.agg #[]) w) {a:α} (ha:k.ok a) :
  (Instr.lookup t (.map (some mb)) (k.val a) true).run Tryz.prog w = .ok (.tuple #[.agg #[],.bool (decide (a∈l))]) w:=by
 obtain⟨M,h⟩:=h
 obtain⟨v,ps,hrun,hv⟩:=h.own.look_ok k.keyed ht hz unitElem_mk (k.reads a ha)
 rw[hrun,h.has_eq ha,(unitElem_inv hv).1]
theorem SMap.add [DecidableEq α] {t e:TypeId} (h:SMap k w mb l) (ht:Tryz.prog.underlying t=some (.map k.ty e)) (hn:l.length<9223372036854775807) {a:α} (ha:k.ok a) (hno:a∉l) :
  ∃w',(Instr.mapUpdate t (.map (some mb)) (k.val a) (.agg #[])).run Tryz.prog w = .ok () w'∧SMap k w' mb (l++[a])∧Chg (· = mb) w w':=by
 obtain⟨M,h⟩:=h
 obtain⟨w',h1,h2,h3⟩:=h.add ht hn ha hno unitElem_mk
 exact⟨w',h1,⟨_,h2⟩,h3⟩
end
/-- A map to maps: the keys, and the blocks of the maps that lie there. -/
structure OMap (k:KT α) (w:World) (mb:Nat) (l:List (α×Nat)):Prop where
 ex:∃M,KM k heldElem w mb (l.map (·.1)) M∧∀p∈l,∀z,M.atKey (k.lit p.1) z = .held (.map (some p.2))
section
variable {k:KT α} {w:World} {mb:Nat} {l:List (α×Nat)}
theorem OMap.keep {S:Nat→Prop} {w':World} (h:OMap k w mb l) (hc:Chg S w w') (hs:¬S mb):OMap k w' mb l:=let ⟨⟨M,h,h2⟩⟩:=h;⟨M,h.keep hc hs,h2⟩
theorem OMap.nd (h:OMap k w mb l):(l.map (·.1)).Nodup:=let ⟨⟨_,h,_⟩⟩:=h;h.nd
theorem omap_made (k:KT α) (w:World):OMap k (w.alloc (.map #[] 0)) w.heap.size []:=⟨_,km_made k _ w,fun _ h=>(by cases h)⟩
/-- The map that lies at a key, if one does. -/
def subOf [DecidableEq α] (l:List (α×Nat)) (a:α):Option Nat:=(l.find? (fun p=>decide (p.1=a))).map (·.2)
theorem subOf_some [DecidableEq α] {l:List (α×Nat)} {a:α} {b:Nat} (h:subOf l a=some b):(a,b)∈l:=by
 unfold subOf at h
 rw[Option.map_eq_some_iff]at h
 obtain⟨p,hp,rfl⟩:=h
 have h1:=List.mem_of_find?_eq_some hp
 have h2:=List.find?_some hp
 simp at h2
 subst h2
 exact h1
theorem subOf_mem [DecidableEq α] {l:List (α×Nat)} (hn:(l.map (·.1)).Nodup) {a:α} {b:Nat} (h:(a,b)∈l):subOf l a=some b:=by
 cases hs:subOf l a with
 | none=>
  unfold subOf at hs
  rw[Option.map_eq_none_iff,List.find?_eq_none]at hs
  exact absurd (hs _ h) (by simp)
 | some c=>
  have h2:=subOf_some hs
  have:∀(l:List (α×Nat)),(l.map (·.1)).Nodup→(a,b)∈l→(a,c)∈l→b=c:=by
   intro l
   induction l with
   | nil=>intro _ h;cases h
   | cons x l ih=>
    intro hn h1 h2
    rw[List.map_cons,List.nodup_cons]at hn
    rcases List.mem_cons.1 h1 with e1|h1
    ·rcases List.mem_cons.1 h2 with e2|h2
     ·rw[←e1]at e2;exact(Prod.mk.inj e2).2.symm
     ·exact absurd (List.mem_map.2 ⟨_,h2,by rw[←e1]⟩) hn.1
    ·rcases List.mem_cons.1 h2 with e2|h2
     ·exact absurd (List.mem_map.2 ⟨_,h1,by rw[←e2]⟩) hn.1
     ·exact ih hn.2 h1 h2
  rw[this l hn h h2]
theorem OMap.look [DecidableEq α] {t e:TypeId} (h:OMap k w mb l) (ht:Tryz.prog.underlying t=some (.map k.ty e)) (hz:(zeroValue e).run Tryz.prog w = .ok (.map none) w) {a:α} (ha:k.ok a) :
  (Instr.lookup t (.map (some mb)) (k.val a) false).run Tryz.prog w = .ok (.map (subOf l a)) w:=by
 have hnd:=h.nd
 obtain⟨M,h,h2⟩:=h
 obtain⟨v,ps,hrun,hv⟩:=h.own.lookup k.keyed ht hz (R:=heldElem) rfl (k.reads a ha)
 cases hs:subOf l a with
 | some b=>
  have hm:=subOf_some hs
  rw[h2 _ hm]at hv
  simp only[heldElem,Option.some.injEq,Prod.mk.injEq,DataW.held.injEq]at hv
  rw[hrun,hv.1]
 | none=>
  have hno:Maps.has M (k.lit a)=false:=by
   cases hh:Maps.has M (k.lit a) with
   | false=>rfl
   | true=>
    obtain⟨p,hp,rfl⟩:=List.mem_map.1 ((h.has a ha).1 hh)
    rw[subOf_mem hnd hp]at hs
    cases hs
  rw[Maps.atKey_of_not_has hno]at hv
  simp only[heldElem,Option.some.injEq,Prod.mk.injEq,DataW.held.injEq]at hv
  rw[hrun,hv.1]
theorem OMap.add [DecidableEq α] {t e:TypeId} (h:OMap k w mb l) (ht:Tryz.prog.underlying t=some (.map k.ty e)) (hn:l.length<9223372036854775807) {a:α} (ha:k.ok a) (hno:a∉l.map (·.1)) (b:Nat) :
  ∃w',(Instr.mapUpdate t (.map (some mb)) (k.val a) (.map (some b))).run Tryz.prog w = .ok () w'∧OMap k w' mb (l++[(a,b)])∧Chg (· = mb) w w':=by
 obtain⟨M,h,h2⟩:=h
 obtain⟨w',h4,h5,h3⟩:=h.add (val:=.map (some b)) ht (by rwa [List.length_map]) ha hno rfl
 refine⟨w',h4,⟨_,by rw[List.map_append];exact h5,fun p hp z=>?_⟩,h3⟩
 rcases List.mem_append.1 hp with hp|hp
 ·rw[Maps.atKey_put_other (fun e'=>hno ?_)]
  ·exact h2 p hp z
  ·have hpm:p.1∈l.map (·.1):=List.mem_map_of_mem hp
   have:=k.lit_inj (h.ok _ hpm) ha e'
   rwa [this]at hpm
 ·simp at hp
  subst hp
  exact Maps.atKey_put_same h.own.isMap (k.isKey _) _ _
end
/-- 'range' over a map under way, or over the nil map: what is still to come. -/
def KRange (k:KT α) (R:Value→Option (DataW Value×List MemPlace)) (w:World) (mo:Option Nat) (r:Nat) (rest:List α) (cnt:Nat):Prop:=
 rest.Nodup∧(∀a∈rest,k.ok a)∧
 match mo with
 | none=>rest=[]∧cnt=0∧∃a s b,w.heap[r]? = some (.mapIter none a s b)
 | some mb=>∃M n left,w.ranges Tryz.prog k.ty R mb r n M left cnt∧(∀kl,left kl=true→∃a∈rest,kl=k.lit a)∧(∀a∈rest,left (k.lit a)=true)
def krLeft (w:World) (mo:Option Nat) (r:Nat):Nat:=match mo with|none=>0|some mb=>w.rangeLeft mb r
section
variable {k:KT α} {R:Value→Option (DataW Value×List MemPlace)} {w:World} {mo:Option Nat} {r cnt:Nat} {rest:List α}
theorem KRange.left_eq (h:KRange k R w mo r rest cnt):krLeft w mo r=cnt:=by
 cases mo with
 | none=>exact h.2.2.2.1.symm
 | some mb=>obtain⟨_,_,M,n,left,h1,_⟩:=h;exact h1.left_eq
theorem KRange.lt (h:KRange k R w mo r rest cnt):r<w.heap.size:=by
 cases mo with
 | none=>obtain⟨_,_,_,_,a,s,b,h⟩:=h;exact lt_blk h
 | some mb=>obtain⟨_,_,M,n,left,h1,_⟩:=h;exact h1.lt
theorem KRange.keep {S:Nat→Prop} {w':World} (h:KRange k R w mo r rest cnt) (hc:Chg S w w') (hm:∀mb,mo=some mb→¬S mb) (hr:¬S r):KRange k R w' mo r rest cnt:=by
 refine⟨h.1,h.2.1,?_⟩
 cases mo with
 | none=>obtain⟨_,_,h1,h2,a,s,b,h⟩:=h;exact⟨h1,h2,a,s,b,bE h hc hr⟩
 | some mb=>
  obtain⟨_,_,M,n,left,h1,h2⟩:=h
  obtain⟨es,clock,since,seen,c0,hb,F,hs,hD,hr',rs⟩:=h1
  exact⟨M,n,left,⟨es,clock,since,seen,c0,bE hb hc (hm mb rfl),F,hs,hD,bE hr' hc hr,rs⟩,h2⟩
/-- It begins. -/
theorem KM.range {t e:TypeId} {mb:Nat} {ks:List α} {M:DataW Value} (h:KM k R w mb ks M) (ht:Tryz.prog.underlying t=some (.map k.ty e)) :
  ∃w',(Instr.range t (.map (some mb))).run Tryz.prog w = .ok (.pointer (some ⟨w.heap.size,0,none⟩)) w'∧KRange k R w' (some mb) w.heap.size ks (Maps.size M)∧Chg (fun _=>False) w w'∧w'.heap.size=w.heap.size+1:=by
 obtain⟨w',hrun,hr,hg,hs⟩:=h.own.range k.keyed ht
 exact⟨w',hrun,⟨h.nd,h.ok,M,_,_,hr,h.of,fun a ha=>(h.has a (h.ok a ha)).2 ha⟩,R0.grown ⟨hg,run_drawn _ _ _ _ _ hrun⟩ (fun k hk=>by cases hk),hs⟩
theorem krange_nil (k:KT α) (R:Value→Option (DataW Value×List MemPlace)) (w:World) {t e:TypeId} (ht:Tryz.prog.underlying t=some (.map k.ty e)) :
  ∃w',(Instr.range t (.map none)).run Tryz.prog w = .ok (.pointer (some ⟨w.heap.size,0,none⟩)) w'∧KRange k R w' none w.heap.size [] 0∧Chg (fun _=>False) w w'∧w'.heap.size=w.heap.size+1:=
 ⟨_,run_range_nilMap w t k.ty e ht,⟨List.nodup_nil,fun _ h=>(by cases h),rfl,rfl,_,_,_,heap_alloc_new w _⟩,R0.alloc _,by simp⟩
theorem run_next_nil {w:World} {r a b:Nat} {s:Array Nat} (ty:TypeId) (h:w.heap[r]? = some (.mapIter none a s b)):(Instr.next (.pointer (some ⟨r,0,none⟩)) false ty).run Tryz.prog w = .ok (.tuple #[.bool false]) w:=by
 simp only[Instr.next,getObj,Sem.run_bind,Sem.run,h,Result.andThen]
 rfl
/-- The step. -/
theorem KRange.next [DecidableEq α] (h:KRange k R w mo r rest cnt) (ty:TypeId) :
  (rest=[]∧(Instr.next (.pointer (some ⟨r,0,none⟩)) false ty).run Tryz.prog w = .ok (.tuple #[.bool false]) w)∨
  ∃x c y w' cnt',x∈rest∧R c=some y∧(Instr.next (.pointer (some ⟨r,0,none⟩)) false ty).run Tryz.prog w = .ok (.tuple #[.bool true,k.val x,c]) w'∧KRange k R w' mo r (rest.filter (fun z=>decide (z≠x))) cnt'∧cnt'<cnt∧
   Chg (· = r) w w'∧w'.heap.size=w.heap.size∧(Instr.entry (.pointer (some ⟨r,0,none⟩))).run Tryz.prog w' = .ok (.tuple #[k.val x,c]) w':=by
 cases mo with
 | none=>obtain⟨_,_,h1,h2,a,s,b,h⟩:=h;exact .inl ⟨h1,run_next_nil ty h⟩
 | some mb=>
  obtain⟨hnd,hok,M,n,left,h1,h2,h3⟩:=h
  rcases h1.next k.keyed ty with ⟨h0,hl,hrun⟩|⟨key,v,kl,y,w',cnt',hkey,hlk,hv,hat,hrun,hrg,hlt,hgr,hsz,hen⟩
  ·refine .inl ⟨?_,hrun⟩
   cases rest with
   | nil=>rfl
   | cons a l=>have:=h3 a (by simp);rw[hl]at this;cases this
  ·obtain⟨x,hx,rfl⟩:=h2 kl hlk
   obtain rfl:key=k.val x:=k.keyed.inj hkey (k.reads x (hok x hx))
   refine .inr ⟨x,v,y,w',cnt',hx,hv,hrun,⟨hnd.filter _,fun a ha=>hok a (List.mem_filter.1 ha).1,M,n,_,hrg,fun kl2 hk2=>?_,fun a ha=>?_⟩,hlt,R0.grown ⟨hgr,run_drawn _ _ _ _ _ hrun⟩ (fun k hk _=>by simpa using hk.symm),hsz,hen⟩
   ·simp only[Bool.and_eq_true,Bool.not_eq_true']at hk2
    obtain⟨a,ha,rfl⟩:=h2 kl2 hk2.1
    refine⟨a,List.mem_filter.2 ⟨ha,?_⟩,rfl⟩
    simp only[ne_eq,decide_not,Bool.not_eq_true',decide_eq_false_iff_not]
    rintro rfl
    rw[WideAt.sameKey_self (k.isKey a)]at hk2
    cases hk2.2
   ·have ha':=List.mem_filter.1 ha
    simp only[Bool.and_eq_true,Bool.not_eq_true']
    refine⟨h3 a ha'.1,Maps.sameKey_ne (fun e=>?_)⟩
    have:=k.lit_inj (hok a ha'.1) (hok x hx) e
    simp [this]at ha'
end
/-- The step, at the operation. -/
theorem wpList_next_k [DecidableEq α] (w:World) {ops:Array Oper} {rs:List Oper} {o:Oper} {a:Act} {Q:Exit→Act→World→Prop} (hg:o.guard=none) (it:Operand) (hop:o.op=Op.next it false) (k:KT α) (R:Value→Option (DataW Value×List MemPlace)) (mo:Option Nat) (r:Nat) (rest:List α) (cnt:Nat)
  (hit:a.eval it = .pointer (some ⟨r,0,none⟩)) (h:KRange k R w mo r rest cnt)
  (hDone:rest=[]→wpList Tryz.prog ops Q rs (a.put o.dst (.tuple #[.bool false])) w)
  (hMore:∀(x:α) (c:Value) (y:DataW Value×List MemPlace) (w':World) (cnt':Nat),x∈rest→R c=some y→KRange k R w' mo r (rest.filter (fun z=>decide (z≠x))) cnt'→cnt'<cnt→Chg (· = r) w w'→w'.heap.size=w.heap.size→
   (Instr.entry (.pointer (some ⟨r,0,none⟩))).run Tryz.prog w' = .ok (.tuple #[k.val x,c]) w'→wpList Tryz.prog ops Q rs (a.put o.dst (.tuple #[.bool true,k.val x,c])) w') :
  wpList Tryz.prog ops Q (o::rs) a w:=by
 refine wpList_plain hg fun K' hK'=>?_
 unfold Oper.wp
 rcases h.next o.type with ⟨h0,hrun⟩|⟨x,c,y,w',cnt',hx,hc,hrun,h1,h2,h3,h4,h5⟩
 ·simp [execOp,hop,hit,hrun,Result.andThen]
  exact hK' _ _ (hDone h0)
 ·simp [execOp,hop,hit,hrun,Result.andThen]
  exact hK' _ _ (hMore x c y w' cnt' hx hc h1 h2 h3 h4 h5)
/-- A map to sets: pairs. mb: the map's block; all blocks of it are of O. No set in it has more than n. -/
structure Sets (ko:KT α) (ki:KT β) (O:Nat→Prop) (w:World) (mb n:Nat) (rel:α→β→Prop):Prop where
 ex:∃l:List (α×Nat),OMap ko w mb l∧(∀p∈l,O p.2∧p.2≠mb∧∃xs,SMap ki w p.2 xs∧xs.length≤n∧∀x,x∈xs↔rel p.1 x)∧(l.map (·.2)).Nodup∧(∀a x,rel a x→a∈l.map (·.1))∧l.length≤n
 top:O mb
section
variable {ko:KT α} {ki:KT β} {O:Nat→Prop} {w:World} {mb n:Nat} {rel:α→β→Prop}
theorem Sets.keep {S:Nat→Prop} {w':World} (h:Sets ko ki O w mb n rel) (hc:Chg S w w') (hs:∀i,O i→¬S i):Sets ko ki O w' mb n rel:=by
 obtain⟨⟨l,h1,h2,h3⟩,h4⟩:=h
 exact⟨⟨l,h1.keep hc (hs _ h4),fun p hp=>let ⟨a,b,xs,c,d⟩:=h2 p hp;⟨a,b,xs,c.keep hc (hs _ a),d⟩,h3⟩,h4⟩
theorem Sets.cong {rel':α→β→Prop} (h:Sets ko ki O w mb n rel) (hr:∀a x,rel a x↔rel' a x):Sets ko ki O w mb n rel':=by
 obtain⟨⟨l,h1,h2,h3,h4,h5⟩,h6⟩:=h
 exact⟨⟨l,h1,fun p hp=>let ⟨a,b,xs,c,d,e⟩:=h2 p hp;⟨a,b,xs,c,d,fun x=>(e x).trans (hr _ _)⟩,h3,fun a x hx=>h4 a x ((hr a x).2 hx),h5⟩,h6⟩
theorem Sets.le {n':Nat} (h:Sets ko ki O w mb n rel) (hn:n≤n'):Sets ko ki O w mb n' rel:=by
 obtain⟨⟨l,h1,h2,h3,h4,h5⟩,h6⟩:=h
 exact⟨⟨l,h1,fun p hp=>let ⟨a,b,xs,c,d,e⟩:=h2 p hp;⟨a,b,xs,c,Nat.le_trans d hn,e⟩,h3,h4,Nat.le_trans h5 hn⟩,h6⟩
theorem sets_made (ko:KT α) (ki:KT β) (w:World) {O:Nat→Prop} (hO:O w.heap.size):Sets ko ki O (w.alloc (.map #[] 0)) w.heap.size 0 (fun _ _=>False):=
 ⟨⟨[],omap_made ko w,fun _ h=>(by cases h),List.nodup_nil,fun _ _ h=>h.elim,Nat.le_refl _⟩,hO⟩
/-- What lies at a key. -/
theorem Sets.here [DecidableEq α] {t e:TypeId} (h:Sets ko ki O w mb n rel) (ht:Tryz.prog.underlying t=some (.map ko.ty e)) (hz:∀w,(zeroValue e).run Tryz.prog w = .ok (.map none) w) {a:α} (ha:ko.ok a) :
  (∃b xs,O b∧b≠mb∧SMap ki w b xs∧xs.length≤n∧(∀x,x∈xs↔rel a x)∧∀w',Chg (fun i=>i≠mb) w w'→(Instr.lookup t (.map (some mb)) (ko.val a) false).run Tryz.prog w' = .ok (.map (some b)) w')∨
  ((∀x,¬rel a x)∧∀w',Chg (fun i=>i≠mb) w w'→(Instr.lookup t (.map (some mb)) (ko.val a) false).run Tryz.prog w' = .ok (.map none) w'):=by
 obtain⟨⟨l,h1,h2,h3,h4,h5⟩,h6⟩:=h
 have hl:∀w',Chg (fun i=>i≠mb) w w'→(Instr.lookup t (.map (some mb)) (ko.val a) false).run Tryz.prog w' = .ok (.map (subOf l a)) w':=fun w' hc=>(h1.keep hc (fun e=>e rfl)).look ht (hz w') ha
 cases hs:subOf l a with
 | some b=>
  rw[hs]at hl
  obtain⟨q1,q2,xs,q3,q4,q5⟩:=h2 _ (subOf_some hs)
  exact .inl ⟨b,xs,q1,q2,q3,q4,q5,hl⟩
 | none=>
  rw[hs]at hl
  refine .inr ⟨fun x hx=>?_,hl⟩
  obtain⟨p,hp,rfl⟩:=List.mem_map.1 (h4 a x hx)
  rw[subOf_mem h1.nd (b:=p.2) hp]at hs
  cases hs
/-- A set that is there grows by one. -/
theorem Sets.grow [DecidableEq α] {t e:TypeId} (h:Sets ko ki O w mb n rel) (ht:Tryz.prog.underlying t=some (.map ko.ty e)) (hz:∀w,(zeroValue e).run Tryz.prog w = .ok (.map none) w) {a:α} (ha:ko.ok a) {b:Nat} {w':World} (hb:∀w',Chg (fun i=>i≠mb) w w'→(Instr.lookup t (.map (some mb)) (ko.val a) false).run Tryz.prog w' = .ok (.map (some b)) w')
  {ys:List β} {x:β} (hc:Chg (· = b) w w') (hy:SMap ki w' b ys) (hys:∀z,z∈ys↔(rel a z∨z=x)) (hyn:ys.length≤n+1):Sets ko ki O w' mb (n+1) (fun a' z=>rel a' z∨(a'=a∧z=x)):=by
 obtain⟨⟨l,h1,h2,h3,h4,h5⟩,h6⟩:=h
 have hl:=hb w R0
 rw[h1.look ht (hz w) ha]at hl
 have hs:subOf l a=some b:=by simpa using hl
 have hm:=subOf_some hs
 obtain⟨_,hbm,_⟩:=h2 _ hm
 refine⟨⟨l,h1.keep hc (fun e=>hbm e.symm),fun p hp=>?_,h3,fun a' z hz=>?_,by omega⟩,h6⟩
 ·obtain⟨q1,q2,xs,q3,q4,q5⟩:=h2 p hp
  by_cases e:p.1=a
  ·have hpb:p.2=b:=by
    have:=subOf_mem h1.nd (a:=p.1) (b:=p.2) hp
    rw[e,hs]at this
    simpa using this.symm
   refine⟨q1,q2,ys,by rw[hpb];exact hy,hyn,fun z=>?_⟩
   rw[hys,e]
   simp
  ·have hpb:p.2≠b:=fun e2=>by
    have key:∀(l:List (α×Nat)),(l.map (·.2)).Nodup→p∈l→(a,b)∈l→p=(a,b):=by
     intro l
     induction l with
     | nil=>intro _ h;cases h
     | cons y l ih=>
      intro hn h1 h2
      rw[List.map_cons,List.nodup_cons]at hn
      rcases List.mem_cons.1 h1 with e1|h1
      ·rcases List.mem_cons.1 h2 with e3|h2
       ·rw[e1,e3]
       ·exact absurd (List.mem_map.2 ⟨_,h2,by rw[←e1];exact e2.symm⟩) hn.1
      ·rcases List.mem_cons.1 h2 with e3|h2
       ·exact absurd (List.mem_map.2 ⟨_,h1,by rw[←e3];exact e2⟩) hn.1
       ·exact ih hn.2 h1 h2
    exact e (by rw[key l h3 hp hm])
   exact⟨q1,q2,xs,q3.keep hc hpb,by omega,fun z=>(q5 z).trans (by simp [e])⟩
 ·rcases hz with hz|⟨rfl,rfl⟩
  ·exact h4 a' z hz
  ·exact List.mem_map.2 ⟨_,hm,rfl⟩
/-- A set that is new, of one. -/
theorem Sets.new [DecidableEq α] {t e:TypeId} (h:Sets ko ki O w mb n rel) (ht:Tryz.prog.underlying t=some (.map ko.ty e)) (hz:∀w,(zeroValue e).run Tryz.prog w = .ok (.map none) w) {a:α} (ha:ko.ok a) (hn:n<9223372036854775807) (hb:(Instr.lookup t (.map (some mb)) (ko.val a) false).run Tryz.prog w = .ok (.map none) w)
  {b:Nat} (hbO:∀i,O i→i<w.heap.size) {w1:World} (hc1:Chg (fun _=>False) w w1) (hbw:w.heap.size≤b) :
  ∃w',(Instr.mapUpdate t (.map (some mb)) (ko.val a) (.map (some b))).run Tryz.prog w1 = .ok () w'∧Chg (· = mb) w1 w'∧
   (∀w2,Chg (fun i=>i≠mb) w' w2→(Instr.lookup t (.map (some mb)) (ko.val a) false).run Tryz.prog w2 = .ok (.map (some b)) w2)∧
   ∀w5 x,Chg (· = b) w' w5→SMap ki w5 b [x]→Sets ko ki (fun i=>O i∨i=b) w5 mb (n+1) (fun a' z=>rel a' z∨(a'=a∧z=x)):=by
 obtain⟨⟨l,h1,h2,h3,h4,h5⟩,h6⟩:=h
 have hlt:=hbO _ h6
 rw[h1.look ht (hz w) ha]at hb
 have hs:subOf l a=none:=by simpa using hb
 have hno:a∉l.map (·.1):=fun h=>by
  obtain⟨p,hp,rfl⟩:=List.mem_map.1 h
  rw[subOf_mem h1.nd (b:=p.2) hp]at hs
  cases hs
 obtain⟨w',hrun,ho,hc⟩:=(h1.keep hc1 id).add ht (by omega) ha hno b
 refine⟨w',hrun,hc,fun w2 h2'=>?_,fun w5 x hc5 hsm=>⟨⟨_,ho.keep hc5 (fun e=>by omega),fun p hp=>?_,?_,fun a' z hz=>?_,by simp;omega⟩,.inl h6⟩⟩
 ·rw[(ho.keep h2' (fun e=>e rfl)).look ht (hz w2) ha]
  have:=subOf_mem ho.nd (a:=a) (b:=b) (by simp)
  rw[this]
 ·rcases List.mem_append.1 hp with hp'|hp'
  ·obtain⟨q1,q2,xs,q3,q4,q5⟩:=h2 p hp'
   have hpb:=hbO _ q1
   refine⟨.inl q1,q2,xs,((q3.keep hc1 id).keep hc q2).keep hc5 (fun e=>by omega),by omega,fun z=>(q5 z).trans ⟨.inl,fun h=>?_⟩⟩
   rcases h with h|⟨rfl,_⟩
   ·exact h
   ·exact absurd (List.mem_map.2 ⟨p,hp',rfl⟩) hno
  ·simp at hp'
   subst hp'
   exact⟨.inr rfl,by simp;omega,[x],hsm,by simp,fun z=>⟨fun h=>.inr ⟨rfl,by simpa using h⟩,fun h=>by
    rcases h with h|h
    ·exact absurd (h4 a z h) hno
    ·simp [h.2]⟩⟩
 ·rw[List.map_append,List.nodup_append]
  refine⟨h3,by simp,fun x hx y hy e=>?_⟩
  simp at hy
  subst hy
  subst e
  obtain⟨p,hp,rfl⟩:=List.mem_map.1 hx
  have:=hbO _ (h2 p hp).1
  omega
 ·rw[List.map_append]
  rcases hz with hz|⟨rfl,_⟩
  ·exact List.mem_append_left _ (h4 a' z hz)
  ·simp
end
end
section
open Go.RowKit Go.Maps Go.ChangeMaps Go.WideMaps
theorem mStr (d:Nat) {s:List UInt8} (h:s.length≤9223372036854775807):Tryz.prog.keyLits (d+1) 9 [.string ⟨s.toArray⟩]=some [.string s]:=by
 have b1:(ByteArray.mk s.toArray).size≤maxLen:=by unfold maxLen;simpa [ByteArray.size] using h
 unfold Program.keyLits
 rw[Tryz.underlying9]
 simp [b1]
theorem mRoleN:Tryz.prog.cellsOf 32=2:=by kernel_rfl
theorem mCredN:Tryz.prog.cellsOf 34=9:=by kernel_rfl
theorem mStrN:Tryz.prog.cellsOf 9=1:=by kernel_rfl
theorem mKindN:Tryz.prog.cellsOf 3=1:=by kernel_rfl
theorem mRole (d:Nat) {a b:List UInt8} (ha:a.length≤9223372036854775807) (hb:b.length≤9223372036854775807):Tryz.prog.keyLits (d+1+1) 32 [.string ⟨a.toArray⟩,.string ⟨b.toArray⟩]=some [.string a,.string b]:=by
 unfold Program.keyLits
 rw[Tryz.underlying32]
 simp [mRoleN,mStrN,mStr d ha,mStr d hb]
theorem mKind (d:Nat) {x:Int} (h:(Lit.int .i64 x).wf=true):Tryz.prog.keyLits (d+1) 3 [.int .i64 x]=some [.int .i64 x]:=by
 unfold Program.keyLits
 rw[Tryz.underlying3]
 simp [h]
def roleLit (r:RoleB):Lit:=.string (keyBytes [.string r.1,.string r.2])
def credLit (c:CredB):Lit:=.string (keyBytes [.int .i64 c.kind,.string c.head.1,.string c.head.2,.string c.who,.string c.b.1,.string c.b.2,.string c.c.1,.string c.c.2,.string c.w2])
theorem roleReads {r:RoleB} (h:r.1.length≤9223372036854775807∧r.2.length≤9223372036854775807):Go.keyOf Tryz.prog 32 (.agg #[.string ⟨r.1.toArray⟩,.string ⟨r.2.toArray⟩])=some (roleLit r):=by
 have h3:3≤Tryz.prog.types.size:=of_decide_eq_true (by kernel_rfl)
 obtain⟨n,hn⟩:∃n,Tryz.prog.types.size=n+1:=⟨Tryz.prog.types.size-1,by omega⟩
 have h1:Tryz.prog.keyType 32=true:=by kernel_rfl
 have h2:(Value.agg #[.string ⟨r.1.toArray⟩,.string ⟨r.2.toArray⟩]).formed Tryz.prog 32=true:=by simp [Value.formed,Tryz.underlying32,mRoleN]
 unfold Go.keyOf
 rw[Tryz.underlying32]
 simp only[h1,h2,Bool.and_self,if_true,hn]
 have h4:=mRole n h.1 h.2
 show (Tryz.prog.keyLits (n+1+1) 32 [.string ⟨r.1.toArray⟩,.string ⟨r.2.toArray⟩]).map _=_
 rw[h4]
 rfl
theorem credReads {c:CredB} (h:credShort c 9223372036854775807) (hw:(Lit.int .i64 c.kind).wf=true):Go.keyOf Tryz.prog 34 (credV c)=some (credLit c):=by
 obtain⟨a1,a2,a3,a4,a5,a6,a7,a8⟩:=h
 have h3:3≤Tryz.prog.types.size:=of_decide_eq_true (by kernel_rfl)
 obtain⟨n,hn⟩:∃n,Tryz.prog.types.size=n+1+1:=⟨Tryz.prog.types.size-2,by omega⟩
 have h1:Tryz.prog.keyType 34=true:=by kernel_rfl
 have h2:(credV c).formed Tryz.prog 34=true:=by unfold credV credBox;simp [Value.formed,Tryz.underlying34,mCredN]
 have h4:Tryz.prog.keyLits (n+1+1+1) 34 (credV c).cells.toList=some [.int .i64 c.kind,.string c.head.1,.string c.head.2,.string c.who,.string c.b.1,.string c.b.2,.string c.c.1,.string c.c.2,.string c.w2]:=by
  unfold Program.keyLits
  rw[Tryz.underlying34]
  simp [credV,credBox,Value.cells,mCredN,mRoleN,mStrN,mKindN,mKind (n+1) hw,mRole n a1 a2,mRole n a4 a5,mRole n a6 a7,mStr (n+1) a3,mStr (n+1) a8]
 unfold Go.keyOf
 rw[Tryz.underlying34]
 simp only[h1,h2,Bool.and_self,if_true,hn]
 rw[h4]
 rfl
theorem mRoleBelow:32<Tryz.prog.types.size:=of_decide_eq_true (by kernel_rfl)
theorem mCredBelow:34<Tryz.prog.types.size:=of_decide_eq_true (by kernel_rfl)
theorem mRoleKeyed:Keyed Tryz.prog 32:=Keyed.of_law (deep_law_laid Tryz.laidOut (m:=4) (by omega) mRoleBelow (by kernel_rfl) (by rw[Tryz.underlying32]))
theorem mCredKeyed:Keyed Tryz.prog 34:=Keyed.of_law (deep_law_laid Tryz.laidOut (m:=4) (by omega) mCredBelow (by kernel_rfl) (by rw[Tryz.underlying34]))
theorem kind_wf {c:CredB} (h:isCred c=true):(Lit.int .i64 c.kind).wf=true:=by
 rcases isCred_kind h with k|k|k|k <;> rw[k] <;> decide
/-- Names. -/
def ktS:KT (List UInt8) where
 ty:=9
 val s:=.string ⟨s.toArray⟩
 lit s:=.string s
 ok s:=s.length≤9223372036854775807
 keyed:=string_keyed Tryz.underlying9
 isKey _:=trivial
 reads s hs:=by
  have:=keyOf_string_mk (P:=Tryz.prog) (k:=9) Tryz.underlying9 (s:=⟨s.toArray⟩) (by unfold maxLen;simpa [ByteArray.size] using hs)
  simpa using this
 inj a b h:=by simpa using h
/-- Roles. -/
def ktR:KT RoleB where
 ty:=32
 val r:=.agg #[.string ⟨r.1.toArray⟩,.string ⟨r.2.toArray⟩]
 lit:=roleLit
 ok r:=r.1.length≤9223372036854775807∧r.2.length≤9223372036854775807
 keyed:=mRoleKeyed
 isKey _:=trivial
 reads _ h:=roleReads h
 inj a b h:=by
  obtain⟨a1,a2⟩:=a
  obtain⟨b1,b2⟩:=b
  simp at h
  obtain⟨rfl,rfl⟩:=h
  rfl
/-- Right credentials. -/
def ktC:KT CredB where
 ty:=34
 val:=credV
 lit:=credLit
 ok c:=isCred c=true
 keyed:=mCredKeyed
 isKey _:=trivial
 reads c h:=credReads (by obtain⟨a1,a2,a3,a4,a5,a6,a7,a8⟩:=isCred_short h;exact⟨by omega,by omega,by omega,by omega,by omega,by omega,by omega,by omega⟩) (kind_wf h)
 inj a b h:=by
  obtain⟨k,⟨a1,a2⟩,a3,⟨a4,a5⟩,⟨a6,a7⟩,a8⟩:=a
  obtain⟨k',⟨b1,b2⟩,b3,⟨b4,b5⟩,⟨b6,b7⟩,b8⟩:=b
  simp [credV,credBox]at h
  obtain⟨rfl,rfl,rfl,rfl,rfl,rfl,rfl,rfl,rfl⟩:=h
  rfl
end
section
open Go.RowKit
/-- What a credential brings, if A says which facts are there. -/
def Brings (c:CredB) (A:FactB→Prop) (f:FactB):Prop:=
 f.1=c.head∧((c.kind=1∧f.2=c.who)∨(c.kind=2∧A (c.b,f.2))∨(c.kind=3∧∃b,A (c.b,b)∧A ((b,c.w2),f.2))∨(c.kind=4∧A (c.b,f.2)∧A (c.c,f.2)))
theorem Brings.mono {c:CredB} {A B:FactB→Prop} (h:∀f,A f→B f) {f:FactB} (hb:Brings c A f):Brings c B f:=by
 obtain⟨h1,h2⟩:=hb
 refine⟨h1,?_⟩
 rcases h2 with ⟨k,h2⟩|⟨k,h2⟩|⟨k,b,h2,h3⟩|⟨k,h2,h3⟩
 ·exact .inl ⟨k,h2⟩
 ·exact .inr (.inl ⟨k,h _ h2⟩)
 ·exact .inr (.inr (.inl ⟨k,b,h _ h2,h _ h3⟩))
 ·exact .inr (.inr (.inr ⟨k,h _ h2,h _ h3⟩))
theorem Brings.der {ls:List CredB} {c:CredB} {A:FactB→Prop} (hc:c∈ls) (hr:isCred c=true) (hA:∀f,A f→Der ls f) {f:FactB} (hb:Brings c A f):Der ls f:=by
 obtain⟨r,s⟩:=f
 obtain⟨h1,h2⟩:=hb
 simp only at h1 h2
 subst h1
 rcases h2 with ⟨k,rfl⟩|⟨k,h2⟩|⟨k,b,h2,h3⟩|⟨k,h2,h3⟩
 ·exact .mem hc hr k
 ·exact .inc hc hr k (hA _ h2)
 ·exact .link hc hr k (hA _ h2) (hA _ h3)
 ·exact .both hc hr k (hA _ h2) (hA _ h3)
theorem brings_all {ls:List CredB} {A:FactB→Prop} (h:∀c∈ls,isCred c=true→∀f,Brings c A f→A f) {f:FactB} (hd:Der ls f):A f:=by
 induction hd with
 | mem hc hr k=>exact h _ hc hr _ ⟨rfl,.inl ⟨k,rfl⟩⟩
 | inc hc hr k _ ih=>exact h _ hc hr _ ⟨rfl,.inr (.inl ⟨k,ih⟩)⟩
 | link hc hr k _ _ ih1 ih2=>exact h _ hc hr _ ⟨rfl,.inr (.inr (.inl ⟨k,_,ih1,ih2⟩))⟩
 | both hc hr k _ _ ih1 ih2=>exact h _ hc hr _ ⟨rfl,.inr (.inr (.inr ⟨k,ih1,ih2⟩))⟩
/-- What one step brings because w is in a role that c leans on. -/
def StepOf (F:List FactB) (c:CredB) (w:List UInt8) (g:FactB):Prop:=
 g.1=c.head∧((c.kind=2∧g.2=w)∨(c.kind=3∧((w,c.w2),g.2)∈F)∨(c.kind=4∧g.2=w∧(c.b,w)∈F∧(c.c,w)∈F))
theorem StepOf.brings {F:List FactB} {c:CredB} {w:List UInt8} {g:FactB} (h:StepOf F c w g) (hb:c.kind≠4→(c.b,w)∈F):Brings c (·∈F) g:=by
 obtain⟨h1,h2⟩:=h
 refine⟨h1,?_⟩
 rcases h2 with ⟨k,h2⟩|⟨k,h2⟩|⟨k,h2,h3,h4⟩
 ·exact .inr (.inl ⟨k,by rw[h2];exact hb (by omega)⟩)
 ·exact .inr (.inr (.inl ⟨k,w,hb (by omega),h2⟩))
 ·exact .inr (.inr (.inr ⟨k,by rw[h2];exact h3,by rw[h2];exact h4⟩))
/-- The credentials by the roles that they lean on. -/
def leanR (T:List CredB) (r:RoleB) (c:CredB):Prop:=c∈T∧isCred c=true∧c.kind≠1∧(c.b=r∨(c.kind=4∧c.c=r))
def linkR (T:List CredB) (v:List UInt8) (c:CredB):Prop:=c∈T∧isCred c=true∧c.kind=3∧c.w2=v
/-- What is there when c has been taken. -/
def TakenF (F F':List FactB) (c:CredB):Prop:=∀g,Brings c (·∈F) g→g∈F'
/-- What the steps of c through all members of its role bring. -/
theorem taken_of_steps {F F':List FactB} {c:CredB} (_:isCred c=true) (hk:c.kind≠1) (h:∀w,(c.b,w)∈F→∀g,StepOf F c w g→g∈F'):TakenF F F' c:=fun g hb=>by
 obtain⟨h1,h2⟩:=hb
 rcases h2 with ⟨k,h2⟩|⟨k,h2⟩|⟨k,b,h2,h3⟩|⟨k,h2,h3⟩
 ·exact absurd k hk
 ·exact h _ h2 g ⟨h1,.inl ⟨k,rfl⟩⟩
 ·exact h _ h2 g ⟨h1,.inr (.inl ⟨k,h3⟩)⟩
 ·exact h _ h2 g ⟨h1,.inr (.inr ⟨k,rfl,h2,h3⟩)⟩
/-- What is there when f has been followed. -/
def FollowedF (T:List CredB) (F F':List FactB) (f:FactB):Prop:=
 ∀c∈T,isCred c=true→∀P:FactB→Prop,(∀x,P x→x∈F)→∀g,Brings c (fun x=>P x∨x=f) g→Brings c P g∨g∈F'
theorem followed_of_steps {T:List CredB} {F F':List FactB} {f:FactB} (hf:f∈F) (h1:∀c,leanR T f.1 c→∀g,StepOf F c f.2 g→g∈F') (h2:∀c,linkR T f.1.2 c→(c.b,f.1.1)∈F→(c.head,f.2)∈F'):FollowedF T F F' f:=by
 intro c hc hr P hP g hb
 obtain⟨⟨o,v⟩,s⟩:=f
 obtain⟨g1,g2⟩:=g
 obtain⟨e1,hb⟩:=hb
 simp only at e1 hb h1 h2
 subst e1
 rcases hb with ⟨k,hb⟩|⟨k,hb⟩|⟨k,b,hb,hb2⟩|⟨k,hb,hb2⟩
 ·exact .inl ⟨rfl,.inl ⟨k,hb⟩⟩
 ·rcases hb with hb|hb
  ·exact .inl ⟨rfl,.inr (.inl ⟨k,hb⟩)⟩
  ·simp only[Prod.mk.injEq]at hb
   exact .inr (h1 c ⟨hc,hr,by omega,.inl hb.1⟩ _ ⟨rfl,.inl ⟨k,hb.2⟩⟩)
 ·have hb2F:((b,c.w2),g2)∈F:=by
   rcases hb2 with hb2|hb2
   ·exact hP _ hb2
   ·rw[hb2];exact hf
  rcases hb with hb|hb
  ·rcases hb2 with hb2|hb2
   ·exact .inl ⟨rfl,.inr (.inr (.inl ⟨k,b,hb,hb2⟩))⟩
   ·simp only[Prod.mk.injEq]at hb2
    obtain⟨⟨rfl,rfl⟩,rfl⟩:=hb2
    exact .inr (h2 c ⟨hc,hr,k,rfl⟩ (hP _ hb))
  ·simp only[Prod.mk.injEq]at hb
   obtain⟨hb,rfl⟩:=hb
   exact .inr (h1 c ⟨hc,hr,by omega,.inl hb⟩ _ ⟨rfl,.inr (.inl ⟨k,hb2F⟩)⟩)
 ·have hbF:(c.b,g2)∈F:=by
   rcases hb with hb|hb
   ·exact hP _ hb
   ·rw[hb];exact hf
  have hb2F:(c.c,g2)∈F:=by
   rcases hb2 with hb2|hb2
   ·exact hP _ hb2
   ·rw[hb2];exact hf
  rcases hb with hb|hb
  ·rcases hb2 with hb2|hb2
   ·exact .inl ⟨rfl,.inr (.inr (.inr ⟨k,hb,hb2⟩))⟩
   ·simp only[Prod.mk.injEq]at hb2
    obtain⟨hb2,rfl⟩:=hb2
    exact .inr (h1 c ⟨hc,hr,by omega,.inr ⟨k,hb2⟩⟩ _ ⟨rfl,.inr (.inr ⟨k,rfl,hbF,hb2F⟩)⟩)
  ·simp only[Prod.mk.injEq]at hb
   obtain⟨hb,rfl⟩:=hb
   exact .inr (h1 c ⟨hc,hr,by omega,.inl hb⟩ _ ⟨rfl,.inr (.inr ⟨k,rfl,hbF,hb2F⟩)⟩)
/-- Between two of Add's calls: F are the facts that are there, P those that need not be followed any more, T the credentials that have been taken. -/
structure AddI (ls T:List CredB) (F P:List FactB):Prop where
 nd:F.Nodup
 der:∀f∈F,Der ls f
 sub:∀f∈P,f∈F
 step:∀c∈T,isCred c=true→∀g,Brings c (·∈P) g→g∈F
theorem AddI.take {ls T:List CredB} {F P F':List FactB} (h:AddI ls T F P) {c:CredB} (hnd:F'.Nodup) (hd:∀f∈F',Der ls f) (hsub:∀f∈F,f∈F') (hT:c∉T→TakenF F F' c):AddI ls (T++[c]) F' P:=
 ⟨hnd,hd,fun f hf=>hsub f (h.sub f hf),fun d hdm hr g hg=>by
  by_cases e:d∈T
  ·exact hsub g (h.step d e hr g hg)
  ·rcases List.mem_append.1 hdm with h'|h'
   ·exact absurd h' e
   ·rw[List.mem_singleton]at h'
    subst h'
    exact hT e g (hg.mono (fun f hf=>h.sub f hf))⟩
theorem AddI.follow {ls T:List CredB} {F P F':List FactB} (h:AddI ls T F P) {f:FactB} (hf:f∈F) (hnd:F'.Nodup) (hd:∀f∈F',Der ls f) (hsub:∀f∈F,f∈F') (hF:FollowedF T F F' f):AddI ls T F' (P++[f]):=
 ⟨hnd,hd,fun x hx=>by
  rcases List.mem_append.1 hx with hx|hx
  ·exact hsub x (h.sub x hx)
  ·rw[List.mem_singleton]at hx;subst hx;exact hsub _ hf,fun c hc hr g hg=>by
  rcases hF c hc hr (·∈P) (fun x hx=>h.sub x hx) g (hg.mono (fun x hx=>by simpa using hx)) with h1|h1
  ·exact hsub g (h.step c hc hr g h1)
  ·exact h1⟩
theorem AddI.done {ls T:List CredB} {F P:List FactB} (h:AddI ls T F P) (hP:∀f∈F,f∈P) (hT:∀c∈ls,isCred c=true→c∈T):∀f,f∈F↔Der ls f:=fun f=>
 ⟨h.der f,fun hd=>brings_all (A:=(·∈F)) (fun c hc hr g hg=>h.step c (hT c hc hr) hr g (hg.mono (fun x hx=>hP x hx))) hd⟩
theorem der_few {ls:List CredB} {F:List FactB} (hnd:F.Nodup) (hd:∀f∈F,Der ls f) (hl:ls.length≤1000):F.length≤4000000:=by
 have:=facts_le (rs:=ls.map (·.head)) (ns:=whosOf ls) hnd (fun f hf=>by
  refine⟨?_,?_⟩
  ·obtain⟨c,hc,_,e⟩:=(hd f hf).head
   exact List.mem_map.2 ⟨c,hc,e⟩
  ·obtain⟨c,hc,hr,hk,e⟩:=(hd f hf).who
   rw[←e]
   exact whosOf_who hc)
 rw[List.length_map,whosOf_len]at this
 exact Nat.le_trans this (Nat.le_trans (Nat.mul_le_mul hl (Nat.mul_le_mul_right 4 hl)) (by decide))
theorem der_short {ls:List CredB} {f:FactB} (hd:Der ls f):f.1.1.length≤16∧f.1.2.length≤16∧f.2.length≤16:=by
 obtain⟨c,_,hr,e⟩:=hd.head
 obtain⟨c2,_,hr2,hk2,e2⟩:=hd.who
 have h1:=isCred_short hr
 refine⟨?_,?_,?_⟩
 ·rw[←e];exact h1.1
 ·rw[←e];exact h1.2.1
 ·rw[←e2];exact(isCred_short hr2).2.2.1
end
end Go.Proofs.YtkfinhpfdcjoeaaGreat
