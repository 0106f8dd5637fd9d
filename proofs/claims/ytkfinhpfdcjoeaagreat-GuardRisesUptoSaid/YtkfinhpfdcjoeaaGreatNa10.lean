/- Texts that the proof leans on, in one: NnMath, NnInj, NnNorm, NnDet. -/
import Derived.Test.YtkfinhpfdcjoeaaGreatNa9
import Derived.Test.YtkfinhpfdcjoeaaGreatNa7
/- Normal forms: plain words. -/
namespace Go.Proofs.YtkfinhpfdcjoeaaGreat
section
open Go.RowKit
/-- What is written of a formula: nothing of one that isn't right. -/
def wrN (f:FmB):List UInt8:=if isF f then encF f else []
/-- Stand two formulas in order? -/
def leN (x y:FmB):Prop:=ltS (wrN y) (wrN x)=false
open Classical in
/-- Of neighbours that are equal one. -/
noncomputable def cmpctN:List FmB→List FmB
 | []=>[]
 | [x]=>[x]
 | x::y::l=>if x=y then cmpctN (y::l) else x::cmpctN (y::l)
theorem cmpct_mem:∀(l:List FmB) (z:FmB),z∈cmpctN l↔z∈l
 | [],z=>Iff.rfl
 | [x],z=>Iff.rfl
 | x::y::l,z=>by
  rw[cmpctN]
  by_cases e:x=y
  ·rw[if_pos e,cmpct_mem (y::l) z,e];simp
  ·rw[if_neg e,List.mem_cons,cmpct_mem (y::l) z];simp
theorem cmpct_sub:∀(l:List FmB),(cmpctN l).Sublist l
 | []=>List.Sublist.refl _
 | [x]=>List.Sublist.refl _
 | x::y::l=>by
  rw[cmpctN]
  split
  ·exact(cmpct_sub (y::l)).cons _
  ·exact(cmpct_sub (y::l)).cons_cons _
/-- No neighbours are equal. -/
def Apart:List FmB→Prop
 | []=>True
 | [_]=>True
 | x::y::l=>x≠y∧Apart (y::l)
theorem cmpct_head:∀(x:FmB) (l:List FmB),∃t,cmpctN (x::l)=x::t
 | x,[]=>⟨[],rfl⟩
 | x,y::l=>by
  rw[cmpctN]
  split
  ·rename_i e;subst e;exact cmpct_head x l
  ·exact⟨_,rfl⟩
theorem cmpct_apart:∀(l:List FmB),Apart (cmpctN l)
 | []=>trivial
 | [x]=>trivial
 | x::y::l=>by
  rw[cmpctN]
  split
  ·exact cmpct_apart (y::l)
  ·rename_i e
   have h:=cmpct_apart (y::l)
   obtain⟨t,ht⟩:=cmpct_head y l
   rw[ht]at h ⊢
   exact⟨e,h⟩
/-- In order, no neighbours equal, all right: each is before all that come behind. -/
theorem nodup_sorted {l:List FmB} (hs:l.Pairwise leN) (ha:Apart l) (hi:∀x∈l,∀y∈l,wrN x=wrN y→x=y):l.Nodup:=by
 induction l with
 | nil=>exact List.nodup_nil
 | cons x l ih=>
  rw[List.pairwise_cons]at hs
  cases l with
  | nil=>simp
  | cons y l=>
   refine List.nodup_cons.2 ⟨fun hx=>?_,ih hs.2 ha.2 (fun a ha b hb=>hi a (List.mem_cons_of_mem _ ha) b (List.mem_cons_of_mem _ hb))⟩
   have h1:leN x y:=hs.1 y (by simp)
   have h2:leN y x:=by
    rcases List.mem_cons.1 hx with e|e
    ·exact absurd e ha.1
    ·exact(List.pairwise_cons.1 hs.2).1 x e
   refine ha.1 (hi x (by simp) y (by simp) ?_)
   unfold leN at h1 h2
   rcases ltS_tri (wrN x) (wrN y) with k|k|k
   ·rw[k]at h2;cases h2
   ·exact k
   ·rw[k]at h1;cases h1
/-- Two rows in order, of the same formulas, all told apart by what is written of them, are one. -/
theorem sorted_perm {a b:List FmB} (hp:a.Perm b) (ha:a.Pairwise leN) (hb:b.Pairwise leN) (hi:∀x∈a,∀y∈a,wrN x=wrN y→x=y):a=b:=by
 refine hp.eq_of_pairwise (le:=leN) (fun x y hx hy h1 h2=>hi x hx y (hp.mem_iff.2 hy) ?_) ha hb
 unfold leN at h1 h2
 rcases ltS_tri (wrN x) (wrN y) with k|k|k
 ·rw[k]at h2;cases h2
 ·exact k
 ·rw[k]at h1;cases h1
/-- Is it All or Some of none? -/
def isC (f:FmB):Bool:=decide (f.op≠1∧f.kids=[])
/-- A row of Kids, those of the same Op opened. -/
def flatN (op:Int) (ks:List FmB):List FmB:=ks.flatMap (fun k=>if k.op=op then k.kids else [k])
/-- All or Some of so many: of one, that. -/
def oneN (op:Int):List FmB→FmB
 | [x]=>x
 | l=>.mk op 0 ([],[]) l
/-- x is All or Some, brought into shape, of Kids that are. -/
def JoinR (op:Int) (ks:List FmB) (x:FmB):Prop:=
 (∃k∈ks,k.op≠op∧isC k=true∧x=k)∨((∀k∈ks,k.op≠op→isC k=false)∧∃l:List FmB,l.Perm (flatN op ks)∧l.Pairwise leN∧x=oneN op (cmpctN l))
/-- Those that aren't constant; how many are always true. -/
def restN (ks:List FmB):List FmB:=ks.filter (fun k=>!isC k)
def truesN (ks:List FmB):Nat:=(ks.filter (fun k=>isC k&&decide (k.op=2))).length
/-- x is AtK, brought into shape, of Kids that are. -/
def AtR (k:Int) (ks:List FmB) (x:FmB):Prop:=
 (k-truesN ks≤0∧x = .mk 2 0 ([],[]) [])∨
 (0<k-truesN ks∧((restN ks).length:Int)<k-truesN ks∧x = .mk 3 0 ([],[]) [])∨
 (0<k-truesN ks∧k-truesN ks=(restN ks).length∧JoinR 2 (restN ks) x)∨
 (0<k-truesN ks∧k-truesN ks<(restN ks).length∧k-truesN ks=1∧JoinR 3 (restN ks) x)∨
 (1<k-truesN ks∧k-truesN ks<(restN ks).length∧∃l:List FmB,l.Perm (restN ks)∧l.Pairwise leN∧x = .mk 4 (k-truesN ks) ([],[]) l)
/- x is a formula's normal form. -/
mutual
def ShapeR:FmB→FmB→Prop
 | .mk op k r kids,x=>if op=1 then x = .mk 1 0 r [] else ∃ks,ShapeL kids ks∧if op=4 then AtR k ks x else JoinR op ks x
def ShapeL:List FmB→List FmB→Prop
 | [],ys=>ys=[]
 | f::l,ys=>∃y t,ys=y::t∧ShapeR f y∧ShapeL l t
end
theorem shapeR_eq (f x:FmB):ShapeR f x↔if f.op=1 then x = .mk 1 0 f.r [] else ∃ks,ShapeL f.kids ks∧if f.op=4 then AtR f.k ks x else JoinR f.op ks x:=by cases f;rfl
theorem ShapeL.len:∀ {l ys:List FmB},ShapeL l ys→ys.length=l.length
 | [],ys,h=>by rw[ShapeL]at h;rw[h]
 | f::l,ys,h=>by
  rw[ShapeL]at h
  obtain⟨y,t,rfl,_,h⟩:=h
  rw[List.length_cons,List.length_cons,ShapeL.len h]
theorem ShapeL.snoc:∀ {l ys:List FmB} {f y:FmB},ShapeL l ys→ShapeR f y→ShapeL (l++[f]) (ys++[y])
 | [],ys,f,y,h,hy=>by
  rw[ShapeL]at h
  subst h
  rw[List.nil_append,List.nil_append,ShapeL]
  exact⟨y,[],rfl,hy,by rw[ShapeL]⟩
 | g::l,ys,f,y,h,hy=>by
  rw[ShapeL]at h
  obtain⟨z,t,rfl,h1,h2⟩:=h
  rw[List.cons_append,ShapeL]
  exact⟨z,t++[y],by simp,h1,ShapeL.snoc h2 hy⟩
end
section
open Go.RowKit
theorem ds_inj {m n:Nat} (hm:m<128) (hn:n<128) (h:ds m=ds n):m=n:=by rw[←ds_toNat hm,←ds_toNat hn,h]
theorem piece_inj {s t a b:List UInt8} (hs:s.length≤16) (ht:t.length≤16) (h:enc s.length++(s++a)=enc t.length++(t++b)):s=t∧a=b:=by
 rw[enc_small (by omega),enc_small (by omega)]at h
 simp only[List.cons_append,List.nil_append,List.cons.injEq]at h
 exact List.append_inj h.2 (ds_inj (by omega) (by omega) h.1)
theorem roleEnc_inj {r s:RoleB} {a b:List UInt8} (hr:isRole r=true) (hs:isRole s=true) (h:roleEnc r++a=roleEnc s++b):r=s∧a=b:=by
 have h1:=role_len hr
 have h2:=role_len hs
 simp only[roleEnc,List.append_assoc]at h
 obtain⟨e1,h⟩:=piece_inj h1.1 h2.1 h
 obtain⟨e2,h⟩:=piece_inj h1.2 h2.2 h
 exact⟨Prod.ext e1 e2,h⟩
theorem encF_inj:∀f:FmB,rightF f=true→∀g:FmB,rightF g=true→∀a b:List UInt8,encF f++a=encF g++b→f=g∧a=b:=by
 refine nodes_ind fun f ih hf g hg a b h=>?_
 rw[rightF_eq,Bool.and_eq_true]at hf hg
 have hkf:=rightL_mem hf.1
 have hkg:=rightL_mem hg.1
 have key:∀l:List FmB,(∀x∈l,x∈f.kids)→∀m:List FmB,(∀x∈m,rightF x=true)→l.length=m.length→∀a b:List UInt8,encFs l++a=encFs m++b→l=m∧a=b:=by
  intro l
  induction l with
  | nil=>
   intro _ m _ hl a b h
   cases m with
   | nil=>exact⟨rfl,by simpa [encFs] using h⟩
   | cons y m=>simp at hl
  | cons x l ih2=>
   intro hx m hm hl a b h
   cases m with
   | nil=>simp at hl
   | cons y m=>
    rw[encFs,encFs,List.append_assoc,List.append_assoc]at h
    obtain⟨e1,h⟩:=ih x (hx x (by simp)) (hkf x (hx x (by simp))) y (hm y (by simp)) _ _ h
    obtain⟨e2,h⟩:=ih2 (fun z hz=>hx z (List.mem_cons_of_mem _ hz)) m (fun z hz=>hm z (List.mem_cons_of_mem _ hz)) (by simpa using hl) _ _ h
    exact⟨by rw[e1,e2],h⟩
 obtain⟨fo,fk,fr,fl⟩:=f
 obtain⟨go,gk,gr,gl⟩:=g
 simp only[FmB.op,FmB.k,FmB.r,FmB.kids]at hf hg hkf hkg key
 rw[encF,encF]at h
 have hfo:0≤fo∧fo<128:=by rcases rightN_op hf.2 with h|h|h <;> omega
 have hgo:0≤go∧go<128:=by rcases rightN_op hg.2 with h|h|h <;> omega
 rw[enc_small (show fo.toNat<128 by omega),enc_small (show go.toNat<128 by omega)]at h
 simp only[List.cons_append,List.nil_append,List.cons.injEq]at h
 obtain⟨h0,h⟩:=h
 have e0:fo=go:=by have:=ds_inj (show fo.toNat<128 by omega) (show go.toNat<128 by omega) h0;omega
 subst e0
 rcases rightN_op hf.2 with ⟨h1,h2,h3,h4⟩|⟨h1,h2,h3,h4⟩|⟨h1,h2,h3,h4,h5,h6⟩ <;> rcases rightN_op hg.2 with ⟨k1,k2,k3,k4⟩|⟨k1,k2,k3,k4⟩|⟨k1,k2,k3,k4,k5,k6⟩ <;> first|omega|skip
 ·rw[if_pos h1,if_pos h1]at h
  obtain⟨e1,e2⟩:=roleEnc_inj h2 k2 h
  rw[List.length_eq_zero_iff]at h3 k3
  exact⟨by rw[e1,h3,k3,h4,k4],e2⟩
 ·have n1:fo≠1:=by omega
  have n4:fo≠4:=by omega
  rw[if_neg n1,if_neg n1,if_neg n4,List.nil_append,if_neg n4,List.nil_append,enc_small (by omega),enc_small (by omega)]at h
  simp only[List.cons_append,List.nil_append,List.cons.injEq]at h
  obtain⟨e1,e2⟩:=key fl (fun _ h=>h) gl hkg (ds_inj (by omega) (by omega) h.1) _ _ h.2
  exact⟨by rw[e1,h2,k2,h4,k4],e2⟩
 ·have n1:fo≠1:=by omega
  rw[if_neg n1,if_neg n1,if_pos h1,if_pos h1,enc_small (show fl.length<128 by omega),enc_small (show gl.length<128 by omega),enc_small (show fk.toNat<128 by omega),enc_small (show gk.toNat<128 by omega)]at h
  simp only[List.cons_append,List.nil_append,List.cons.injEq]at h
  obtain⟨e3,h⟩:=h
  obtain⟨e1,e2⟩:=key fl (fun _ h=>h) gl hkg (ds_inj (by omega) (by omega) h.1) _ _ h.2
  have e4:fk=gk:=by have:=ds_inj (show fk.toNat<128 by omega) (show gk.toNat<128 by omega) e3;omega
  exact⟨by rw[e1,h2,k2,e4],e2⟩
theorem isF_parts {f:FmB}:isF f=true↔nodesF f≤64∧deepF f≤6∧rightF f=true:=by
 unfold isF
 simp only[Bool.and_eq_true,decide_eq_true_eq]
theorem wrN_inj {x y:FmB} (hx:isF x=true) (h:wrN x=wrN y):x=y:=by
 unfold wrN at h
 rw[if_pos hx]at h
 by_cases hy:isF y=true
 ·rw[if_pos hy]at h
  exact(encF_inj x (isF_parts.1 hx).2.2 y (isF_parts.1 hy).2.2 [] [] (by rw[h])).1
 ·rw[if_neg hy,encF_eq]at h
  have:=enc_pos x.op.toNat
  have h:=congrArg List.length h
  simp only[List.length_append,List.length_nil]at h
  omega
end
section
open Go.RowKit
def nodeN (op k:Int) (r:RoleB) (kids:List FmB):Prop:=
 (op=1∧isRole r=true∧kids=[]∧k=0)∨
 ((op=2∨op=3)∧k=0∧r=([],[])∧kids.length≠1∧(∀x∈kids,isC x=false∧x.op≠op)∧kids.Pairwise leN∧Apart kids)∨
 (op=4∧1<k∧k<kids.length∧r=([],[])∧(∀x∈kids,isC x=false)∧kids.Pairwise leN)
/- In normal form, but for its greatness. -/
mutual
def NF:FmB→Prop
 | .mk op k r kids=>NFL kids∧nodeN op k r kids
def NFL:List FmB→Prop
 | []=>True
 | f::l=>NF f∧NFL l
end
theorem NF_eq (f:FmB):NF f↔NFL f.kids∧nodeN f.op f.k f.r f.kids:=by cases f;exact Iff.rfl
theorem NFL_all:∀(l:List FmB),NFL l↔∀f∈l,NF f
 | []=>⟨fun _ _ h=>(by cases h),fun _=>trivial⟩
 | x::l=>by
  rw[NFL,NFL_all l]
  simp
theorem NF_const {x:FmB} (h:NF x) (hc:isC x=true):(x.op=2∨x.op=3)∧x = .mk x.op 0 ([],[]) []:=by
 obtain⟨op,k,r,kids⟩:=x
 have hc:=of_decide_eq_true hc
 simp only[FmB.op,FmB.kids]at hc
 obtain⟨h1,rfl⟩:=hc
 rw[NF]at h
 rcases h.2 with h|h|h
 ·exact absurd h.1 h1
 ·exact⟨h.1,by rw[h.2.1,h.2.2.1];rfl⟩
 ·have:=h.2.2.1;have:=h.2.1;simp at *;omega
theorem nodesL_perm {a b:List FmB} (h:a.Perm b):nodesL a=nodesL b:=by
 induction h with
 | nil=>rfl
 | cons x _ ih=>rw[nodesL,nodesL,ih]
 | swap x y l=>simp only[nodesL];omega
 | trans _ _ h1 h2=>rw[h1,h2]
theorem holdsN_perm (T:RoleB→Bool) {a b:List FmB} (h:a.Perm b):holdsN T a=holdsN T b:=by
 induction h with
 | nil=>rfl
 | cons x _ ih=>rw[holdsN,holdsN,ih]
 | swap x y l=>simp only[holdsN];omega
 | trans _ _ h1 h2=>rw[h1,h2]
theorem nodesL_sub {a b:List FmB} (h:a.Sublist b):nodesL a≤nodesL b:=by
 induction h with
 | slnil=>exact Nat.le_refl _
 | cons x _ ih=>rw[nodesL];omega
 | cons_cons x _ ih=>rw[nodesL,nodesL];omega
theorem nodes_flat (op:Int):∀ks:List FmB,nodesL (flatN op ks)≤nodesL ks
 | []=>Nat.le_refl _
 | k::ks=>by
  have ih:=nodes_flat op ks
  unfold flatN at *
  rw[List.flatMap_cons,nodesL_app,nodesL,nodesF_eq k]
  by_cases e:k.op=op
  ·rw[if_pos e];omega
  ·rw[if_neg e];simp only[nodesL];rw[nodesF_eq k];omega
theorem nodes_one (op:Int) (l:List FmB):nodesF (oneN op l)≤1+nodesL l:=by
 unfold oneN
 split
 ·simp [nodesL]
 ·simp [nodesF]
theorem join_nodes {op:Int} {ks:List FmB} {x:FmB} (h:JoinR op ks x):nodesF x≤1+nodesL ks:=by
 rcases h with ⟨k,hk,_,_,rfl⟩|⟨_,l,hp,_,rfl⟩
 ·have:=nodesL_mem hk;omega
 ·have h1:=nodes_one op (cmpctN l)
  have h2:=nodesL_sub (cmpct_sub l)
  have h3:=nodesL_perm hp
  have h4:=nodes_flat op ks
  omega
theorem nodes_rest (ks:List FmB):nodesL (restN ks)≤nodesL ks:=nodesL_sub List.filter_sublist
theorem at_nodes {k:Int} {ks:List FmB} {x:FmB} (h:AtR k ks x):nodesF x≤1+nodesL ks:=by
 have hr:=nodes_rest ks
 rcases h with ⟨_,rfl⟩|⟨_,_,rfl⟩|⟨_,_,h⟩|⟨_,_,_,h⟩|⟨_,_,l,hp,_,rfl⟩
 ·simp [nodesF,nodesL]
 ·simp [nodesF,nodesL]
 ·have:=join_nodes h;omega
 ·have:=join_nodes h;omega
 ·rw[nodesF,nodesL_perm hp];omega
/-- Two rows, one by one. -/
inductive All2 (R:FmB→FmB→Prop):List FmB→List FmB→Prop
 | nil:All2 R [] []
 | cons {a b:FmB} {l m:List FmB} (h:R a b) (t:All2 R l m):All2 R (a::l) (b::m)
theorem shapeL_of {P:FmB→FmB→Prop}:∀(l:List FmB),(∀g∈l,∀y,ShapeR g y→P g y)→∀ys,ShapeL l ys→All2 (fun g y=>ShapeR g y∧P g y) l ys
 | [],_,ys,h=>by rw[ShapeL]at h;rw[h];exact .nil
 | f::l,hp,ys,h=>by
  rw[ShapeL]at h
  obtain⟨y,t,rfl,h1,h2⟩:=h
  exact .cons ⟨h1,hp f (by simp) y h1⟩ (shapeL_of l (fun g hg=>hp g (List.mem_cons_of_mem _ hg)) t h2)
theorem all2_nodes {R:FmB→FmB→Prop} (hp:∀a b,R a b→nodesF b≤nodesF a) {l ys:List FmB} (h:All2 R l ys):nodesL ys≤nodesL l:=by
 induction h with
 | nil=>exact Nat.le_refl _
 | cons h _ ih=>rw[nodesL,nodesL];have:=hp _ _ h;omega
theorem all2_holds (T:RoleB→Bool) {R:FmB→FmB→Prop} (hp:∀a b,R a b→holdsF T b=holdsF T a) {l ys:List FmB} (h:All2 R l ys):holdsN T ys=holdsN T l:=by
 induction h with
 | nil=>rfl
 | cons h _ ih=>rw[holdsN,holdsN,ih,hp _ _ h]
theorem shape_nodes:∀f x:FmB,ShapeR f x→nodesF x≤nodesF f:=by
 refine nodes_ind fun f ih x h=>?_
 rw[shapeR_eq]at h
 by_cases h1:f.op=1
 ·rw[if_pos h1]at h
  have:=nodesF_pos f
  rw[h]
  simp [nodesF,nodesL];omega
 ·rw[if_neg h1]at h
  obtain⟨ks,hk,h⟩:=h
  have hle:=all2_nodes (fun a b h=>h.2) (shapeL_of (P:=fun g y=>nodesF y≤nodesF g) f.kids ih ks hk)
  rw[nodesF_eq f]
  by_cases h4:f.op=4
  ·rw[if_pos h4]at h;have:=at_nodes h;omega
  ·rw[if_neg h4]at h;have:=join_nodes h;omega
theorem shapeL_nodes {l ys:List FmB} (h:ShapeL l ys):nodesL ys≤nodesL l:=all2_nodes (fun _ _ h=>h.2) (shapeL_of (P:=fun g y=>nodesF y≤nodesF g) l (fun g _ y hy=>shape_nodes g y hy) ys h)
theorem mem_flat {op:Int} {ks:List FmB} {y:FmB}:y∈flatN op ks↔∃k∈ks,(k.op=op∧y∈k.kids)∨(k.op≠op∧y=k):=by
 unfold flatN
 rw[List.mem_flatMap]
 constructor
 ·rintro ⟨k,hk,h⟩
  by_cases e:k.op=op
  ·rw[if_pos e]at h;exact⟨k,hk,.inl ⟨e,h⟩⟩
  ·rw[if_neg e]at h;exact⟨k,hk,.inr ⟨e,by simpa using h⟩⟩
 ·rintro ⟨k,hk,⟨e,h⟩|⟨e,rfl⟩⟩
  ·exact⟨k,hk,by rw[if_pos e];exact h⟩
  ·exact⟨y,hk,by rw[if_neg e];simp⟩
/-- What stands within All or Some that is brought into shape. -/
theorem flat_ok {op:Int} (hop:op=2∨op=3) {ks:List FmB} (hN:∀k∈ks,NF k) (hc:∀k∈ks,k.op≠op→isC k=false) {y:FmB} (hy:y∈flatN op ks):NF y∧isC y=false∧y.op≠op:=by
 obtain⟨k,hk,⟨e,h⟩|⟨e,rfl⟩⟩:=mem_flat.1 hy
 ·have h1:=(NF_eq k).1 (hN k hk)
  rcases h1.2 with h2|h2|h2
  ·omega
  ·have:=h2.2.2.2.2.1 y h
   exact⟨(NFL_all _).1 h1.1 y h,this.1,by rw[←e];exact this.2⟩
  ·omega
 ·exact⟨hN y hk,hc y hk e,e⟩
theorem one_cases (op:Int) (l:List FmB):(∃x,l=[x]∧oneN op l=x)∨(l.length≠1∧oneN op l = .mk op 0 ([],[]) l):=by
 unfold oneN
 split
 ·exact .inl ⟨_,rfl,rfl⟩
 ·rename_i h
  refine .inr ⟨fun e=>?_,rfl⟩
  obtain⟨x,rfl⟩:=List.length_eq_one_iff.1 e
  exact h x rfl
theorem join_NF {op:Int} (hop:op=2∨op=3) {ks:List FmB} {x:FmB} (hN:∀k∈ks,NF k) (h:JoinR op ks x):NF x:=by
 rcases h with ⟨k,hk,_,_,rfl⟩|⟨hc,l,hp,hs,rfl⟩
 ·exact hN _ hk
 ·have hm:∀y∈cmpctN l,NF y∧isC y=false∧y.op≠op:=fun y hy=>flat_ok hop hN hc (hp.mem_iff.1 ((cmpct_mem l y).1 hy))
  rcases one_cases op (cmpctN l) with ⟨z,e1,e2⟩|⟨e1,e2⟩
  ·rw[e2];exact(hm z (by rw[e1];simp)).1
  ·rw[e2,NF]
   exact⟨(NFL_all _).2 fun y hy=>(hm y hy).1,.inr (.inl ⟨hop,rfl,rfl,e1,fun y hy=>(hm y hy).2,hs.sublist (cmpct_sub l),cmpct_apart l⟩)⟩
theorem NF_none (op:Int) (hop:op=2∨op=3):NF (.mk op 0 ([],[]) []):=by
 rw[NF]
 exact⟨trivial,.inr (.inl ⟨hop,rfl,rfl,by simp,fun _ h=>(by cases h),List.Pairwise.nil,trivial⟩)⟩
theorem rest_mem {ks:List FmB} {y:FmB}:y∈restN ks↔y∈ks∧isC y=false:=by
 unfold restN
 rw[List.mem_filter]
 simp
theorem at_NF {k:Int} {ks:List FmB} {x:FmB} (hN:∀k∈ks,NF k) (h:AtR k ks x):NF x:=by
 have hr:∀y∈restN ks,NF y:=fun y hy=>hN y (rest_mem.1 hy).1
 rcases h with ⟨_,rfl⟩|⟨_,_,rfl⟩|⟨_,_,h⟩|⟨_,_,_,h⟩|⟨h1,h2,l,hp,hs,rfl⟩
 ·exact NF_none 2 (.inl rfl)
 ·exact NF_none 3 (.inr rfl)
 ·exact join_NF (.inl rfl) hr h
 ·exact join_NF (.inr rfl) hr h
 ·rw[NF]
  exact⟨(NFL_all _).2 fun y hy=>hr y (hp.mem_iff.1 hy),.inr (.inr ⟨rfl,h1,by rw[hp.length_eq];exact h2,rfl,fun y hy=>(rest_mem.1 (hp.mem_iff.1 hy)).2,hs⟩)⟩
theorem forall₂_right {R:FmB→FmB→Prop} {P:FmB→Prop} (hp:∀a b,R a b→P b):∀ {l ys:List FmB},All2 R l ys→∀y∈ys,P y
 | _,_,.nil=>fun _ h=>by cases h
 | _,_,.cons h t=>fun y hy=>by
  rcases List.mem_cons.1 hy with rfl|hy
  ·exact hp _ _ h
  ·exact forall₂_right hp t y hy
theorem shape_NF:∀f:FmB,rightF f=true→∀x,ShapeR f x→NF x:=by
 refine nodes_ind fun f ih hf x h=>?_
 rw[rightF_eq,Bool.and_eq_true]at hf
 have hk:=rightL_mem hf.1
 rw[shapeR_eq]at h
 by_cases h1:f.op=1
 ·rw[if_pos h1]at h
  rcases rightN_op hf.2 with ⟨_,h2,h3,h4⟩|h|h
  ·rw[h,NF];exact⟨trivial,.inl ⟨rfl,h2,rfl,rfl⟩⟩
  ·omega
  ·omega
 ·rw[if_neg h1]at h
  obtain⟨ks,hks,h⟩:=h
  have hN:∀k∈ks,NF k:=forall₂_right (fun a b h=>h.2) (shapeL_of (P:=fun _ y=>NF y) f.kids (fun g hg y hy=>ih g hg (hk g hg) y hy) ks hks)
  by_cases h4:f.op=4
  ·rw[if_pos h4]at h;exact at_NF hN h
  ·rw[if_neg h4]at h
   exact join_NF (by rcases rightN_op hf.2 with h|h|h <;> omega) hN h
theorem shapeL_NF {l ys:List FmB} (hl:rightL l=true) (h:ShapeL l ys):∀y∈ys,NF y:=
 forall₂_right (fun _ _ h=>h.2) (shapeL_of (P:=fun _ y=>NF y) l (fun g hg y hy=>shape_NF g (rightL_mem hl g hg) y hy) ys h)
/- It says the same. -/
theorem holdsN_all (T:RoleB→Bool):∀l:List FmB,l.length≤holdsN T l↔∀x∈l,holdsF T x=true
 | []=>⟨fun _ _ h=>(by cases h),fun _=>Nat.le_refl _⟩
 | x::l=>by
  have ih:=holdsN_all T l
  have hl:=holdsN_len T l
  rw[holdsN,List.length_cons,List.forall_mem_cons,←ih]
  by_cases e:holdsF T x=true
  ·rw[if_pos e];exact⟨fun h=>⟨e,by omega⟩,fun h=>by have:=h.2;omega⟩
  ·rw[if_neg e];exact⟨fun h=>by omega,fun h=>absurd h.1 e⟩
theorem holdsN_any (T:RoleB→Bool):∀l:List FmB,1≤holdsN T l↔∃x∈l,holdsF T x=true
 | []=>⟨fun h=>by simp [holdsN]at h,fun⟨_,h,_⟩=>by cases h⟩
 | x::l=>by
  have ih:=holdsN_any T l
  rw[holdsN]
  by_cases e:holdsF T x=true
  ·rw[if_pos e];exact⟨fun _=>⟨x,by simp,e⟩,fun _=>by omega⟩
  ·rw[if_neg e,Nat.zero_add,ih]
   exact⟨fun⟨y,hy,h⟩=>⟨y,List.mem_cons_of_mem _ hy,h⟩,fun⟨y,hy,h⟩=>by
    rcases List.mem_cons.1 hy with rfl|hy
    ·exact absurd h e
    ·exact⟨y,hy,h⟩⟩
theorem holds_all (T:RoleB→Bool) (k:Int) (r:RoleB) (l:List FmB):holdsF T (.mk 2 k r l)=true↔∀x∈l,holdsF T x=true:=by
 rw[←holdsN_all,holdsF,if_neg (by decide),decide_eq_true_iff,leastN,if_pos rfl]
 omega
theorem holds_some (T:RoleB→Bool) (k:Int) (r:RoleB) (l:List FmB):holdsF T (.mk 3 k r l)=true↔∃x∈l,holdsF T x=true:=by
 rw[←holdsN_any,holdsF,if_neg (by decide),decide_eq_true_iff,leastN,if_neg (by decide),if_pos rfl]
 omega
theorem mk_eta2 (k:FmB) {op:Int} (h:k.op=op):k = .mk op k.k k.r k.kids:=by cases k;cases h;rfl
theorem join_all (T:RoleB→Bool) {ks:List FmB} {x:FmB} (hN:∀k∈ks,NF k) (h:JoinR 2 ks x):holdsF T x=true↔∀k∈ks,holdsF T k=true:=by
 rcases h with ⟨k,hk,h1,h2,rfl⟩|⟨hc,l,hp,hs,rfl⟩
 ·obtain⟨h3,h4⟩:=NF_const (hN x hk) h2
  have h5:x.op=3:=by omega
  have hx:¬holdsF T x=true:=by rw[h4,h5,holds_some];rintro ⟨_,h,_⟩;cases h
  exact⟨fun h=>absurd h hx,fun h=>absurd (h x hk) hx⟩
 ·have h1:holdsF T (oneN 2 (cmpctN l))=true↔∀y∈flatN 2 ks,holdsF T y=true:=by
   have e:(∀y∈flatN 2 ks,holdsF T y=true)↔∀y∈cmpctN l,holdsF T y=true:=⟨fun h y hy=>h y (hp.mem_iff.1 ((cmpct_mem l y).1 hy)),fun h y hy=>h y ((cmpct_mem l y).2 (hp.mem_iff.2 hy))⟩
   rw[e]
   rcases one_cases 2 (cmpctN l) with ⟨z,e1,e2⟩|⟨e1,e2⟩
   ·rw[e2,e1];simp
   ·rw[e2,holds_all]
  rw[h1]
  constructor
  ·intro h k hk
   by_cases e:k.op=2
   ·rw[mk_eta2 k e,holds_all];exact fun y hy=>h y (mem_flat.2 ⟨k,hk,.inl ⟨e,hy⟩⟩)
   ·exact h k (mem_flat.2 ⟨k,hk,.inr ⟨e,rfl⟩⟩)
  ·intro h y hy
   obtain⟨k,hk,⟨e,h2⟩|⟨e,rfl⟩⟩:=mem_flat.1 hy
   ·have:=h k hk;rw[mk_eta2 k e,holds_all]at this;exact this y h2
   ·exact h y hk
theorem join_some (T:RoleB→Bool) {ks:List FmB} {x:FmB} (hN:∀k∈ks,NF k) (h:JoinR 3 ks x):holdsF T x=true↔∃k∈ks,holdsF T k=true:=by
 rcases h with ⟨k,hk,h1,h2,rfl⟩|⟨hc,l,hp,hs,rfl⟩
 ·obtain⟨h3,h4⟩:=NF_const (hN x hk) h2
  have h5:x.op=2:=by omega
  have hx:holdsF T x=true:=by rw[h4,h5,holds_all];exact fun _ h=>by cases h
  exact⟨fun _=>⟨x,hk,hx⟩,fun _=>hx⟩
 ·have h1:holdsF T (oneN 3 (cmpctN l))=true↔∃y∈flatN 3 ks,holdsF T y=true:=by
   have e:(∃y∈flatN 3 ks,holdsF T y=true)↔∃y∈cmpctN l,holdsF T y=true:=⟨fun⟨y,hy,h⟩=>⟨y,(cmpct_mem l y).2 (hp.mem_iff.2 hy),h⟩,fun⟨y,hy,h⟩=>⟨y,hp.mem_iff.1 ((cmpct_mem l y).1 hy),h⟩⟩
   rw[e]
   rcases one_cases 3 (cmpctN l) with ⟨z,e1,e2⟩|⟨e1,e2⟩
   ·rw[e2,e1];simp
   ·rw[e2,holds_some]
  rw[h1]
  constructor
  ·rintro ⟨y,hy,h⟩
   obtain⟨k,hk,⟨e,h2⟩|⟨e,rfl⟩⟩:=mem_flat.1 hy
   ·exact⟨k,hk,by rw[mk_eta2 k e,holds_some];exact⟨y,h2,h⟩⟩
   ·exact⟨y,hk,h⟩
  ·rintro ⟨k,hk,h⟩
   by_cases e:k.op=3
   ·rw[mk_eta2 k e,holds_some]at h
    obtain⟨y,hy,h⟩:=h
    exact⟨y,mem_flat.2 ⟨k,hk,.inl ⟨e,hy⟩⟩,h⟩
   ·exact⟨k,mem_flat.2 ⟨k,hk,.inr ⟨e,rfl⟩⟩,h⟩
theorem holds_rest (T:RoleB→Bool):∀ks:List FmB,(∀k∈ks,NF k)→holdsN T ks=truesN ks+holdsN T (restN ks)
 | [],_=>rfl
 | x::ks,hN=>by
  have ih:=holds_rest T ks (fun k hk=>hN k (List.mem_cons_of_mem _ hk))
  unfold truesN restN at *
  rw[holdsN,ih]
  by_cases hc:isC x=true
  ·obtain⟨h3,h4⟩:=NF_const (hN x (by simp)) hc
   rw[List.filter_cons_of_neg (p:=fun k=>!isC k) (by simp [hc])]
   by_cases h2:x.op=2
   ·have hx:holdsF T x=true:=by rw[h4,h2,holds_all];exact fun _ h=>by cases h
    rw[List.filter_cons_of_pos (p:=fun k=>isC k&&decide (k.op=2)) (by simp [hc,h2]),if_pos hx,List.length_cons]
    omega
   ·have hx:¬holdsF T x=true:=by rw[h4,show x.op=3 by omega,holds_some];rintro ⟨_,h,_⟩;cases h
    rw[List.filter_cons_of_neg (p:=fun k=>isC k&&decide (k.op=2)) (by simp [h2]),if_neg hx]
    omega
  ·rw[List.filter_cons_of_pos (p:=fun k=>!isC k) (by simpa using hc),List.filter_cons_of_neg (p:=fun k=>isC k&&decide (k.op=2)) (by simp [hc]),holdsN]
   omega
theorem at_holds (T:RoleB→Bool) {k:Int} {ks:List FmB} {x:FmB} (hN:∀k∈ks,NF k) (h:AtR k ks x):holdsF T x=true↔k≤(holdsN T ks:Int):=by
 have hr:∀y∈restN ks,NF y:=fun y hy=>hN y (rest_mem.1 hy).1
 have h0:=holds_rest T ks hN
 have hl:=holdsN_len T (restN ks)
 rcases h with ⟨h1,rfl⟩|⟨h1,h2,rfl⟩|⟨h1,h2,h⟩|⟨h1,h2,h3,h⟩|⟨h1,h2,l,hp,hs,rfl⟩
 ·rw[holds_all];exact⟨fun _=>by omega,fun _ _ h=>by cases h⟩
 ·rw[holds_some];exact⟨fun⟨_,h,_⟩=>(by cases h),fun h=>by omega⟩
 ·rw[join_all T hr h,←holdsN_all];omega
 ·rw[join_some T hr h,←holdsN_any];omega
 ·rw[holdsF,if_neg (by decide),decide_eq_true_iff,holdsN_perm T hp,leastN,if_neg (by decide),if_neg (by decide)];omega
theorem shape_holds (T:RoleB→Bool):∀f:FmB,rightF f=true→∀x,ShapeR f x→holdsF T x=holdsF T f:=by
 refine nodes_ind fun f ih hf x h=>?_
 rw[rightF_eq,Bool.and_eq_true]at hf
 have hk:=rightL_mem hf.1
 rw[shapeR_eq]at h
 by_cases h1:f.op=1
 ·rw[if_pos h1]at h
  rw[h,holdsF_eq T f,if_pos h1,holdsF,if_pos rfl]
 ·rw[if_neg h1]at h
  obtain⟨ks,hks,h⟩:=h
  have hN:=shapeL_NF hf.1 hks
  have hlen:=hks.len
  have hh:=all2_holds T (fun a b h=>h.2) (shapeL_of (P:=fun g y=>holdsF T y=holdsF T g) f.kids (fun g hg y hy=>ih g hg (hk g hg) y hy) ks hks)
  rw[Bool.eq_iff_iff,holdsF_eq T f,if_neg h1,decide_eq_true_iff]
  rcases rightN_op hf.2 with h2|h2|h2
  ·omega
  ·rw[if_neg (by omega)]at h
   rcases h2.1 with e|e
   ·rw[e]at h ⊢
    rw[join_all T hN h,←holdsN_all,leastN,if_pos rfl];omega
   ·rw[e]at h ⊢
    rw[join_some T hN h,←holdsN_any,leastN,if_neg (by decide),if_pos rfl];omega
  ·rw[if_pos h2.1]at h
   rw[at_holds T hN h,leastN,if_neg (by omega),if_neg (by omega),hh]
/- Its own normal form. -/
theorem isF_kids {x:FmB} (h:isF x=true):∀k∈x.kids,isF k=true:=by
 rw[isF_parts]at h
 intro k hk
 rw[isF_parts]
 have h1:=nodesL_mem hk
 have h2:=deepL_mem hk
 rw[nodesF_eq x,deepF_eq x,rightF_eq x,Bool.and_eq_true]at h
 exact⟨by omega,by omega,rightL_mem h.2.2.1 k hk⟩
end
section
open Go.RowKit
def Sim (x y:FmB):Prop:=x=y∨(isF x=false∧isF y=false)
def SimN (x y:FmB):Prop:=NF x∧NF y∧Sim x y
theorem const_isF {x:FmB} (h:NF x) (hc:isC x=true):isF x=true:=by
 obtain⟨h1,h2⟩:=NF_const h hc
 rw[h2]
 rcases h1 with e|e <;> rw[e] <;> decide
theorem SimN.eq {a b:FmB} (h:SimN a b) (hf:isF a=true):a=b:=by
 rcases h.2.2 with e|⟨e,_⟩
 ·exact e
 ·rw[hf]at e;cases e
theorem SimN.eq2 {a b:FmB} (h:SimN a b) (hf:isF b=true):a=b:=by
 rcases h.2.2 with e|⟨_,e⟩
 ·exact e
 ·rw[hf]at e;cases e
theorem SimN.const {a b:FmB} (h:SimN a b) (hc:isC a=true):a=b:=h.eq (const_isF h.1 hc)
theorem SimN.const2 {a b:FmB} (h:SimN a b) (hc:isC b=true):a=b:=h.eq2 (const_isF h.2.1 hc)
theorem SimN.isC {a b:FmB} (h:SimN a b):isC a=isC b:=by
 rw[Bool.eq_iff_iff]
 exact⟨fun e=>by rw[←h.const e];exact e,fun e=>by rw[h.const2 e];exact e⟩
theorem All2.left {R:FmB→FmB→Prop}:∀ {l m:List FmB},All2 R l m→∀a∈l,∃b∈m,R a b
 | _,_,.nil=>fun _ h=>by cases h
 | _,_,.cons h t=>fun a ha=>by
  rcases List.mem_cons.1 ha with rfl|ha
  ·exact⟨_,by simp,h⟩
  ·obtain⟨b,hb,hr⟩:=t.left a ha
   exact⟨b,List.mem_cons_of_mem _ hb,hr⟩
theorem All2.right {R:FmB→FmB→Prop}:∀ {l m:List FmB},All2 R l m→∀b∈m,∃a∈l,R a b
 | _,_,.nil=>fun _ h=>by cases h
 | _,_,.cons h t=>fun b hb=>by
  rcases List.mem_cons.1 hb with rfl|hb
  ·exact⟨_,by simp,h⟩
  ·obtain⟨a,ha,hr⟩:=t.right b hb
   exact⟨a,List.mem_cons_of_mem _ ha,hr⟩
theorem all2_same {l m:List FmB} (h:All2 SimN l m) (hf:∀a∈l,isF a=true):l=m:=by
 induction h with
 | nil=>rfl
 | cons h _ ih=>rw[h.eq (hf _ (by simp)),ih (fun a ha=>hf a (List.mem_cons_of_mem _ ha))]
theorem all2_trues {l m:List FmB} (h:All2 SimN l m):truesN l=truesN m:=by
 induction h with
 | nil=>rfl
 | @cons a b l m h _ ih=>
  unfold truesN at *
  have e:(isC a&&decide (a.op=2))=(isC b&&decide (b.op=2)):=by
   by_cases hc:isC a=true
   ·rw[h.const hc]
   ·have:isC b=false:=by rw[←h.isC];simpa using hc
    rw[this];simp [hc]
  rw[List.filter_cons,List.filter_cons,e]
  split
  ·rw[List.length_cons,List.length_cons,ih]
  ·exact ih
theorem all2_rest {l m:List FmB} (h:All2 SimN l m):All2 SimN (restN l) (restN m):=by
 induction h with
 | nil=>exact .nil
 | @cons a b l m h _ ih=>
  unfold restN at *
  rw[List.filter_cons,List.filter_cons,h.isC]
  split
  ·exact .cons h ih
  ·exact ih
theorem all2_len {R:FmB→FmB→Prop} {l m:List FmB} (h:All2 R l m):l.length=m.length:=by
 induction h with
 | nil=>rfl
 | cons _ _ ih=>rw[List.length_cons,List.length_cons,ih]
theorem isF_no {x:FmB} {k:FmB} (hk:k∈x.kids) (h:isF k=false):isF x=false:=by
 cases e:isF x with
 | false=>rfl
 | true=>rw[isF_kids e k hk]at h;cases h
theorem leF_deep {l:List FmB} {n:Nat}:deepL l≤n↔∀x∈l,deepF x≤n:=by
 induction l with
 | nil=>exact⟨fun _ _ h=>(by cases h),fun _=>Nat.zero_le _⟩
 | cons a l ih=>
  rw[deepL,List.forall_mem_cons,←ih]
  omega
theorem rightL_of {l:List FmB} (h:∀x∈l,rightF x=true):rightL l=true:=by
 induction l with
 | nil=>rfl
 | cons a l ih=>rw[rightL,h a (by simp),ih (fun x hx=>h x (List.mem_cons_of_mem _ hx))];rfl
theorem subset_nodes:∀ {a b:List FmB},a.Nodup→(∀x∈a,x∈b)→nodesL a≤nodesL b∧a.length≤b.length
 | [],_,_,_=>⟨Nat.zero_le _,Nat.zero_le _⟩
 | x::a,b,hn,hs=>by
  obtain⟨hx,hn⟩:=List.nodup_cons.1 hn
  obtain⟨s,t,rfl⟩:=List.append_of_mem (hs x (by simp))
  have hs2:∀y∈a,y∈s++t:=fun y hy=>by
   have h1:=hs y (List.mem_cons_of_mem _ hy)
   rw[List.mem_append,List.mem_cons]at h1
   rw[List.mem_append]
   rcases h1 with h|rfl|h
   ·exact .inl h
   ·exact absurd hy hx
   ·exact .inr h
  obtain⟨h1,h2⟩:=subset_nodes hn hs2
  rw[nodesL_app]at h1 ⊢
  rw[List.length_append]at h2 ⊢
  rw[nodesL,nodesL,List.length_cons,List.length_cons]
  omega
/-- With one that isn't right, and that isn't left away, it isn't right. -/
theorem join_bad {op:Int} (hop:op=2∨op=3) {ks l:List FmB} (hN:∀k∈ks,NF k) {k:FmB} (hk:k∈ks) (hb:isF k=false) (hp:l.Perm (flatN op ks)):isF (oneN op (cmpctN l))=false:=by
 cases e:isF (oneN op (cmpctN l)) with
 | false=>rfl
 | true=>
  exfalso
  have hall:∀y∈cmpctN l,isF y=true:=by
   rcases one_cases op (cmpctN l) with ⟨z,e1,e2⟩|⟨e1,e2⟩
   ·rw[e2]at e;intro y hy;rw[e1]at hy;rw[List.mem_singleton.1 hy];exact e
   ·rw[e2]at e;exact isF_kids e
  have hfl:∀y∈flatN op ks,y∈cmpctN l:=fun y hy=>(cmpct_mem l y).2 (hp.mem_iff.2 hy)
  by_cases ho:k.op=op
  ·have hkids:∀y∈k.kids,y∈cmpctN l:=fun y hy=>hfl y (mem_flat.2 ⟨k,hk,.inl ⟨ho,hy⟩⟩)
   have hn:=(NF_eq k).1 (hN k hk)
   rcases hn.2 with h2|h2|h2
   ·omega
   ·obtain⟨_,h3,h4,h5,h6,h7,h8⟩:=h2
    have hkF:∀y∈k.kids,isF y=true:=fun y hy=>hall y (hkids y hy)
    have hnd:=nodup_sorted h7 h8 (fun x hx y _ e=>wrN_inj (hkF x hx) e)
    obtain⟨hs1,hs2⟩:=subset_nodes hnd hkids
    by_cases h0:k.kids=[]
    ·have:isC k=true:=decide_eq_true ⟨by omega,h0⟩
     rw[const_isF (hN k hk) this]at hb
     cases hb
    ·have hl2:2≤k.kids.length:=by
      have:=List.length_pos_iff.2 h0
      omega
     rcases one_cases op (cmpctN l) with ⟨z,e1,e2⟩|⟨e1,e2⟩
     ·rw[e1]at hs2;simp at hs2;omega
     ·rw[e2,isF_parts]at e
      obtain⟨g1,g2,g3⟩:=e
      rw[nodesF]at g1
      rw[deepF]at g2
      rw[rightF,Bool.and_eq_true]at g3
      have hx:isF k=true:=by
       rw[isF_parts,nodesF_eq,deepF_eq,rightF_eq,Bool.and_eq_true]
       refine⟨by omega,?_,rightL_of fun x hx=>(isF_parts.1 (hkF x hx)).2.2,?_⟩
       ·have:deepL k.kids≤deepL (cmpctN l):=leF_deep.2 fun x hx=>deepL_mem (hkids x hx)
        omega
       ·have h8:(cmpctN l).length≤8:=by rcases rightN_op g3.2 with h|h|h <;> omega
        rw[ho,h3,h4]
        unfold rightN
        rw[if_neg (by omega),if_neg (by simp;omega),if_pos hop]
        rfl
      rw[hx]at hb
      cases hb
   ·omega
  ·have:=hall k (hfl k (mem_flat.2 ⟨k,hk,.inr ⟨ho,rfl⟩⟩))
   rw[this]at hb
   cases hb
theorem flat_isF {op:Int} {ks:List FmB} (h:∀k∈ks,isF k=true):∀y∈flatN op ks,isF y=true:=fun y hy=>by
 obtain⟨k,hk,⟨_,h2⟩|⟨_,rfl⟩⟩:=mem_flat.1 hy
 ·exact isF_kids (h k hk) y h2
 ·exact h y hk
theorem const_one {op:Int} (hop:op=2∨op=3) {x y:FmB} (hx:NF x) (hy:NF y) (h1:x.op≠op) (h2:isC x=true) (h3:y.op≠op) (h4:isC y=true):x=y:=by
 obtain⟨a1,a2⟩:=NF_const hx h2
 obtain⟨b1,b2⟩:=NF_const hy h4
 rw[a2,b2,show x.op=y.op by omega]
theorem join_det {op:Int} (hop:op=2∨op=3) {ks ks':List FmB} (h:All2 SimN ks ks') {x y:FmB} (hx:JoinR op ks x) (hy:JoinR op ks' y):Sim x y:=by
 have hN:∀k∈ks,NF k:=fun k hk=>by obtain⟨b,_,h⟩:=h.left k hk;exact h.1
 have hN':∀k∈ks',NF k:=fun k hk=>by obtain⟨b,_,h⟩:=h.right k hk;exact h.2.1
 rcases hx with ⟨k,hk,h1,h2,rfl⟩|⟨hc,l,hp,hs,rfl⟩
 ·obtain⟨k',hk',hr⟩:=h.left x hk
  have e:=hr.const h2
  rw[←e]at hk'
  rcases hy with ⟨k2,hk2,h3,h4,rfl⟩|⟨hc,_⟩
  ·exact .inl (const_one hop (hN x hk) (hN' y hk2) h1 h2 h3 h4)
  ·rw[hc x hk' h1]at h2;cases h2
 ·rcases hy with ⟨k2,hk2,h3,h4,rfl⟩|⟨hc',l',hp',hs',rfl⟩
  ·obtain⟨k',hk',hr⟩:=h.right y hk2
   have e:=hr.const2 h4
   rw[e]at hk'
   rw[hc y hk' h3]at h4;cases h4
  ·by_cases hall:∀k∈ks,isF k=true
   ·have e:=all2_same h hall
    subst e
    have:=sorted_perm (hp.trans hp'.symm) hs hs' (fun a ha b _ e=>wrN_inj (flat_isF hall a (hp.mem_iff.1 ha)) e)
    exact .inl (by rw[this])
   ·obtain⟨k,hk,hb⟩:∃k∈ks,isF k=false:=by
     apply Classical.byContradiction
     intro hno
     exact hall fun k hk=>by
      cases e:isF k with
      | true=>rfl
      | false=>exact absurd ⟨k,hk,e⟩ hno
    obtain⟨k',hk',hr⟩:=h.left k hk
    have hb':isF k'=false:=by
     rcases hr.2.2 with e|⟨_,e⟩
     ·rw[←e];exact hb
     ·exact e
    exact .inr ⟨join_bad hop hN hk hb hp,join_bad hop hN' hk' hb' hp'⟩
theorem at_det {k:Int} {ks ks':List FmB} (h:All2 SimN ks ks') {x y:FmB} (hx:AtR k ks x) (hy:AtR k ks' y):Sim x y:=by
 have ht:=all2_trues h
 have hr:=all2_rest h
 have hl:=all2_len hr
 rcases hx with ⟨a1,rfl⟩|⟨a1,a2,rfl⟩|⟨a1,a2,a3⟩|⟨a1,a2,a3,a4⟩|⟨a1,a2,l,hp,hs,rfl⟩ <;> rcases hy with ⟨b1,rfl⟩|⟨b1,b2,rfl⟩|⟨b1,b2,b3⟩|⟨b1,b2,b3,b4⟩|⟨b1,b2,l',hp',hs',rfl⟩ <;> first|(exact .inl rfl)|(exfalso;omega)|skip
 ·exact join_det (.inl rfl) hr a3 b3
 ·exact join_det (.inr rfl) hr a4 b4
 ·by_cases hall:∀k∈restN ks,isF k=true
  ·have e:=all2_same hr hall
   rw[←e]at hp'
   have:=sorted_perm (hp.trans hp'.symm) hs hs' (fun a ha b _ e=>wrN_inj (hall a (hp.mem_iff.1 ha)) e)
   exact .inl (by rw[this,ht])
  ·obtain⟨k2,hk,hb⟩:∃k∈restN ks,isF k=false:=by
    apply Classical.byContradiction
    intro hno
    exact hall fun k hk=>by
     cases e:isF k with
     | true=>rfl
     | false=>exact absurd ⟨k,hk,e⟩ hno
   obtain⟨k',hk',hr2⟩:=hr.left k2 hk
   have hb':isF k'=false:=by
    rcases hr2.2.2 with e|⟨_,e⟩
    ·rw[←e];exact hb
    ·exact e
   exact .inr ⟨isF_no (x:=.mk 4 _ _ l) (hp.mem_iff.2 hk) hb,isF_no (x:=.mk 4 _ _ l') (hp'.mem_iff.2 hk') hb'⟩
theorem shape_det:∀f:FmB,rightF f=true→∀x y,ShapeR f x→ShapeR f y→SimN x y:=by
 refine nodes_ind fun f ih hf x y hx hy=>?_
 refine⟨shape_NF f hf x hx,shape_NF f hf y hy,?_⟩
 rw[rightF_eq,Bool.and_eq_true]at hf
 have hk:=rightL_mem hf.1
 rw[shapeR_eq]at hx hy
 by_cases h1:f.op=1
 ·rw[if_pos h1]at hx hy
  exact .inl (by rw[hx,hy])
 ·rw[if_neg h1]at hx hy
  obtain⟨ks,hks,hx⟩:=hx
  obtain⟨ks',hks',hy⟩:=hy
  have key:∀l:List FmB,(∀g∈l,g∈f.kids)→∀a b,ShapeL l a→ShapeL l b→All2 SimN a b:=by
   intro l
   induction l with
   | nil=>intro _ a b ha hb;rw[ShapeL]at ha hb;rw[ha,hb];exact .nil
   | cons g l ih2=>
    intro hg a b ha hb
    rw[ShapeL]at ha hb
    obtain⟨y1,t1,rfl,c1,d1⟩:=ha
    obtain⟨y2,t2,rfl,c2,d2⟩:=hb
    have hm:=hg g (by simp)
    exact .cons (ih g hm (hk g hm) y1 y2 c1 c2) (ih2 (fun z hz=>hg z (List.mem_cons_of_mem _ hz)) t1 t2 d1 d2)
  have h2:=key f.kids (fun _ h=>h) ks ks' hks hks'
  by_cases h4:f.op=4
  ·rw[if_pos h4]at hx hy;exact at_det h2 hx hy
  ·rw[if_neg h4]at hx hy
   exact join_det (by rcases rightN_op hf.2 with h|h|h <;> omega) h2 hx hy
/-- The normal form of a formula, where another is known that is right. -/
theorem shape_is {f x y:FmB} (hf:isF f=true) (hx:ShapeR f x) (hxF:isF x=true) (hy:ShapeR f y):y=x:=((shape_det f (isF_parts.1 hf).2.2 x y hx hy).eq hxF).symm
end
end Go.Proofs.YtkfinhpfdcjoeaaGreat
