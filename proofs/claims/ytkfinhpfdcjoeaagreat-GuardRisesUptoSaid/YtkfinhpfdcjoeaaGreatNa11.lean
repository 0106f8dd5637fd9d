/- Texts that the proof leans on, in one: ModelMath, GgMath, TagMath, KeyMath, KeyCells, RefCredGreat, KeySize, GgCells, CredParse, RefKGreat. -/
import Derived.Test.YtkfinhpfdcjoeaaGreatNa7
import Derived.Test.YtkfinhpfdcjoeaaGreatNa10
import Derived.Test.YtkfinhpfdcjoeaaGreatNa1
import Derived.Test.YtkfinhpfdcjoeaaGreatProg
import Derived.Test.YtkfinhpfdcjoeaaGreatChecked
import Derived.Deep.QuietTactic
import Derived.BigQuiet
import Derived.Test.YtkfinhpfdcjoeaaGreatNa2
import Derived.Test.YtkfinhpfdcjoeaaGreatNa4
/- The least model of credentials: plain words, nothing of the program's text. -/
namespace Go.Proofs.YtkfinhpfdcjoeaaGreat
section
open Go.RowKit
/-- Somebody is in a role. -/
abbrev FactB:=RoleB×List UInt8
def ltF (a b:FactB):Bool:=lexLt ltR ltS a b
theorem ltF_ord:Ord ltF:=lexLt_ord ltR_ord ltS_ord
/-- What follows from credentials. -/
inductive Der (ls:List CredB):FactB→Prop
 | mem {c:CredB}:c∈ls→isCred c=true→c.kind=1→Der ls (c.head,c.who)
 | inc {c:CredB} {w:List UInt8}:c∈ls→isCred c=true→c.kind=2→Der ls (c.b,w)→Der ls (c.head,w)
 | link {c:CredB} {b w:List UInt8}:c∈ls→isCred c=true→c.kind=3→Der ls (c.b,b)→Der ls ((b,c.w2),w)→Der ls (c.head,w)
 | both {c:CredB} {w:List UInt8}:c∈ls→isCred c=true→c.kind=4→Der ls (c.b,w)→Der ls (c.c,w)→Der ls (c.head,w)
theorem Der.mono {ls ls':List CredB} (h:∀c∈ls,isCred c=true→c∈ls'):∀ {f:FactB},Der ls f→Der ls' f:=by
 intro f hf
 induction hf with
 | mem hc hr hk=>exact .mem (h _ hc hr) hr hk
 | inc hc hr hk _ ih=>exact .inc (h _ hc hr) hr hk ih
 | link hc hr hk _ _ ih1 ih2=>exact .link (h _ hc hr) hr hk ih1 ih2
 | both hc hr hk _ _ ih1 ih2=>exact .both (h _ hc hr) hr hk ih1 ih2
/-- xs are the facts of the least model of ls, in order. -/
def ModelOf (ls:List CredB) (xs:List FactB):Prop:=RisingG ltF xs∧∀f,f∈xs↔Der ls f
theorem ModelOf.one {ls:List CredB} {a b:List FactB} (ha:ModelOf ls a) (hb:ModelOf ls b):a=b:=
 ha.1.ext ltF_ord hb.1 fun x=>(ha.2 x).trans (hb.2 x).symm
/-- Who may be in a role at all: the Members' names. -/
theorem Der.who {ls:List CredB} {f:FactB} (h:Der ls f):∃c∈ls,isCred c=true∧c.kind=1∧c.who=f.2:=by
 induction h with
 | mem hc hr hk=>exact⟨_,hc,hr,hk,rfl⟩
 | inc _ _ _ _ ih=>exact ih
 | link _ _ _ _ _ _ ih2=>exact ih2
 | both _ _ _ _ _ ih1 _=>exact ih1
theorem Der.head {ls:List CredB} {f:FactB} (h:Der ls f):∃c∈ls,isCred c=true∧c.head=f.1:=by
 cases h with
 | mem hc hr _=>exact⟨_,hc,hr,rfl⟩
 | inc hc hr _ _=>exact⟨_,hc,hr,rfl⟩
 | link hc hr _ _ _=>exact⟨_,hc,hr,rfl⟩
 | both hc hr _ _ _=>exact⟨_,hc,hr,rfl⟩
/-- The names of credentials. -/
def whosOf (ls:List CredB):List (List UInt8):=ls.flatMap (fun c=>[c.who,c.head.1,c.b.1,c.c.1])
theorem whosOf_len (ls:List CredB):(whosOf ls).length=ls.length*4:=by
 unfold whosOf
 induction ls with
 | nil=>rfl
 | cons x l ih=>rw[List.flatMap_cons,List.length_append,ih,List.length_cons];simp;omega
theorem whosOf_who {ls:List CredB} {c:CredB} (h:c∈ls):c.who∈whosOf ls:=by
 unfold whosOf
 rw[List.mem_flatMap]
 exact⟨c,h,by simp⟩
/-- Pairs of heads and names: no more facts than these. -/
def pairsF (rs:List RoleB) (ns:List (List UInt8)):List FactB:=rs.flatMap (fun r=>ns.map (fun n=>(r,n)))
theorem pairsF_len (rs:List RoleB) (ns:List (List UInt8)):(pairsF rs ns).length=rs.length*ns.length:=by
 unfold pairsF
 induction rs with
 | nil=>simp
 | cons x l ih=>rw[List.flatMap_cons,List.length_append,ih,List.length_map,List.length_cons,Nat.add_mul];omega
theorem facts_le {rs:List RoleB} {ns:List (List UInt8)} {xs:List FactB} (hd:xs.Nodup) (h:∀f∈xs,f.1∈rs∧f.2∈ns):xs.length≤rs.length*ns.length:=by
 rw[←pairsF_len]
 refine nodup_lengthG _ _ hd fun f hf=>?_
 unfold pairsF
 rw[List.mem_flatMap]
 exact⟨f.1,(h f hf).1,List.mem_map.2 ⟨f.2,(h f hf).2,rfl⟩⟩
end
section
open Go.RowKit
/-- A credential that is held, with its tag and its Release. -/
structure GdB where
 cred:CredB
 tag:List UInt8
 rel:FmB
/-- An Ack. -/
structure AkB where
 role:RoleB
 rel:FmB
 clo:List CredB
/-- A party. -/
structure PartyB where
 name:List UInt8
 creds:List GdB
 acks:List AkB
def noFm:FmB:=.mk 0 0 ([],[]) []
/-- The normal form of any formula, with its error. -/
def NormR (f:FmB) (k:Int) (y:FmB):Prop:=
 (isF f=false∧y=noFm∧k=11)∨(isF f=true∧∃x,ShapeR f x∧((isF x=true∧y=x∧k=0)∨(isF x=false∧y=noFm∧k=12)))
theorem NormR.det {f:FmB} {k k':Int} {y y':FmB} (h:NormR f k y) (h':NormR f k' y'):k=k'∧y=y':=by
 rcases h with ⟨h1,rfl,rfl⟩|⟨h1,x,hx,h⟩
 ·rcases h' with ⟨_,rfl,rfl⟩|⟨h2,_⟩
  ·exact⟨rfl,rfl⟩
  ·rw[h1]at h2;cases h2
 ·rcases h' with ⟨h2,_⟩|⟨_,x',hx',h'⟩
  ·rw[h1]at h2;cases h2
  ·rcases h with ⟨h3,rfl,rfl⟩|⟨h3,rfl,rfl⟩ <;> rcases h' with ⟨h4,rfl,rfl⟩|⟨h4,rfl,rfl⟩
   ·exact⟨rfl,(shape_is h1 hx h3 hx').symm⟩
   ·have:=shape_is h1 hx h3 hx'
    subst this
    rw[h3]at h4;cases h4
   ·have:=shape_is h1 hx' h4 hx
    subst this
    rw[h3]at h4;cases h4
   ·exact⟨rfl,rfl⟩
theorem NormR.zero {f y:FmB} (h:NormR f 0 y):isF f=true∧isF y=true∧∀T,holdsF T y=holdsF T f:=by
 rcases h with ⟨_,_,h⟩|⟨h1,x,hx,⟨h2,rfl,_⟩|⟨_,_,h⟩⟩
 ·cases h
 ·exact⟨h1,h2,fun T=>shape_holds T f (isF_parts.1 h1).2.2 _ hx⟩
 ·cases h
theorem NormR.some_ (f:FmB) (h:isF f=true) {x:FmB} (hx:ShapeR f x) (hxF:isF x=true):NormR f 0 x:=.inr ⟨h,x,hx,.inl ⟨hxF,rfl,rfl⟩⟩
/-- Ack by Ack. -/
def FoldR (c:CredB):List AkB→Int→FmB→Int→FmB→Prop
 | [],k,f,k',f'=>k'=k∧f'=f
 | a::aks,k,f,k',f'=>if k=0∧c∈a.clo then ∃k1 f1,NormR (.mk 2 0 ([],[]) [f,a.rel]) k1 f1∧FoldR c aks k1 f1 k' f' else FoldR c aks k f k' f'
theorem FoldR.det {c:CredB}:∀ {aks:List AkB} {k k1 k2:Int} {f f1 f2:FmB},FoldR c aks k f k1 f1→FoldR c aks k f k2 f2→k1=k2∧f1=f2
 | [],_,_,_,_,_,_,⟨h1,h2⟩,⟨h3,h4⟩=>⟨h1.trans h3.symm,h2.trans h4.symm⟩
 | a::aks,k,_,_,_,_,_,h,h'=>by
  unfold FoldR at h h'
  by_cases hc:k=0∧c∈a.clo
  ·rw[if_pos hc]at h h'
   obtain⟨k3,f3,n1,h⟩:=h
   obtain⟨k4,f4,n2,h'⟩:=h'
   obtain⟨rfl,rfl⟩:=n1.det n2
   exact FoldR.det h h'
  ·rw[if_neg hc]at h h'
   exact FoldR.det h h'
theorem FoldR.bad {c:CredB}:∀ {aks:List AkB} {k k1:Int} {f f1:FmB},k≠0→FoldR c aks k f k1 f1→k1=k∧f1=f
 | [],_,_,_,_,_,h=>h
 | a::aks,k,_,_,_,hk,h=>by
  unfold FoldR at h
  rw[if_neg (fun h=>hk h.1)]at h
  exact FoldR.bad hk h
theorem FoldR.bad_of {c:CredB}:∀ {aks:List AkB} {k:Int} {f:FmB},k≠0→FoldR c aks k f k f
 | [],_,_,_=>⟨rfl,rfl⟩
 | a::aks,k,_,hk=>by
  unfold FoldR
  rw[if_neg (fun h=>hk h.1)]
  exact FoldR.bad_of hk
theorem both_holds (T:RoleB→Bool) (f g:FmB):holdsF T (.mk 2 0 ([],[]) [f,g])=true↔holdsF T f=true∧holdsF T g=true:=by
 rw[holdsF_eq]
 show (if (2:Int)=1 then _ else decide (leastN 2 0 2≤((holdsN T [f,g]:Nat):Int)))=true↔_
 rw[if_neg (by decide)]
 have e:holdsN T [f,g]=(if holdsF T f then 1 else 0)+((if holdsF T g then 1 else 0)+0):=rfl
 have e2:leastN 2 0 2=2:=rfl
 rw[e,e2,decide_eq_true_eq]
 cases holdsF T f <;> cases holdsF T g <;> simp
theorem FoldR.zero {c:CredB}:∀ {aks:List AkB} {f y:FmB},isF f=true→FoldR c aks 0 f 0 y→isF y=true∧∀T,holdsF T y=true→holdsF T f=true∧∀a∈aks,c∈a.clo→holdsF T a.rel=true
 | [],_,_,hf,⟨_,h⟩=>by subst h;exact⟨hf,fun T hT=>⟨hT,fun _ h=>by cases h⟩⟩
 | a::aks,f,y,hf,h=>by
  unfold FoldR at h
  by_cases hc:(0:Int)=0∧c∈a.clo
  ·rw[if_pos hc]at h
   obtain⟨k1,f1,n1,h⟩:=h
   by_cases hk:k1=0
   ·subst hk
    obtain⟨_,n3,n4⟩:=n1.zero
    obtain⟨h1,h2⟩:=FoldR.zero n3 h
    refine⟨h1,fun T hT=>?_⟩
    obtain⟨h3,h4⟩:=h2 T hT
    rw[n4 T,both_holds]at h3
    refine⟨h3.1,fun b hb hcb=>?_⟩
    rcases List.mem_cons.1 hb with rfl|hb
    ·exact h3.2
    ·exact h4 b hb hcb
   ·have:=FoldR.bad hk h
    exact absurd this.1.symm hk
  ·rw[if_neg hc]at h
   obtain⟨h1,h2⟩:=FoldR.zero hf h
   refine⟨h1,fun T hT=>⟨(h2 T hT).1,fun b hb hcb=>?_⟩⟩
   rcases List.mem_cons.1 hb with rfl|hb
   ·exact absurd ⟨rfl,hcb⟩ hc
   ·exact(h2 T hT).2 b hb hcb
/-- The guard of one that is held. -/
def GuardR (x:GdB) (aks:List AkB) (k:Int) (f:FmB):Prop:=∃k1 f1,NormR x.rel k1 f1∧FoldR x.cred aks k1 f1 k f
/-- The guard of a credential. -/
def OfR (p:PartyB) (c:CredB) (k:Int) (f:FmB):Prop:=
 match p.creds.find? (fun x=>decide (x.cred=c)) with
 | none=>k=42∧f=noFm
 | some x=>GuardR x p.acks k f
theorem OfR.det {p:PartyB} {c:CredB} {k k':Int} {y y':FmB} (h:OfR p c k y) (h':OfR p c k' y'):k=k'∧y=y':=by
 unfold OfR at h h'
 split at h <;> rename_i e
 ·rw[e]at h'
  exact⟨h.1.trans h'.1.symm,h.2.trans h'.2.symm⟩
 ·rw[e]at h'
  obtain⟨k1,f1,n1,h⟩:=h
  obtain⟨k2,f2,n2,h'⟩:=h'
  obtain⟨rfl,rfl⟩:=n1.det n2
  exact h.det h'
theorem OfR.zero {p:PartyB} {c:CredB} {y:FmB} (h:OfR p c 0 y):isF y=true∧∀T,holdsF T y=true→∀a∈p.acks,c∈a.clo→holdsF T a.rel=true:=by
 unfold OfR at h
 split at h <;> rename_i x e
 ·cases h.1
 ·have hx:x.cred=c:=of_decide_eq_true (by have:=List.find?_some e;exact this)
  obtain⟨k1,f1,n1,h⟩:=h
  rw[hx]at h
  by_cases hk:k1=0
  ·subst hk
   obtain⟨_,n2,_⟩:=n1.zero
   obtain⟨h1,h2⟩:=h.zero n2
   exact⟨h1,fun T hT=>(h2 T hT).2⟩
  ·exact absurd (h.bad hk).1.symm hk
/-- Who is in a role, by facts. -/
def inM (xs:List FactB) (who:List UInt8):RoleB→Bool:=fun r=>decide ((r,who)∈xs)
theorem inM_mono {ls more:List CredB} {xs ys:List FactB} (hx:ModelOf ls xs) (hy:ModelOf (ls++more) ys) (who:List UInt8) (r:RoleB) (h:inM xs who r=true):inM ys who r=true:=
 decide_eq_true ((hy.2 _).2 (Der.mono (fun _ h _=>List.mem_append_left _ h) ((hx.2 _).1 (of_decide_eq_true h))))
/-- What is free. -/
def FreeR (T:RoleB→Bool) (p:PartyB) (zs:List CredB):Prop:=
 RisingG ltC zs∧∀c,c∈zs↔isCred c=true∧(∃x∈p.creds,x.cred=c)∧∃y,OfR p c 0 y∧holdsF T y=true
theorem FreeR.mono {T U:RoleB→Bool} (hTU:∀r,T r=true→U r=true) {p:PartyB} {a b:List CredB} (ha:FreeR T p a) (hb:FreeR U p b):∀c∈a,c∈b:=fun c hc=>by
 obtain⟨h1,h2,y,h3,h4⟩:=(ha.2 c).1 hc
 exact(hb.2 c).2 ⟨h1,h2,y,h3,holds_mono hTU y (isF_parts.1 h3.zero.1).2.2 h4⟩
/-- May it be told of a role? -/
def toldB (T:RoleB→Bool) (p:PartyB) (r:RoleB):Bool:=p.acks.all fun a=>!decide (a.role=r)||(isF a.rel&&holdsF T a.rel)
/-- The Roles of the Acks that a credential is locked by. -/
def acksB (p:PartyB) (c:CredB):List RoleB:=(p.acks.filter fun a=>decide (c∈a.clo)).map (·.role)
/-- What the law asks of a right party. -/
structure GoodP (p:PartyB):Prop where
 of_:∀x∈p.creds,∃y,OfR p x.cred 0 y
 rel:∀a∈p.acks,isF a.rel=true
 one:∀a∈p.acks,∀b∈p.acks,a.role=b.role→a=b
theorem told_of_free {T:RoleB→Bool} {p:PartyB} (hg:GoodP p) {c:CredB} {y:FmB} (h:OfR p c 0 y) (hT:holdsF T y=true):∀r∈acksB p c,toldB T p r=true:=fun r hr=>by
 obtain⟨a,ha,rfl⟩:=List.mem_map.1 hr
 obtain⟨ha,hc⟩:=List.mem_filter.1 ha
 have hc:=of_decide_eq_true hc
 unfold toldB
 rw[List.all_eq_true]
 intro b hb
 by_cases e:b.role=a.role
 ·have:=hg.one b hb a ha e
  subst this
  rw[hg.rel _ ha,h.zero.2 T hT _ ha hc]
  simp
 ·rw[decide_eq_false e]
  rfl
end
section
open Go.RowKit
end
section
open Go.RowKit
/-- Somebody's key. -/
structure KeyB where
 who:List UInt8
 key:List UInt8
 deriving DecidableEq,Inhabited
/-- A credential with its tag. -/
structure SignB where
 c:CredB
 tag:List UInt8
 deriving DecidableEq,Inhabited
/-- The first key of somebody's. -/
def keyAt (l:List KeyB) (o:List UInt8):Option (List UInt8):=(l.find? (·.who==o)).map (·.key)
def keyOf (l:List KeyB) (o:List UInt8):List UInt8:=(keyAt l o).getD []
end
section
open Go.RowKit
/-- The key k lies at two cells from o on; its bytes can be read from blocks of D. -/
structure KeyAt (D:Nat→Prop) (w:World) (b o:Nat) (k:KeyB):Prop where
 k0:w.cell? ⟨b,o,none⟩=some (.string ⟨k.who.toArray⟩)
 k1:∃ka cap,w.cell? ⟨b,o+1,none⟩=some (.slice ka k.key.length cap)∧BytesAt D w (.slice ka k.key.length cap) k.key
 l0:k.who.length≤9223372036854775807
 l1:k.key.length≤9223372036854775807
theorem KeyAt.keep {D S:Nat→Prop} {w w':World} {b o:Nat} {k:KeyB} (h:KeyAt D w b o k) (hc:Chg S w w') (hb:¬S b) (hD:∀i,D i→¬S i):KeyAt D w' b o k:=by
 obtain⟨ka,cap,h1,h2⟩:=h.k1
 exact⟨hc.cell h.k0 hb,⟨ka,cap,hc.cell h1 hb,h2.keep hc hD⟩,h.l0,h.l1⟩
/-- The keys ls can be read from the address ao on. -/
def KeysAt (D:Nat→Prop) (w:World) (ao:Option Addr) (ls:List KeyB):Prop:=
 ∀i (h:i<ls.length),∃b off,ao=some ⟨b,off,none⟩∧D b∧KeyAt D w b (off+i*2) ls[i]
theorem KeysAt.keep {S D:Nat→Prop} {w w':World} {ao:Option Addr} {ls:List KeyB} (h:KeysAt D w ao ls) (hc:Chg S w w') (hS:∀i,D i→¬S i):KeysAt D w' ao ls:=fun i hi=>
 let ⟨b,off,h1,h2,h3⟩:=h i hi
 ⟨b,off,h1,h2,h3.keep hc (hS b h2) hS⟩
theorem KeysAt.nil (D:Nat→Prop) (w:World) (ao:Option Addr):KeysAt D w ao []:=fun i hi=>by simp at hi
/-- The signed credential s lies at ten cells from o on; its tag's bytes can be read from blocks of D. -/
structure SignAt (D:Nat→Prop) (w:World) (b o:Nat) (s:SignB):Prop where
 cr:CredAt w b o s.c
 tg:∃ta cap,w.cell? ⟨b,o+9,none⟩=some (.slice ta s.tag.length cap)∧BytesAt D w (.slice ta s.tag.length cap) s.tag
 sh:credShort s.c 9223372036854775807
 ln:s.tag.length≤9223372036854775807
theorem SignAt.keep {D S:Nat→Prop} {w w':World} {b o:Nat} {s:SignB} (h:SignAt D w b o s) (hc:Chg S w w') (hb:¬S b) (hD:∀i,D i→¬S i):SignAt D w' b o s:=by
 obtain⟨ta,cap,h1,h2⟩:=h.tg
 exact⟨h.cr.keep hc hb,⟨ta,cap,hc.cell h1 hb,h2.keep hc hD⟩,h.sh,h.ln⟩
/-- The signed credentials ls can be read from the address ao on. -/
def SignsAt (D:Nat→Prop) (w:World) (ao:Option Addr) (ls:List SignB):Prop:=
 ∀i (h:i<ls.length),∃b off,ao=some ⟨b,off,none⟩∧D b∧SignAt D w b (off+i*10) ls[i]
theorem SignsAt.keep {S D:Nat→Prop} {w w':World} {ao:Option Addr} {ls:List SignB} (h:SignsAt D w ao ls) (hc:Chg S w w') (hS:∀i,D i→¬S i):SignsAt D w' ao ls:=fun i hi=>
 let ⟨b,off,h1,h2,h3⟩:=h i hi
 ⟨b,off,h1,h2,h3.keep hc (hS b h2) hS⟩
/-- A signed credential's ten cells, the tag being the slice v. -/
def signBox (c:CredB) (v:Value):Array Value:=
 #[.int .i64 c.kind,.string ⟨c.head.1.toArray⟩,.string ⟨c.head.2.toArray⟩,.string ⟨c.who.toArray⟩,.string ⟨c.b.1.toArray⟩,.string ⟨c.b.2.toArray⟩,.string ⟨c.c.1.toArray⟩,.string ⟨c.c.2.toArray⟩,.string ⟨c.w2.toArray⟩,v]
def signV (c:CredB) (v:Value):Value:=.agg (signBox c v)
theorem cred_at_sign {w:World} {g:Nat} {c:CredB} {v:Value} {ty:TypeId} {f:Nat×Nat} (h:w.heap[g]? = some (.cells (signBox c v) ty f)):CredAt w g 0 c∧w.cell? ⟨g,9,none⟩=some v:=
 ⟨⟨bC h 0,bC h 1,bC h 2,bC h 3,bC h 4,bC h 5,bC h 6,bC h 7,bC h 8⟩,bC h 9⟩
end
section
open Go.RowKit
/-- How great credentials are. -/
def sizeC (c:CredB):Nat:=20+c.head.1.length+c.head.2.length+c.who.length+c.b.1.length+c.b.2.length+c.c.1.length+c.c.2.length+c.w2.length
def totalC:List CredB→Nat
 | []=>0
 | c::l=>sizeC c+totalC l
theorem totalC_append (a b:List CredB):totalC (a++b)=totalC a+totalC b:=by
 induction a with
 | nil=>simp [totalC]
 | cons x l ih=>rw[List.cons_append,totalC,totalC,ih];omega
theorem totalC_len (a:List CredB):a.length≤totalC a:=by
 induction a with
 | nil=>simp [totalC]
 | cons x l ih=>rw[totalC,List.length_cons,sizeC];omega
theorem totalC_mem {a:List CredB} {x:CredB} (h:x∈a):sizeC x≤totalC a:=by
 induction a with
 | nil=>simp at h
 | cons y l ih=>
  rw[totalC]
  rcases List.mem_cons.1 h with rfl|h
  ·omega
  ·have:=ih h;omega
theorem totalC_take (ls:List CredB) (k:Nat) (h:k<ls.length):totalC (ls.take (k+1))=totalC (ls.take k)+sizeC ls[k]:=by
 rw[List.take_succ_eq_append_getElem h,totalC_append];simp [totalC]
theorem totalC_take_le (ls:List CredB) (k:Nat):totalC (ls.take k)≤totalC ls:=by
 conv=>rhs;rw[←List.take_append_drop k ls]
 rw[totalC_append];omega
theorem sizeC_short {c:CredB} {n:Nat} (h:sizeC c≤n):credShort c n:=by
 unfold sizeC at h
 exact⟨by omega,by omega,by omega,by omega,by omega,by omega,by omega,by omega⟩
set_option maxRecDepth 100000 in
set_option maxHeartbeats 2000000 in
theorem great_any {D:Nat→Prop} (ao:Option Addr) (cp:Nat) (ls:List CredB) (w:World) (hn:totalC ls≤4503599627370496) (h:CredsAt D w ao ls) :
  Calls Tryz.prog 6 #[.slice ao ls.length cp] w fun e w'=>e = .returned (.int .i64 (totalC ls))∧Chg (fun _=>False) w w':=by
 have hl:=totalC_len ls
 go_enter Tryz.func6,Tryz.ntmps6
 go_wp2
 go_loopw [3,8] (fun n i wr=>∃k m:Nat,k≤ls.length∧i = .int .i64 k∧n = .int .i64 m∧Hid (m=totalC (ls.take k))∧m≤4503599627370496∧Chg (fun _=>False) w wr) (fun _ i _=>ls.length-(intOf i).toNat)
 case atStart=>exact⟨0,0,Nat.zero_le _,rfl,rfl,rfl,by omega,Chg.refl _ _⟩
 case round=>
  obtain⟨k,m,hk,rfl,rfl,hm,hml,hc⟩:=hrel
  by_cases hlt:k<ls.length
  ·obtain⟨b,off,rfl,_,hat,hs⟩:=(h.keep hc (fun _ _=>id)) k hlt
   have ht:=totalC_take ls k hlt
   have hle:=totalC_take_le ls (k+1)
   rw[ht,←hm.out]at hle
   have hx:Hid (m+sizeC ls[k]=totalC (ls.take (k+1))):=hid (by rw[ht,hm.out])
   clear h ht
   have hsl2:m+sizeC ls[k]≤4503599627370496:=by omega
   clear hle
   generalize ls[k]=s at *
   obtain⟨kk,⟨ho,hw⟩,who,⟨bo,bw⟩,⟨co,cw⟩,w2⟩:=s
   obtain⟨a0,a1,a2,a3,a4,a5,a6,a7,a8⟩:=hat
   obtain⟨s1,s2,s3,s4,s5,s6,s7,s8⟩:=hs
   simp only[sizeC]at a0 a1 a2 a3 a4 a5 a6 a7 a8 s1 s2 s3 s4 s5 s6 s7 s8 hx hsl2
   have HC:=hid hc
   clear hc
   go_wp2
   go_roundw
   case rel=>exact⟨k+1,m+(20+ho.length+hw.length+who.length+bo.length+bw.length+co.length+cw.length+w2.length),by omega,by go_num,by go_num,hx,hsl2,HC.out.alloc _⟩
   case measure=>simp [intOf];omega
  ·have hk2:k=ls.length:=by omega
   have hx:m=totalC ls:=by have:=hm.out;rwa [List.take_of_length_le (by omega)]at this
   subst hx
   have HC:=hid hc
   clear h hc
   go_wp2
   go_ret
   exact⟨rfl,HC.out⟩
end
section
open Go.RowKit
def sizeK (k:KeyB):Nat:=10+k.who.length+k.key.length
def totalK:List KeyB→Nat
 | []=>0
 | k::l=>sizeK k+totalK l
def sizeS (s:SignB):Nat:=sizeC s.c+s.tag.length
def totalS:List SignB→Nat
 | []=>0
 | s::l=>sizeS s+totalS l
theorem totalK_append (a b:List KeyB):totalK (a++b)=totalK a+totalK b:=by
 induction a with
 | nil=>simp [totalK]
 | cons x l ih=>rw[List.cons_append,totalK,totalK,ih];omega
theorem totalK_len (a:List KeyB):a.length≤totalK a:=by
 induction a with
 | nil=>simp [totalK]
 | cons x l ih=>rw[totalK,List.length_cons,sizeK];omega
theorem totalK_take (ls:List KeyB) (k:Nat) (h:k<ls.length):totalK (ls.take (k+1))=totalK (ls.take k)+sizeK ls[k]:=by
 rw[List.take_succ_eq_append_getElem h,totalK_append];simp [totalK]
theorem totalK_take_le (ls:List KeyB) (k:Nat):totalK (ls.take k)≤totalK ls:=by
 conv=>rhs;rw[←List.take_append_drop k ls]
 rw[totalK_append];omega
theorem totalS_append (a b:List SignB):totalS (a++b)=totalS a+totalS b:=by
 induction a with
 | nil=>simp [totalS]
 | cons x l ih=>rw[List.cons_append,totalS,totalS,ih];omega
theorem totalS_len (a:List SignB):a.length≤totalS a:=by
 induction a with
 | nil=>simp [totalS]
 | cons x l ih=>rw[totalS,List.length_cons,sizeS,sizeC];omega
theorem totalS_take (ls:List SignB) (k:Nat) (h:k<ls.length):totalS (ls.take (k+1))=totalS (ls.take k)+sizeS ls[k]:=by
 rw[List.take_succ_eq_append_getElem h,totalS_append];simp [totalS]
theorem totalS_take_le (ls:List SignB) (k:Nat):totalS (ls.take k)≤totalS ls:=by
 conv=>rhs;rw[←List.take_append_drop k ls]
 rw[totalS_append];omega
end
section
open Go.RowKit
def GdB.sign (x:GdB):SignB:=⟨x.cred,x.tag⟩
/-- A credential that is held lies at fifteen cells from o on. -/
structure GdAt (D:Nat→Prop) (w:World) (n b o:Nat) (x:GdB):Prop where
 sg:SignAt D w b o x.sign
 fm:FmAt D w n b (o+10) x.rel
/-- An Ack lies at eight cells from o on. -/
structure AkAt (D:Nat→Prop) (w:World) (n b o:Nat) (a:AkB):Prop where
 ro:RoleAt w b o a.role
 fm:FmAt D w n b (o+2) a.rel
 cl:∃co cc,w.cell? ⟨b,o+7,none⟩=some (.slice co a.clo.length cc)∧(co=none→cc=0)∧CredsAt D w co a.clo
def GdsAt (D:Nat→Prop) (w:World) (n:Nat) (ao:Option Addr) (ls:List GdB):Prop:=
 ∀i (h:i<ls.length),∃b off,ao=some ⟨b,off,none⟩∧D b∧GdAt D w n b (off+i*15) ls[i]
def AksAt (D:Nat→Prop) (w:World) (n:Nat) (ao:Option Addr) (ls:List AkB):Prop:=
 ∀i (h:i<ls.length),∃b off,ao=some ⟨b,off,none⟩∧D b∧AkAt D w n b (off+i*8) ls[i]
theorem GdAt.keep {S D:Nat→Prop} {w w':World} {n b o:Nat} {x:GdB} (h:GdAt D w n b o x) (hc:Chg S w w') (hD:∀i,D i→¬S i) (hb:¬S b):GdAt D w' n b o x:=
 ⟨h.sg.keep hc hb hD,h.fm.keep hc hD hb⟩
theorem AkAt.keep {S D:Nat→Prop} {w w':World} {n b o:Nat} {a:AkB} (h:AkAt D w n b o a) (hc:Chg S w w') (hD:∀i,D i→¬S i) (hb:¬S b):AkAt D w' n b o a:=by
 obtain⟨co,cc,h1,h2,h3⟩:=h.cl
 exact⟨h.ro.keep hc hb,h.fm.keep hc hD hb,co,cc,hc.cell h1 hb,h2,h3.keep hc hD⟩
theorem GdsAt.keep {S D:Nat→Prop} {w w':World} {n:Nat} {ao:Option Addr} {ls:List GdB} (h:GdsAt D w n ao ls) (hc:Chg S w w') (hD:∀i,D i→¬S i):GdsAt D w' n ao ls:=fun i hi=>
 let ⟨b,off,h1,h2,h3⟩:=h i hi
 ⟨b,off,h1,h2,h3.keep hc hD (hD b h2)⟩
theorem AksAt.keep {S D:Nat→Prop} {w w':World} {n:Nat} {ao:Option Addr} {ls:List AkB} (h:AksAt D w n ao ls) (hc:Chg S w w') (hD:∀i,D i→¬S i):AksAt D w' n ao ls:=fun i hi=>
 let ⟨b,off,h1,h2,h3⟩:=h i hi
 ⟨b,off,h1,h2,h3.keep hc hD (hD b h2)⟩
/-- A party that can be read. -/
structure PartyAt (D:Nat→Prop) (w:World) (n:Nat) (p:PartyB) (co:Option Addr) (cc:Nat) (ao:Option Addr) (ac:Nat):Prop where
 name:p.name.length≤9223372036854775807
 gds:GdsAt D w n co p.creds
 aks:AksAt D w n ao p.acks
 z1:co=none→cc=0
 z2:ao=none→ac=0
 lt:∀i,D i→i<w.heap.size
 kinds:∀x∈p.creds,(Lit.int .i64 x.cred.kind).wf=true
theorem PartyAt.keep {S D:Nat→Prop} {w w':World} {n:Nat} {p:PartyB} {co ao:Option Addr} {cc ac:Nat} (h:PartyAt D w n p co cc ao ac) (hc:Chg S w w') (hD:∀i,D i→¬S i):PartyAt D w' n p co cc ao ac:=
 ⟨h.name,h.gds.keep hc hD,h.aks.keep hc hD,h.z1,h.z2,fun i hi=>Nat.lt_of_lt_of_le (h.lt i hi) hc.size,h.kinds⟩
/-- A party's value. -/
def partyV (p:PartyB) (co:Option Addr) (cc:Nat) (ao:Option Addr) (ac:Nat):Value:=.agg #[.string ⟨p.name.toArray⟩,.slice co p.creds.length cc,.slice ao p.acks.length ac]
/-- How great a party is: the law's number. -/
def greatP (p:PartyB):Nat:=p.name.length+((p.creds.map fun x=>sizeS x.sign+20*greatF x.rel).sum+(p.acks.map fun a=>a.role.1.length+a.role.2.length+20*greatF a.rel+totalC a.clo).sum)
end
section
open Go.RowKit
end
section
open Go.RowKit
theorem creds_one {w:World} {g:Nat} {c:CredB} {ty:TypeId} {f:Nat×Nat} (h:w.heap[g]? = some (.cells (credBox c) ty f)) (hs:credShort c 9223372036854775807):CredsAt (fun _=>True) w (some ⟨g,0,none⟩) [c]:=fun i hi=>by
 have:i=0:=by simp at hi;omega
 subst this
 exact⟨g,0,rfl,trivial,cred_at_blk h,hs⟩
/-- A slice of credentials that lie in some block. -/
def Spec.creds (l:List CredB):Spec:=⟨fun v w=>∃ao cp,v = .slice ao l.length cp∧l=l∧CredsAt (fun _=>True) w ao l,fun _ _ _ hc ⟨ao,cp,h1,h2,h3⟩=>⟨ao,cp,h1,h2,h3.keep hc (fun _ _=>id)⟩⟩
def kgSpecs (A m cap:Nat) (ta:Option Addr) (s:SignB):List Spec:=[.any,.any,.any,.any,.any,.eq (.int .i64 (m+sizeS s:Nat)),.any,.any,.any,.eq (.pointer (some ⟨A,0,none⟩)),.any,.any,.any,.any,.any,.any,.any,.any,.any,.any,.any,.any,.any,.any,.any,.any,.any,.any,.any,.any,.any,.any,.any,.eq (.int .i64 m),.eq (.pointer (some ⟨A,0,none⟩)),.eq (credV s.c),.creds [s.c],.eq (.int .i64 (totalC [s.c]:Nat)),.eq (.pointer (some ⟨A,9,none⟩)),.eq (.slice ta s.tag.length cap),.eq (.int .i64 s.tag.length),.eq (.int .i64 (sizeS s:Nat)),.eq (.int .i64 (m+sizeS s:Nat))]
set_option maxRecDepth 100000 in
set_option maxHeartbeats 4000000 in
theorem kgreat_any {D E:Nat→Prop} (ao so:Option Addr) (cp sp:Nat) (ls:List KeyB) (ss:List SignB) (w:World) (hn:totalK ls+totalS ss≤4503599627370496) (h:KeysAt D w ao ls) (hss:SignsAt E w so ss) :
  Calls Tryz.prog 16 #[.slice ao ls.length cp,.slice so ss.length sp] w fun e w'=>e = .returned (.int .i64 (totalK ls+totalS ss:Nat))∧Chg (fun _=>False) w w':=by
 have hl:=totalK_len ls
 have hl2:=totalS_len ss
 go_enter Tryz.func16,Tryz.ntmps16
 go_wp2
 go_loopw [5,12] (fun n i wr=>∃k m:Nat,k≤ls.length∧i = .int .i64 k∧n = .int .i64 m∧Hid (m=totalK (ls.take k))∧m≤4503599627370496∧Chg (fun _=>False) w wr) (fun _ i _=>ls.length-(intOf i).toNat)
 case atStart=>exact⟨0,0,Nat.zero_le _,rfl,rfl,rfl,by omega,Chg.refl _ _⟩
 case round=>
  obtain⟨k,m,hk,rfl,rfl,hm,hml,hc⟩:=hrel
  by_cases hlt:k<ls.length
  ·obtain⟨b,off,rfl,_,hat⟩:=(h.keep hc (fun _ _=>id)) k hlt
   have ht:=totalK_take ls k hlt
   have hle:=totalK_take_le ls (k+1)
   rw[ht,←hm.out]at hle
   have hx:Hid (m+sizeK ls[k]=totalK (ls.take (k+1))):=hid (by rw[ht,hm.out])
   clear h ht
   have hsl2:m+sizeK ls[k]≤4503599627370496:=by omega
   clear hle
   generalize ls[k]=s at *
   obtain⟨a0,⟨ka,cap,a1,_⟩,s1,s2⟩:=hat
   simp only[sizeK]at a0 a1 s1 s2 hx hsl2
   have HC:=hid hc
   clear hc hss
   go_wp2
   go_roundw
   case rel=>exact⟨k+1,m+(10+s.who.length+s.key.length),by omega,by go_num,by go_num,hx,hsl2,HC.out.alloc _⟩
   case measure=>simp [intOf];omega
  ·have hk2:k=ls.length:=by omega
   have hx:m=totalK ls:=by have:=hm.out;rwa [List.take_of_length_le (by omega)]at this
   subst hx
   have HC:=hid hc
   clear h hc hm
   go_wp2
   have hc:=HC.out
   clear HC
   go_loopw [5,29] (fun n i wr=>∃k m:Nat,k≤ss.length∧i = .int .i64 k∧n = .int .i64 m∧Hid (m=totalK ls+totalS (ss.take k))∧m≤4503599627370496∧Chg (fun _=>False) w wr) (fun _ i _=>ss.length-(intOf i).toNat)
   case atStart=>exact⟨0,totalK ls,Nat.zero_le _,rfl,rfl,hid (by simp [totalS]),by omega,hc⟩
   case round=>
    obtain⟨k,m,hk,rfl,rfl,hm,hml,hc⟩:=hrel
    by_cases hlt:k<ss.length
    ·obtain⟨b,off,rfl,_,hat⟩:=(hss.keep hc (fun _ _=>id)) k hlt
     have ht:=totalS_take ss k hlt
     have hle:=totalS_take_le ss (k+1)
     rw[ht]at hle
     have hx:Hid (m+sizeS ss[k]=totalK ls+totalS (ss.take (k+1))):=hid (by rw[ht,hm.out];omega)
     have hsl2:m+sizeS ss[k]≤4503599627370496:=by have:=hm.out;omega
     clear hss ht hle
     generalize ss[k]=s at *
     obtain⟨⟨a0,a1,a2,a3,a4,a5,a6,a7,a8⟩,⟨ta,cap,a9,hbt⟩,hsh,hln⟩:=hat
     have HC:=hid (aI hc (aI hbt hsh))
     clear hc hbt hsh
     go_wp2
     have hA:(wr.alloc (.cells #[.int .i64 s.c.kind,.string ⟨s.c.head.1.toArray⟩,.string ⟨s.c.head.2.toArray⟩,.string ⟨s.c.who.toArray⟩,.string ⟨s.c.b.1.toArray⟩,.string ⟨s.c.b.2.toArray⟩,.string ⟨s.c.c.1.toArray⟩,.string ⟨s.c.c.2.toArray⟩,.string ⟨s.c.w2.toArray⟩,.slice ta s.tag.length cap] 43)).heap[wr.heap.size]? = some (.cells (signBox s.c (.slice ta s.tag.length cap)) 43 (0,0)):=heap_alloc_new wr _
     have hcA:Chg (fun _=>False) w (wr.alloc (.cells #[.int .i64 s.c.kind,.string ⟨s.c.head.1.toArray⟩,.string ⟨s.c.head.2.toArray⟩,.string ⟨s.c.who.toArray⟩,.string ⟨s.c.b.1.toArray⟩,.string ⟨s.c.b.2.toArray⟩,.string ⟨s.c.c.1.toArray⟩,.string ⟨s.c.c.2.toArray⟩,.string ⟨s.c.w2.toArray⟩,.slice ta s.tag.length cap] 43)):=HC.out.1.alloc _
     have HA:=hid hA
     have hy1:sizeS s=totalC [s.c]+s.tag.length:=by simp [totalC,sizeS]
     have HG:Hid (totalC [s.c]≤4503599627370496):=hid (by omega)
     have HB1:=hid hcA
     have HSH:=hid HC.out.2.2
     clear hA hcA HC a0 a1 a2 a3 a4 a5 a6 a7 a8 a9 hm
     generalize (wr.alloc (.cells #[.int .i64 s.c.kind,.string ⟨s.c.head.1.toArray⟩,.string ⟨s.c.head.2.toArray⟩,.string ⟨s.c.who.toArray⟩,.string ⟨s.c.b.1.toArray⟩,.string ⟨s.c.b.2.toArray⟩,.string ⟨s.c.c.1.toArray⟩,.string ⟨s.c.c.2.toArray⟩,.string ⟨s.c.w2.toArray⟩,.slice ta s.tag.length cap] 43))=wa at *
     generalize wr.heap.size=A at *
     refine wp_region_specsE (kgSpecs A m cap ta s) [33,34,35,36,37,38,39,40,41,42,5] [9] 5 (.int .i64 m) (by kernel_rfl) (by kernel_rfl) (by rfl) (by rfl) (by kernel_rfl) ?start ?obs ?fin
     case start=>
      simp only[List.forall_mem_cons]
      exact⟨⟨_,rfl,rfl⟩,fun _ h=>by cases h⟩
     case obs=>
      refine ObsE.cons none (by kernel_rfl) ?_ ?_
      ·refine ObE.plain fun a w hR hk K k=>?_
       obtain⟨_,e5,f5⟩:=hk 5 (by decide)
       clear hk
       go_simp
       exact k _ _ R0 f5
      refine ObsE.cons none (by kernel_rfl) ?_ ?_
      ·refine ObE.plain fun a w hR hk K k=>?_
       obtain⟨_,e9,rfl⟩:=hk 9 (by decide)
       clear hk
       go_simp
       exact k _ _ R0 rfl
      refine ObsE.cons none (by kernel_rfl) ?_ ?_
      ·refine ObE.plain fun a w hR hk K k=>?_
       obtain⟨_,e34,rfl⟩:=hk 34 (by decide)
       clear hk
       obtain⟨hq,y9⟩:=cred_at_sign (bE HA.out hR id)
       obtain⟨y0,y1,y2,y3,y4,y5,y6,y7,y8⟩:=hq
       simp only[Nat.zero_add]at y0 y1 y2 y3 y4 y5 y6 y7 y8
       go_simp
       exact k _ _ R0 rfl
      refine ObsE.cons none (by kernel_rfl) ?_ ?_
      ·refine ObE.plain fun a w hR hk K k=>?_
       obtain⟨_,e35,rfl⟩:=hk 35 (by decide)
       clear hk
       unfold credV credBox at e35
       go_simp
       exact k (.slice (some ⟨w.heap.size,0,none⟩) 1 1) _ ((Chg.refl _ w).alloc _) ⟨_,_,rfl,rfl,creds_one (heap_alloc_new w (.cells (credBox s.c) 34)) HSH.out⟩
      refine ObsE.cons none (by kernel_rfl) ?_ ?_
      ·refine ObE.plain fun a w hR hk K k=>?_
       obtain⟨_,e36,f36⟩:=hk 36 (by decide)
       clear hk
       obtain⟨b,cap,rfl,_,hcr⟩:=f36
       have HB:=hid hcr
       clear hcr
       go_simp
       refine(great_any (D:=fun _=>True) _ _ [s.c] w HG.out HB.out).mono ?_
       rintro e w5 ⟨rfl,hcc⟩
       exact k _ _ hcc rfl
      refine ObsE.cons none (by kernel_rfl) ?_ ?_
      ·refine ObE.plain fun a w hR hk K k=>?_
       obtain⟨_,e9,rfl⟩:=hk 9 (by decide)
       clear hk
       go_simp
       exact k _ _ R0 rfl
      refine ObsE.cons none (by kernel_rfl) ?_ ?_
      ·refine ObE.plain fun a w hR hk K k=>?_
       obtain⟨_,e38,rfl⟩:=hk 38 (by decide)
       clear hk
       obtain⟨hq,y9⟩:=cred_at_sign (bE HA.out hR id)
       obtain⟨y0,y1,y2,y3,y4,y5,y6,y7,y8⟩:=hq
       simp only[Nat.zero_add]at y0 y1 y2 y3 y4 y5 y6 y7 y8
       go_simp
       exact k _ _ R0 rfl
      refine ObsE.cons none (by kernel_rfl) ?_ ?_
      ·refine ObE.plain fun a w hR hk K k=>?_
       obtain⟨_,e39,rfl⟩:=hk 39 (by decide)
       clear hk
       go_simp
       exact k _ _ R0 rfl
      refine ObsE.cons none (by kernel_rfl) ?_ ?_
      ·refine ObE.plain fun a w hR hk K k=>?_
       obtain⟨_,e37,rfl⟩:=hk 37 (by decide)
       obtain⟨_,e40,rfl⟩:=hk 40 (by decide)
       clear hk
       have hw1:IntKind.i64.wrap (((totalC [s.c]:Nat):Int)+(s.tag.length:Int))=((sizeS s:Nat):Int):=by rw[IntKind.wrap_i64];omega
       go_simp
       exact k _ _ R0 rfl
      refine ObsE.cons none (by kernel_rfl) ?_ ?_
      ·refine ObE.plain fun a w hR hk K k=>?_
       obtain⟨_,e33,rfl⟩:=hk 33 (by decide)
       obtain⟨_,e41,rfl⟩:=hk 41 (by decide)
       clear hk
       clear hy1
       have hw1:IntKind.i64.wrap ((m:Int)+((sizeS s:Nat):Int))=((m+sizeS s:Nat):Int):=by rw[IntKind.wrap_i64];omega
       go_simp
       exact k _ _ R0 rfl
      refine ObsE.cons none (by kernel_rfl) ?_ ?_
      ·refine ObE.plain fun a w hR hk K k=>?_
       obtain⟨_,e42,f42⟩:=hk 42 (by decide)
       clear hk
       go_simp
       exact k _ _ R0 f42
      exact ObsE.nil
     case fin=>
      intro vals w9 hc9 hv
      have h5:vals 5 = .int .i64 (m+sizeS s:Nat):=hv 5 (by decide)
      have HF:=hid (HB1.out.trans hc9 (fun _ _ h=>h))
      clear hv hc9 HB1 HA HSH
      simp only[putAll,List.setIfInBounds_toArray,List.set_cons_zero,List.set_cons_succ,h5]
      clear h5
      go_wp2
      go_roundw
      case rel=>exact⟨k+1,m+sizeS s,by omega,by go_num,rfl,hx,hsl2,HF.out⟩
      case measure=>simp [intOf];omega
    ·have hk2:k=ss.length:=by omega
     have hx:m=totalK ls+totalS ss:=by have:=hm.out;rwa [List.take_of_length_le (by omega)]at this
     subst hx
     have HC:=hid hc
     clear hss hc
     go_wp2
     go_ret
     exact⟨rfl,HC.out⟩
end
end Go.Proofs.YtkfinhpfdcjoeaaGreat
