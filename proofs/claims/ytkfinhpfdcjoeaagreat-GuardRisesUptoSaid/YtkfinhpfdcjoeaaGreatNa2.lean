/- Texts that the proof leans on, in one: RoleRef, RoleOwn, FmCells. -/
import Derived.Test.YtkfinhpfdcjoeaaGreatNa1
import Derived.Deep.QuietTactic
import Derived.BigQuiet
import Derived.Maps.AppendAt
/- The contracts of the document's Right of layer 4. -/
namespace Go.Proofs.YtkfinhpfdcjoeaaGreat
section
open Go.RowKit
end
section
open Go.RowKit
theorem ownsRow_keep {S:Nat→Prop} {B E n s:Nat} {w w':World} {v:Value} {xs:List Value} (h:w.ownsRow B E s v n xs) (hc:Chg S w w') (hr:∀k,v.ownBlock=some k→¬S k):w'.ownsRow B E s v n xs:=by
 refine⟨h.1,?_⟩
 rcases h.2 with hn|⟨g,cap,cur,hv,hg,hh,r⟩
 ·exact .inl hn
 ·exact .inr ⟨g,cap,cur,hv,hg,bE hh hc (hr g (by rw[hv];rfl)),r⟩
theorem ownsRow_lt {B E n s:Nat} {w:World} {v:Value} {xs:List Value} (h:w.ownsRow B E s v n xs) (k:Nat) (hk:v.ownBlock=some k):B≤k∧k<w.heap.size:=by
 rcases h.2 with ⟨hn,_⟩|⟨g,cap,cur,hv,hg,hh,r⟩
 ·rw[hn]at hk;cases hk
 ·rw[hv]at hk;cases hk;exact⟨hg,lt_blk hh⟩
def roleRow (ls:List RoleB):List Value:=ls.flatMap roleCells
theorem roleRow_length (ls:List RoleB):(roleRow ls).length=ls.length*2:=by
 induction ls with
 | nil=>rfl
 | cons x l ih=>simp only[roleRow,List.flatMap_cons,List.length_append,List.length_cons]at ih ⊢;rw[ih];simp [roleCells];omega
theorem roleRow_get:∀(ls:List RoleB) (i:Nat) (h:i<ls.length),(roleRow ls)[i*2]? = some (.string ⟨ls[i].1.toArray⟩)∧(roleRow ls)[i*2+1]? = some (.string ⟨ls[i].2.toArray⟩)
 | x::l,0,_=>⟨rfl,rfl⟩
 | x::l,i+1,h=>by
  have:=roleRow_get l i (by simpa using h)
  have e:roleRow (x::l) = .string ⟨x.1.toArray⟩ :: .string ⟨x.2.toArray⟩::roleRow l:=rfl
  rw[e,show (i+1)*2=i*2+1+1 by omega]
  exact this
/-- A list of roles of the call's own. -/
def OwnR (B:Nat) (w:World) (v:Value) (ls:List RoleB):Prop:=w.ownsRow B 32 2 v ls.length (roleRow ls)
theorem OwnR.roles {B:Nat} {w:World} {v:Value} {ls:List RoleB} (h:OwnR B w v ls) (hb:∀x∈ls,x.1.length≤9223372036854775807∧x.2.length≤9223372036854775807) :
  ∃ao cap,v = .slice ao ls.length cap∧RolesAt (fun k=>B≤k∧k<w.heap.size) w ao ls∧(ao=none→cap=0):=by
 rcases h.2 with ⟨rfl,h0⟩|⟨g,cap,cur,rfl,hg,hh,h1,h2,h3,h4⟩
 ·have:ls=[]:=List.eq_nil_of_length_eq_zero h0
  subst this
  exact⟨none,0,rfl,RolesAt.nil _ _ _,fun _=>rfl⟩
 ·refine⟨_,_,rfl,fun i hi=>⟨g,0,rfl,⟨hg,lt_blk hh⟩,?_,?_,hb _ (List.getElem_mem hi)⟩,fun e=>by cases e⟩
  ·have:=h.cells (g:=g) rfl (i*2) _ (roleRow_get ls i hi).1
   rw[add_off]at this
   exact this
  ·have:=h.cells (g:=g) rfl (i*2+1) _ (roleRow_get ls i hi).2
   rw[add_off]at this
   exact this
theorem OwnR.keep {S:Nat→Prop} {B:Nat} {w w':World} {v:Value} {ls:List RoleB} (h:OwnR B w v ls) (hc:Chg S w w') (hr:∀k,v.ownBlock=some k→¬S k):OwnR B w' v ls:=ownsRow_keep h hc hr
def lenOfV:Value→Nat
 | .slice _ n _=>n
 | _=>0
end
section
open Go.RowKit
/-- The formula f, at most n deep, lies at the five cells from o on. -/
def FmAt (D:Nat→Prop) (w:World):Nat→Nat→Nat→FmB→Prop
 | 0,_,_,_=>False
 | n+1,b,o,f=>w.cell? ⟨b,o,none⟩=some (.int .i64 f.op)∧w.cell? ⟨b,o+1,none⟩=some (.int .i64 f.k)∧w.cell? ⟨b,o+2,none⟩=some (.string ⟨f.r.1.toArray⟩)∧w.cell? ⟨b,o+3,none⟩=some (.string ⟨f.r.2.toArray⟩)∧
  (f.r.1.length≤9223372036854775807∧f.r.2.length≤9223372036854775807)∧
  ∃ao cp,w.cell? ⟨b,o+4,none⟩=some (.slice ao f.kids.length cp)∧(ao=none→cp=0)∧∀i (h:i<f.kids.length),∃b' off,ao=some ⟨b',off,none⟩∧D b'∧FmAt D w n b' (off+i*5) f.kids[i]
/-- The formulas ls, each at most n deep, can be read from the address ao on. -/
def FmsAt (D:Nat→Prop) (w:World) (n:Nat) (ao:Option Addr) (ls:List FmB):Prop:=
 ∀i (h:i<ls.length),∃b off,ao=some ⟨b,off,none⟩∧D b∧FmAt D w n b (off+i*5) ls[i]
/-- What else is asked of a formula that is handed over. -/
def FmOk (f:FmB):Prop:=f.r.1.length≤9223372036854775807∧f.r.2.length≤9223372036854775807
theorem FmAt.keep {S D:Nat→Prop} {w w':World} (hc:Chg S w w') (hD:∀i,D i→¬S i):∀ {n b o:Nat} {f:FmB},FmAt D w n b o f→¬S b→FmAt D w' n b o f
 | 0,_,_,_,h,_=>h
 | n+1,b,o,f,⟨h0,h1,h2,h3,h4,ao,cp,h5,h6,h7⟩,hb=>
  ⟨hc.cell h0 hb,hc.cell h1 hb,hc.cell h2 hb,hc.cell h3 hb,h4,ao,cp,hc.cell h5 hb,h6,fun i hi=>by
   obtain⟨b',off,k1,k2,k3⟩:=h7 i hi
   exact⟨b',off,k1,k2,FmAt.keep hc hD k3 (hD _ k2)⟩⟩
theorem FmsAt.keep {S D:Nat→Prop} {w w':World} {n:Nat} {ao:Option Addr} {ls:List FmB} (h:FmsAt D w n ao ls) (hc:Chg S w w') (hD:∀i,D i→¬S i):FmsAt D w' n ao ls:=fun i hi=>by
 obtain⟨b',off,k1,k2,k3⟩:=h i hi
 exact⟨b',off,k1,k2,FmAt.keep hc hD k3 (hD _ k2)⟩
theorem FmAt.mono {D E:Nat→Prop} {w:World} (hD:∀i,D i→E i):∀ {n b o:Nat} {f:FmB},FmAt D w n b o f→FmAt E w n b o f
 | 0,_,_,_,h=>h
 | n+1,b,o,f,⟨h0,h1,h2,h3,h4,ao,cp,h5,h6,h7⟩=>
  ⟨h0,h1,h2,h3,h4,ao,cp,h5,h6,fun i hi=>by
   obtain⟨b',off,k1,k2,k3⟩:=h7 i hi
   exact⟨b',off,k1,hD _ k2,FmAt.mono hD k3⟩⟩
theorem FmsAt.mono {D E:Nat→Prop} {w:World} {n:Nat} {ao:Option Addr} {ls:List FmB} (h:FmsAt D w n ao ls) (hD:∀i,D i→E i):FmsAt E w n ao ls:=fun i hi=>by
 obtain⟨b',off,k1,k2,k3⟩:=h i hi
 exact⟨b',off,k1,hD _ k2,FmAt.mono hD k3⟩
/-- Deeper does no harm. -/
theorem FmAt.up {D:Nat→Prop} {w:World}:∀ {n b o:Nat} {f:FmB},FmAt D w n b o f→FmAt D w (n+1) b o f
 | 0,_,_,_,h=>h.elim
 | n+1,b,o,f,⟨h0,h1,h2,h3,h4,ao,cp,h5,h6,h7⟩=>
  ⟨h0,h1,h2,h3,h4,ao,cp,h5,h6,fun i hi=>by
   obtain⟨b',off,k1,k2,k3⟩:=h7 i hi
   exact⟨b',off,k1,k2,FmAt.up k3⟩⟩
def fmBox (f:FmB) (ao:Option Addr) (cp:Nat):Array Value:=#[.int .i64 f.op,.int .i64 f.k,.string ⟨f.r.1.toArray⟩,.string ⟨f.r.2.toArray⟩,.slice ao f.kids.length cp]
theorem fm_at_blk {D:Nat→Prop} {w:World} {g n:Nat} {f:FmB} {ao:Option Addr} {cp:Nat} {ty:TypeId} {z:Nat×Nat} (h:w.heap[g]? = some (.cells (fmBox f ao cp) ty z)) (hok:FmOk f) (hz:ao=none→cp=0) (hk:FmsAt D w n ao f.kids):FmAt D w (n+1) g 0 f:=
 ⟨bC h 0,bC h 1,bC h 2,bC h 3,hok,ao,cp,bC h 4,hz,hk⟩
theorem Tryz.info46:(Tryz.prog.info? 46).map (fun i=>(i.zero,i.size,i.bytes))=some (some (.agg #[.int .i64 0,.int .i64 0,.string ⟨#[]⟩,.string ⟨#[]⟩,.slice none 0 0]),5,72):=by kernel_rfl
theorem FmAt.open_ {D:Nat→Prop} {w:World} {n b o:Nat} {f:FmB} (h:FmAt D w n b o f):∃m ao cp,m<n∧(w.cell? ⟨b,o,none⟩=some (.int .i64 f.op)∧w.cell? ⟨b,o+1,none⟩=some (.int .i64 f.k)∧w.cell? ⟨b,o+2,none⟩=some (.string ⟨f.r.1.toArray⟩)∧w.cell? ⟨b,o+3,none⟩=some (.string ⟨f.r.2.toArray⟩)∧w.cell? ⟨b,o+4,none⟩=some (.slice ao f.kids.length cp))∧FmOk f∧(ao=none→cp=0)∧FmsAt D w m ao f.kids:=by
 cases n with
 | zero=>exact h.elim
 | succ m=>
  obtain⟨h0,h1,h2,h3,h4,ao,cp,h5,h6,h7⟩:=h
  exact⟨m,ao,cp,Nat.lt_succ_self m,⟨h0,h1,h2,h3,h5⟩,h4,h6,h7⟩
end
end Go.Proofs.YtkfinhpfdcjoeaaGreat
