/- Texts that the proof leans on, in one: CredMath, CredText, RoleParse, BackNum, RoleBackMath, CredGet, CredOrd, CredOwn, ShelfStr, RoleCmp, RoleOr, Grown, RoleCompare. -/
import Derived.Test.YtkfinhpfdcjoeaaGreatNa1
import Derived.Test.YtkfinhpfdcjoeaaGreatNa5
import Derived.Test.YtkfinhpfdcjoeaaGreatNa6
import Derived.Test.YtkfinhpfdcjoeaaGreatNa2
import Derived.Test.YtkfinhpfdcjoeaaGreatNa3
import Derived.Shelf.Small.Strs
import Derived.Shelf.Strings.Search1
import Derived.Shelf.Strings.Search2
import Derived.Test.YtkfinhpfdcjoeaaGreatProg
import Derived.Sort.Grow
/- Credentials: which are right, their bytes, their order; how they lie in memory: plain words. -/
namespace Go.Proofs.YtkfinhpfdcjoeaaGreat
open Go.RowKit
/-- A credential. -/
structure CredB where
 kind:Int
 head:RoleB
 who:List UInt8
 b:RoleB
 c:RoleB
 w2:List UInt8
 deriving DecidableEq,Inhabited
def noneR:RoleB:=([],[])
def noCred:CredB:=⟨0,noneR,[],noneR,noneR,[]⟩
/-- The right ones, kind by kind. -/
def isCred (c:CredB):Bool:=
 isRole c.head &&
  (if c.kind=1 then isName c.who&&(c.b==noneR&&(c.c==noneR&&c.w2==[]))
   else (c.who==[]&&isRole c.b) &&
   (if c.kind=2 then c.c==noneR&&c.w2==[]
    else if c.kind=3 then c.c==noneR&&(c.b.1==c.head.1&&isName c.w2)
    else c.kind==4&&(c.w2==[]&&(isRole c.c&&ltR c.b c.c))))
/-- A credential, as the program holds it. -/
def credCells (c:CredB):List Value:=
 [.int .i64 c.kind,.string ⟨c.head.1.toArray⟩,.string ⟨c.head.2.toArray⟩,.string ⟨c.who.toArray⟩,.string ⟨c.b.1.toArray⟩,.string ⟨c.b.2.toArray⟩,.string ⟨c.c.1.toArray⟩,.string ⟨c.c.2.toArray⟩,.string ⟨c.w2.toArray⟩]
def credBox (c:CredB):Array Value:=
 #[.int .i64 c.kind,.string ⟨c.head.1.toArray⟩,.string ⟨c.head.2.toArray⟩,.string ⟨c.who.toArray⟩,.string ⟨c.b.1.toArray⟩,.string ⟨c.b.2.toArray⟩,.string ⟨c.c.1.toArray⟩,.string ⟨c.c.2.toArray⟩,.string ⟨c.w2.toArray⟩]
def credV (c:CredB):Value:=.agg (credBox c)
/-- No field is longer than any text can be. -/
def credShort (c:CredB) (n:Nat):Prop:=
 c.head.1.length≤n∧c.head.2.length≤n∧c.who.length≤n∧c.b.1.length≤n∧c.b.2.length≤n∧c.c.1.length≤n∧c.c.2.length≤n∧c.w2.length≤n
/-- The credential c lies at the nine cells from o on. -/
structure CredAt (w:World) (b o:Nat) (c:CredB):Prop where
 k0:w.cell? ⟨b,o,none⟩=some (.int .i64 c.kind)
 k1:w.cell? ⟨b,o+1,none⟩=some (.string ⟨c.head.1.toArray⟩)
 k2:w.cell? ⟨b,o+2,none⟩=some (.string ⟨c.head.2.toArray⟩)
 k3:w.cell? ⟨b,o+3,none⟩=some (.string ⟨c.who.toArray⟩)
 k4:w.cell? ⟨b,o+4,none⟩=some (.string ⟨c.b.1.toArray⟩)
 k5:w.cell? ⟨b,o+5,none⟩=some (.string ⟨c.b.2.toArray⟩)
 k6:w.cell? ⟨b,o+6,none⟩=some (.string ⟨c.c.1.toArray⟩)
 k7:w.cell? ⟨b,o+7,none⟩=some (.string ⟨c.c.2.toArray⟩)
 k8:w.cell? ⟨b,o+8,none⟩=some (.string ⟨c.w2.toArray⟩)
/-- The credentials ls can be read from the address ao on. -/
def CredsAt (D:Nat→Prop) (w:World) (ao:Option Addr) (ls:List CredB):Prop:=
 ∀i (h:i<ls.length),∃b off,ao=some ⟨b,off,none⟩∧D b∧CredAt w b (off+i*9) ls[i]∧credShort ls[i] 9223372036854775807
theorem CredAt.keep {S:Nat→Prop} {w w':World} {b o:Nat} {c:CredB} (h:CredAt w b o c) (hc:Chg S w w') (hS:¬S b):CredAt w' b o c:=
 ⟨hc.cell h.k0 hS,hc.cell h.k1 hS,hc.cell h.k2 hS,hc.cell h.k3 hS,hc.cell h.k4 hS,hc.cell h.k5 hS,hc.cell h.k6 hS,hc.cell h.k7 hS,hc.cell h.k8 hS⟩
theorem CredsAt.keep {S D:Nat→Prop} {w w':World} {ao:Option Addr} {ls:List CredB} (h:CredsAt D w ao ls) (hc:Chg S w w') (hS:∀i,D i→¬S i):CredsAt D w' ao ls:=fun i hi=>
 let ⟨b,off,h1,h2,h3,h4⟩:=h i hi
 ⟨b,off,h1,h2,h3.keep hc (hS b h2),h4⟩
theorem CredsAt.mono {D D':Nat→Prop} {w:World} {ao:Option Addr} {ls:List CredB} (h:CredsAt D w ao ls) (hD:∀i,D i→D' i):CredsAt D' w ao ls:=fun i hi=>
 let ⟨b,off,h1,h2,h3⟩:=h i hi
 ⟨b,off,h1,hD b h2,h3⟩
theorem CredsAt.nil (D:Nat→Prop) (w:World) (ao:Option Addr):CredsAt D w ao []:=fun i hi=>by simp at hi
theorem cred_at_blk {w:World} {g:Nat} {c:CredB} {ty:TypeId} {f:Nat×Nat} (h:w.heap[g]? = some (.cells (credBox c) ty f)):CredAt w g 0 c:=
 ⟨bC h 0,bC h 1,bC h 2,bC h 3,bC h 4,bC h 5,bC h 6,bC h 7,bC h 8⟩
/-- Is c in the list? Are two lists the same? Are two the same? (Behind names: the walk's simp leaves them.) -/
def hasC (ls:List CredB) (c:CredB):Bool:=ls.contains c
def eqC (a b:CredB):Bool:=a==b
theorem hasC_take (ls:List CredB) (s:CredB) (k:Nat) (h:k<ls.length) (hc:hasC (ls.take k) s=false) (hn:ls[k]≠s):hasC (ls.take (k+1)) s=false:=by
 unfold hasC at hc ⊢
 rw[List.take_succ_eq_append_getElem h]
 simp only[List.contains_eq_mem,List.mem_append,List.mem_singleton,decide_eq_false_iff_not,not_or]at hc ⊢
 exact⟨hc,fun e=>hn e.symm⟩
end Go.Proofs.YtkfinhpfdcjoeaaGreat
/- A credential's text, and its bytes; a text cut at each place where another one stands: plain words. -/
namespace Go.Proofs.YtkfinhpfdcjoeaaGreat
open Go.RowKit
/-- A text's bytes. -/
def encS (s:List UInt8):List UInt8:=enc s.length++s
def credTail (c:CredB):List UInt8:=
 if c.kind=1 then encS c.who else if c.kind=3 then roleEnc c.b++encS c.w2 else if c.kind=4 then roleEnc c.b++roleEnc c.c else roleEnc c.b
def credEnc (c:CredB):List UInt8:=enc c.kind.toNat++(roleEnc c.head++credTail c)
/-- The bytes of a right one; none of others. -/
def credBytes (c:CredB):List UInt8:=if isCred c then credEnc c else []
/-- The order: that of the bytes. -/
def cmpC (a b:CredB):Int:=if ltS (credBytes a) (credBytes b) then -1 else if ltS (credBytes b) (credBytes a) then 1 else 0
end Go.Proofs.YtkfinhpfdcjoeaaGreat
/- Which role a text is. -/
namespace Go.Proofs.YtkfinhpfdcjoeaaGreat
open Go.RowKit
end Go.Proofs.YtkfinhpfdcjoeaaGreat
/- A number's bytes, written and read again. -/
namespace Go.Proofs.YtkfinhpfdcjoeaaGreat
open Go.RowKit
theorem digits_join (n m k:Nat):n+(128+m % 128-128)*128 ^ k+m / 128*128 ^ (k+1)=n+m*128 ^ k:=by
 have h1:128+m % 128-128=m % 128:=by omega
 have h2:m % 128+m / 128*128=m:=by omega
 rw[h1,Nat.pow_succ]
 generalize 128 ^ k=c
 have h3:m / 128*(c*128)=m / 128*128*c:=by rw[Nat.mul_assoc,Nat.mul_comm c 128]
 rw[h3,Nat.add_assoc,←Nat.add_mul,h2]
/-- What is written is read again. -/
theorem numN_enc:∀(f m k n:Nat) (r:List UInt8),(enc m).length≤f→(k=0∨0<m)→numN f (enc m++r) k n=(n+m*128 ^ k,k+(enc m).length,0)
 | 0,m,_,_,_,hf,_=>by have:=enc_pos m;omega
 | f+1,m,k,n,r,hf,hk=>by
  by_cases h:m<128
  ·rw[enc_small h,List.singleton_append]
   unfold numN
   rw[ds_toNat h,if_neg (by omega),if_pos h]
   simp
  ·rw[enc_big (by omega),List.cons_append]
   rw[enc_big (by omega),List.length_cons]at hf
   unfold numN
   have hm:=Nat.mod_lt m (show 0<128 by decide)
   rw[dg_toNat,if_neg (by omega),if_neg (by omega),numN_enc f (m / 128) (k+1) _ r (by omega) (.inr (by omega))]
   have e:n+(128+m % 128-128)*128 ^ k+m / 128*128 ^ (k+1)=n+m*128 ^ k:=digits_join n m k
   rw[e,List.length_cons]
   congr 2
   omega
/-- A number ahead of other bytes. -/
theorem numN_enc9 {m:Nat} (h:m<9223372036854775808) (r:List UInt8):numN 9 (enc m++r) 0 0=(m,(enc m).length,0):=by
 rw[numN_enc 9 m 0 0 r (enc_length9 h) (.inl rfl)]
 simp
end Go.Proofs.YtkfinhpfdcjoeaaGreat
/- Roles put and got, told and parsed, and their order: plain words. -/
namespace Go.Proofs.YtkfinhpfdcjoeaaGreat
open Go.RowKit
theorem name_enc {o:List UInt8} (h:isName o=true) (x:List UInt8):nameOk ((enc o.length++o)++x)=true∧nameOf ((enc o.length++o)++x)=o∧nameRest ((enc o.length++o)++x)=x:=by
 have hl:=isName_len h
 have hN:=numN_enc9 (m:=o.length) (by omega) (o++x)
 rw[←List.append_assoc]at hN
 have h1:errText ((enc o.length++o)++x) 16=0:=by
  unfold errText
  rw[hN]
  simp only[if_true,List.length_append]
  rw[if_neg (by omega),if_neg (by omega)]
 have h2:nameOf ((enc o.length++o)++x)=o:=by
  unfold nameOf
  rw[hN]
  simp
 refine⟨by rw[nameOk,decide_eq_true h1,h2,h];rfl,h2,?_⟩
 unfold nameRest
 rw[hN,List.append_assoc,←List.drop_drop]
 simp
end Go.Proofs.YtkfinhpfdcjoeaaGreat
/- Which credential any bytes are, and the error; what is put is got: plain words. -/
namespace Go.Proofs.YtkfinhpfdcjoeaaGreat
open Go.RowKit
/-- What comes next: an error, or a credential and what is left. -/
inductive GetC where
 | bad (e:Nat)
 | ok (c:CredB) (rest:List UInt8)
def numBad (l:List UInt8):Nat:=(numN 9 l 0 0).2.2
def numOf (l:List UInt8):Nat:=(numN 9 l 0 0).1
def numRest (l:List UInt8):List UInt8:=l.drop (numN 9 l 0 0).2.1
/-- The last part, and whether it is right as a whole. -/
def getEnd (c:CredB) (l:List UInt8):GetC:=if isCred c then .ok c l else .bad 11
def getWord (c:CredB) (l:List UInt8):GetC:=if nameOk l then getEnd {c with w2:=nameOf l} (nameRest l) else .bad (nameBad l)
def getC (c:CredB) (l:List UInt8):GetC:=if roleOk l then getEnd {c with c:=roleOf l} (roleRest l) else .bad (roleBad l)
def getB (c:CredB) (l:List UInt8):GetC:=
 if roleOk l then (if c.kind=3 then getWord {c with b:=roleOf l} (roleRest l) else if c.kind=4 then getC {c with b:=roleOf l} (roleRest l) else getEnd {c with b:=roleOf l} (roleRest l)) else .bad (roleBad l)
def getWho (c:CredB) (l:List UInt8):GetC:=if nameOk l then getEnd {c with who:=nameOf l} (nameRest l) else .bad (nameBad l)
def getHead (k:Int) (l:List UInt8):GetC:=
 if roleOk l then (if k=1 then getWho {noCred with kind:=k,head:=roleOf l} (roleRest l) else getB {noCred with kind:=k,head:=roleOf l} (roleRest l)) else .bad (roleBad l)
def credGet (l:List UInt8):GetC:=
 if numBad l=0 then (if 1≤numOf l∧numOf l≤4 then getHead (numOf l:Nat) (numRest l) else .bad 11) else .bad (numBad l)
theorem role_enc {r:RoleB} (h:isRole r=true) (x:List UInt8):roleOk (roleEnc r++x)=true∧roleOf (roleEnc r++x)=r∧roleRest (roleEnc r++x)=x:=by
 have hn:isName r.1=true∧isName r.2=true:=by simpa [isRole] using h
 obtain⟨a1,a2,a3⟩:=name_enc hn.1 ((enc r.2.length++r.2)++x)
 obtain⟨b1,b2,b3⟩:=name_enc hn.2 x
 have e:roleEnc r++x=(enc r.1.length++r.1)++((enc r.2.length++r.2)++x):=by rw[roleEnc,List.append_assoc]
 rw[e]
 exact⟨by rw[roleOk,a1,a3,b1];rfl,by rw[roleOf,a2,a3,b2],by rw[roleRest,a3,b3]⟩
/-- A right credential's kind. -/
theorem isCred_kind {c:CredB} (h:isCred c=true):c.kind=1∨c.kind=2∨c.kind=3∨c.kind=4:=by
 unfold isCred at h
 by_cases h1:c.kind=1
 ·exact .inl h1
 ·by_cases h2:c.kind=2
  ·exact .inr (.inl h2)
  ·by_cases h3:c.kind=3
   ·exact .inr (.inr (.inl h3))
   ·rw[if_neg h1,if_neg h2,if_neg h3]at h
    simp only[Bool.and_eq_true,beq_iff_eq]at h
    exact .inr (.inr (.inr h.2.2.1))
theorem isCred_head {c:CredB} (h:isCred c=true):isRole c.head=true:=by
 unfold isCred at h
 simp only[Bool.and_eq_true]at h
 exact h.1
theorem isCred_one {c:CredB} (h:isCred c=true) (k:c.kind=1):isName c.who=true∧c.b=noneR∧c.c=noneR∧c.w2=[]:=by
 unfold isCred at h
 rw[if_pos k]at h
 simp only[Bool.and_eq_true,beq_iff_eq]at h
 exact h.2
theorem isCred_two {c:CredB} (h:isCred c=true) (k:c.kind=2):c.who=[]∧isRole c.b=true∧c.c=noneR∧c.w2=[]:=by
 unfold isCred at h
 rw[if_neg (by omega),if_pos k]at h
 simp only[Bool.and_eq_true,beq_iff_eq]at h
 exact⟨h.2.1.1,h.2.1.2,h.2.2⟩
theorem isCred_three {c:CredB} (h:isCred c=true) (k:c.kind=3):c.who=[]∧isRole c.b=true∧c.c=noneR∧c.b.1=c.head.1∧isName c.w2=true:=by
 unfold isCred at h
 rw[if_neg (by omega),if_neg (by omega),if_pos k]at h
 simp only[Bool.and_eq_true,beq_iff_eq]at h
 exact⟨h.2.1.1,h.2.1.2,h.2.2⟩
theorem isCred_four {c:CredB} (h:isCred c=true) (k:c.kind=4):c.who=[]∧isRole c.b=true∧c.w2=[]∧isRole c.c=true∧ltR c.b c.c=true:=by
 unfold isCred at h
 rw[if_neg (by omega),if_neg (by omega),if_neg (by omega)]at h
 simp only[Bool.and_eq_true,beq_iff_eq]at h
 exact⟨h.2.1.1,h.2.1.2,h.2.2.2⟩
theorem num_enc {m:Nat} (h:m<9223372036854775808) (x:List UInt8):numBad (enc m++x)=0∧numOf (enc m++x)=m∧numRest (enc m++x)=x:=by
 have hN:=numN_enc9 h x
 exact⟨by rw[numBad,hN],by rw[numOf,hN],by rw[numRest,hN];simp⟩
/-- What has bytes is got. -/
theorem credGet_enc {c:CredB} (h:isCred c=true) (x:List UInt8):credGet (credEnc c++x) = .ok c x:=by
 have hk:=isCred_kind h
 have hh:=isCred_head h
 obtain⟨k,hd,who,b,cc,w2⟩:=c
 dsimp only at hk hh
 have e:credEnc ⟨k,hd,who,b,cc,w2⟩++x=enc k.toNat++(roleEnc hd++(credTail ⟨k,hd,who,b,cc,w2⟩++x)):=by
  simp only[credEnc,List.append_assoc]
 obtain⟨n1,n2,n3⟩:=num_enc (m:=k.toNat) (by omega) (roleEnc hd++(credTail ⟨k,hd,who,b,cc,w2⟩++x))
 obtain⟨r1,r2,r3⟩:=role_enc hh (credTail ⟨k,hd,who,b,cc,w2⟩++x)
 have hkk:((k.toNat:Nat):Int)=k:=by omega
 rw[e,credGet,if_pos n1,n2,n3,if_pos (by omega),getHead,if_pos r1,r2,r3,hkk]
 rcases hk with k1|k1|k1|k1
 ·obtain⟨a1,a2,a3,a4⟩:=isCred_one h k1
  dsimp only at a1 a2 a3 a4
  subst k1 a2 a3 a4
  obtain⟨m1,m2,m3⟩:=name_enc a1 x
  rw[if_pos rfl,show credTail ⟨1,hd,who,noneR,noneR,[]⟩=enc who.length++who from rfl,getWho,if_pos m1,m2,m3,getEnd]
  exact if_pos h
 ·obtain⟨a1,a2,a3,a4⟩:=isCred_two h k1
  dsimp only at a1 a2 a3 a4
  subst k1 a1 a3 a4
  obtain⟨m1,m2,m3⟩:=role_enc a2 x
  rw[if_neg (by decide),show credTail ⟨2,hd,[],b,noneR,[]⟩=roleEnc b from rfl,getB,if_pos m1,m2,m3]
  rw[if_neg (show ¬(2:Int)=3 by decide),if_neg (show ¬(2:Int)=4 by decide),getEnd]
  exact if_pos h
 ·obtain⟨a1,a2,a3,a4,a5⟩:=isCred_three h k1
  dsimp only at a1 a2 a3 a4 a5
  subst k1 a1 a3
  obtain⟨m1,m2,m3⟩:=role_enc a2 (encS w2++x)
  obtain⟨q1,q2,q3⟩:=name_enc a5 x
  rw[if_neg (by decide),show credTail ⟨3,hd,[],b,noneR,w2⟩=roleEnc b++encS w2 from rfl,List.append_assoc,getB,if_pos m1,m2,m3]
  rw[if_pos rfl,encS,getWord,if_pos q1,q2,q3,getEnd]
  exact if_pos h
 ·obtain⟨a1,a2,a3,a4,a5⟩:=isCred_four h k1
  dsimp only at a1 a2 a3 a4 a5
  subst k1 a1 a3
  obtain⟨m1,m2,m3⟩:=role_enc a2 (roleEnc cc++x)
  obtain⟨q1,q2,q3⟩:=role_enc a4 x
  rw[if_neg (by decide),show credTail ⟨4,hd,[],b,cc,[]⟩=roleEnc b++roleEnc cc from rfl,List.append_assoc,getB,if_pos m1,m2,m3]
  rw[if_neg (show ¬(4:Int)=3 by decide),if_pos rfl,getC,if_pos q1,q2,q3,getEnd]
  exact if_pos h
theorem credEnc_inj {a b:CredB} (ha:isCred a=true) (hb:isCred b=true) (h:credEnc a=credEnc b):a=b:=by
 have h1:=credGet_enc ha []
 have h2:=credGet_enc hb []
 rw[h,h2]at h1
 cases h1
 rfl
theorem credEnc_ne (c:CredB):credEnc c≠[]:=by
 unfold credEnc
 have:=enc_pos c.kind.toNat
 intro h
 have h2:=congrArg List.length h
 rw[List.length_append]at h2
 simp only[List.length_nil]at h2
 omega
end Go.Proofs.YtkfinhpfdcjoeaaGreat
/- The order of credentials, made whole: by their bytes, then by their fields; sets of right ones: plain words. -/
namespace Go.Proofs.YtkfinhpfdcjoeaaGreat
open Go.RowKit
theorem Ord.comap {α β:Type} {lt:β→β→Bool} (o:Ord lt) (f:α→β) (hf:∀a b,f a=f b→a=b):Ord (fun a b=>lt (f a) (f b)) where
 irrefl a:=o.irrefl (f a)
 trans a b c h1 h2:=o.trans _ _ _ h1 h2
 tri a b:=by
  rcases o.tri (f a) (f b) with h|h|h
  ·exact .inl h
  ·exact .inr (.inl (hf a b h))
  ·exact .inr (.inr h)
def ltI (a b:Int):Bool:=decide (a<b)
theorem ltI_ord:Ord ltI where
 irrefl a:=by simp [ltI]
 trans a b c h1 h2:=by simp only[ltI,decide_eq_true_eq]at *;omega
 tri a b:=by simp only[ltI,decide_eq_true_eq];omega
/-- Bytes first, then each field. -/
def credKey (c:CredB):List UInt8×(Int×(RoleB×(List UInt8×(RoleB×(RoleB×List UInt8))))):=(credBytes c,(c.kind,(c.head,(c.who,(c.b,(c.c,c.w2))))))
def ltKey:(List UInt8×(Int×(RoleB×(List UInt8×(RoleB×(RoleB×List UInt8))))))→(List UInt8×(Int×(RoleB×(List UInt8×(RoleB×(RoleB×List UInt8))))))→Bool:=
 lexLt ltS (lexLt ltI (lexLt ltR (lexLt ltS (lexLt ltR (lexLt ltR ltS)))))
theorem ltKey_ord:Ord ltKey:=lexLt_ord ltS_ord (lexLt_ord ltI_ord (lexLt_ord ltR_ord (lexLt_ord ltS_ord (lexLt_ord ltR_ord (lexLt_ord ltR_ord ltS_ord)))))
theorem credKey_inj (a b:CredB) (h:credKey a=credKey b):a=b:=by
 obtain⟨k,hd,who,b1,c1,w2⟩:=a
 obtain⟨k',hd',who',b1',c1',w2'⟩:=b
 simp only[credKey,Prod.mk.injEq]at h
 obtain⟨_,h1,h2,h3,h4,h5,h6⟩:=h
 subst h1 h2 h3 h4 h5 h6
 rfl
def ltC (a b:CredB):Bool:=ltKey (credKey a) (credKey b)
theorem ltC_ord:Ord ltC:=ltKey_ord.comap credKey credKey_inj
def SetC (ls out:List CredB):Prop:=SetG ltC isCred ls out
/-- Of right ones it is the bytes' order. -/
theorem ltC_right {a b:CredB} (ha:isCred a=true) (hb:isCred b=true):ltC a b=ltS (credBytes a) (credBytes b):=by
 cases h:ltS (credBytes a) (credBytes b) with
 | true=>simp [ltC,ltKey,lexLt,credKey,h]
 | false=>
  rcases ltC_ord.tri a b with k|k|k
  ·rw[k]
   simp only[ltC,ltKey,credKey]at k
   rw[lexLt,Bool.or_eq_true,Bool.and_eq_true,beq_iff_eq]at k
   rcases k with k|⟨k1,k2⟩
   ·rw[show ltS (credBytes a) (credBytes b)=true from k]at h;cases h
   ·have e:a=b:=by
     unfold credBytes at k1
     simp only[ha,hb,if_true]at k1
     exact credEnc_inj ha hb k1
    subst e
    have:=ltC_ord.irrefl a
    have h3:ltC a a=true:=by
     simp only[ltC,ltKey,credKey]
     rw[lexLt,Bool.or_eq_true,Bool.and_eq_true,beq_iff_eq]
     exact .inr ⟨rfl,k2⟩
    rw[this]at h3
    cases h3
  ·subst k;exact ltC_ord.irrefl a
  ·exact ltC_ord.asymm k
end Go.Proofs.YtkfinhpfdcjoeaaGreat
/- Lists of credentials of the call's own. -/
namespace Go.Proofs.YtkfinhpfdcjoeaaGreat
open Go.RowKit
theorem Tryz.info34:(Tryz.prog.info? 34).map (fun i=>(i.zero,i.size,i.bytes))=some (some (.agg #[.int .i64 0,.string ⟨#[]⟩,.string ⟨#[]⟩,.string ⟨#[]⟩,.string ⟨#[]⟩,.string ⟨#[]⟩,.string ⟨#[]⟩,.string ⟨#[]⟩,.string ⟨#[]⟩]),9,136):=by kernel_rfl
def credRow (ls:List CredB):List Value:=ls.flatMap credCells
theorem credRow_length (ls:List CredB):(credRow ls).length=ls.length*9:=by
 induction ls with
 | nil=>rfl
 | cons x l ih=>simp only[credRow,List.flatMap_cons,List.length_append,List.length_cons]at ih ⊢;rw[ih];simp [credCells];omega
theorem credRow_get:∀(ls:List CredB) (i j:Nat) (h:i<ls.length) (_:j<9),(credRow ls)[i*9+j]? = (credCells ls[i])[j]?
 | x::l,0,j,_,hj=>by
  rw[show 0*9+j=j by omega,credRow,List.flatMap_cons,List.getElem?_append_left (by simpa [credCells] using hj)]
  rfl
 | x::l,i+1,j,h,hj=>by
  have:=credRow_get l i j (by simpa using h) hj
  rw[credRow,List.flatMap_cons,List.getElem?_append_right (by simp [credCells];omega)]
  rw[show (i+1)*9+j-(credCells x).length=i*9+j by simp [credCells];omega]
  exact this
theorem credRow_snoc (ls:List CredB) (x:CredB):credRow (ls++[x])=credRow ls++credCells x:=by
 simp [credRow]
/-- A list of credentials of the call's own. -/
def OwnC (B:Nat) (w:World) (v:Value) (ls:List CredB):Prop:=w.ownsRow B 34 9 v ls.length (credRow ls)
theorem cred_at_cells {w:World} {g o:Nat} {c:CredB} (h:∀j,j<9→w.cell? ⟨g,o+j,none⟩=(credCells c)[j]?):CredAt w g o c:=
 ⟨h 0 (by omega),h 1 (by omega),h 2 (by omega),h 3 (by omega),h 4 (by omega),h 5 (by omega),h 6 (by omega),h 7 (by omega),h 8 (by omega)⟩
theorem OwnC.creds {B:Nat} {w:World} {v:Value} {ls:List CredB} (h:OwnC B w v ls) (hb:∀x∈ls,credShort x 9223372036854775807) :
  ∃ao cap,v = .slice ao ls.length cap∧CredsAt (fun k=>B≤k∧k<w.heap.size) w ao ls∧(ao=none→cap=0):=by
 rcases h.2 with ⟨rfl,h0⟩|⟨g,cap,cur,rfl,hg,hh,h1,h2,h3,h4⟩
 ·have:ls=[]:=List.eq_nil_of_length_eq_zero h0
  subst this
  exact⟨none,0,rfl,CredsAt.nil _ _ _,fun _=>rfl⟩
 ·refine⟨_,_,rfl,fun i hi=>⟨g,0,rfl,⟨hg,lt_blk hh⟩,cred_at_cells fun j hj=>?_,hb _ (List.getElem_mem hi)⟩,fun e=>by cases e⟩
  have hs:j<(credCells ls[i]).length:=by simpa [credCells] using hj
  have hget:=credRow_get ls i j hi hj
  rw[List.getElem?_eq_getElem hs]at hget ⊢
  have:=h.cells (g:=g) rfl (i*9+j) _ hget
  rw[add_off]at this
  rw[Nat.zero_add]at this ⊢
  exact this
theorem OwnC.shape {B:Nat} {w:World} {v:Value} {ls:List CredB} (h:OwnC B w v ls):∃ao cap,v = .slice ao ls.length cap:=by
 rcases h.2 with ⟨rfl,h0⟩|⟨g,cap,cur,rfl,_⟩
 ·exact⟨none,0,by rw[h0]⟩
 ·exact⟨_,_,rfl⟩
theorem OwnC.keep {S:Nat→Prop} {B:Nat} {w w':World} {v:Value} {ls:List CredB} (h:OwnC B w v ls) (hc:Chg S w w') (hr:∀k,v.ownBlock=some k→¬S k):OwnC B w' v ls:=ownsRow_keep h hc hr
theorem cred_cells_new (w:World) (x:CredB) (j:Nat) (u:Value) (h:(credCells x)[j]? = some u):(w.alloc (.cells (credBox x) 34)).cell? ((⟨w.heap.size,0,none⟩:Addr).add j)=some u:=by
 rw[add_off,bC (heap_alloc_new w _),Nat.zero_add,show credBox x=(credCells x).toArray from rfl,lA]
 exact h
/-- What Set leaves: the set, in new memory. -/
def SetPostC (ls:List CredB) (w:World) (e:Ending) (w':World):Prop:=
 ∃out ao cap,e = .returned (.slice ao out.length cap)∧SetC ls out∧CredsAt (fun k=>w.heap.size≤k∧k<w'.heap.size) w' ao out∧Chg (fun _=>False) w w'∧(ao=none→cap=0)
theorem isCred_short {c:CredB} (h:isCred c=true):credShort c 16:=by
 have hh:=isCred_head h
 simp only[isRole,Bool.and_eq_true]at hh
 have l1:=(isName_len hh.1).2
 have l2:=(isName_len hh.2).2
 have hr:∀r:RoleB,isRole r=true→r.1.length≤16∧r.2.length≤16:=fun r hr=>by
  simp only[isRole,Bool.and_eq_true]at hr
  exact⟨(isName_len hr.1).2,(isName_len hr.2).2⟩
 rcases isCred_kind h with k|k|k|k
 ·obtain⟨a1,a2,a3,a4⟩:=isCred_one h k
  exact⟨l1,l2,(isName_len a1).2,by rw[a2];simp [noneR],by rw[a2];simp [noneR],by rw[a3];simp [noneR],by rw[a3];simp [noneR],by rw[a4];simp⟩
 ·obtain⟨a1,a2,a3,a4⟩:=isCred_two h k
  exact⟨l1,l2,by rw[a1];simp,(hr _ a2).1,(hr _ a2).2,by rw[a3];simp [noneR],by rw[a3];simp [noneR],by rw[a4];simp⟩
 ·obtain⟨a1,a2,a3,a4,a5⟩:=isCred_three h k
  exact⟨l1,l2,by rw[a1];simp,(hr _ a2).1,(hr _ a2).2,by rw[a3];simp [noneR],by rw[a3];simp [noneR],(isName_len a5).2⟩
 ·obtain⟨a1,a2,a3,a4,a5⟩:=isCred_four h k
  exact⟨l1,l2,by rw[a1];simp,(hr _ a2).1,(hr _ a2).2,(hr _ a4).1,(hr _ a4).2,by rw[a3];simp⟩
end Go.Proofs.YtkfinhpfdcjoeaaGreat
/-
  DERIVED: THE SHELF's CONTRACTS AT THIS DUMP, IN PLAIN WORDS (tools/lay-plain.mjs out of 'TryzShelfStr.lean', which tools/lay-shelf.mjs wrote): THE SAME DECLARATIONS UNDER THE SAME NAMES: 'import', 'namespace', 'open', 'def', 'theorem' AND NOTHING ELSE: no command of the shelf's: FOR A HAND-IN. Each laying: the table of numbers ('.._ren') and one theorem, a field a fact of the dump's own or the kernel's comparison; each contract: ONE APPLICATION.
-/
namespace Go.Proofs
open Go.Shelf
def Tryz.lays106_ren:Go.Shelf.Ren:=⟨fun|106=>99|213=>120|265=>128|n=>n,fun|9=>9|3=>3|n=>n,fun|n=>n⟩
theorem Tryz.lays106:Go.Proofs.Lays.n106 Tryz.prog Tryz.lays106_ren:={
 mixed:=by kernel_rfl
 f106:=Tryz.func99.trans (congrArg some (by kernel_rfl))
 f213:=Tryz.func120.trans (congrArg some (by kernel_rfl))
 f265:=Tryz.func128.trans (congrArg some (by kernel_rfl))
 t3:=Tryz.underlying3
 a3:=Tryz.isAgg3
 z3:=Tryz.sizeOf3
 v3:=Tryz.zeroValue3
 t9:=Tryz.underlying9
 a9:=Tryz.isAgg9
 z9:=Tryz.sizeOf9
 v9:=Tryz.zeroValue9}
open Go.RowKit in
/-- strings.Compare: "Compare returns an integer comparing two strings lexicographically. The result will be 0 if a == b, -1 if a < b, and +1 if a > b.": IT RETURNS 'Lib.compareBytes a b'; the world is as it was. (LAID: no walk: one application.) -/
theorem Tryz.strings_Compare (a b:ByteArray) (w:World) :
  Calls Tryz.prog 99 #[.string a,.string b] w fun e w'=>e = .returned (.int .i64 (Lib.compareBytes a.data.toList b.data.toList))∧w'=w:=Any.strings_Compare Tryz.lays106 a b w
end Go.Proofs
/- The order of two roles, as a program tells it by strings.Compare. -/
namespace Go.Proofs.YtkfinhpfdcjoeaaGreat
open Go.RowKit
theorem cmpB_eq:∀(a b:List UInt8),Lib.compareBytes a b=if ltS a b then -1 else if ltS b a then 1 else 0
 | [],[]=>rfl
 | [],_::_=>rfl
 | _::_,[]=>by simp [Lib.compareBytes,ltS_nil,ltS_nil_cons]
 | x::a,y::b=>by
  rw[Lib.compareBytes,ltS_cons,ltS_cons,cmpB_eq a b]
  by_cases h1:x<y
  ·simp [h1]
  ·by_cases h2:y<x
   ·have hne:x≠y:=fun e=>by subst e;exact h1 h2
    simp [h1,h2,hne]
   ·have e:x=y:=by
     have h1':¬x.toNat<y.toNat:=h1
     have h2':¬y.toNat<x.toNat:=h2
     exact UInt8.toNat_inj.1 (by omega)
    subst e
    simp [h1]
theorem cmpB_zero (a b:List UInt8):Lib.compareBytes a b=0↔a=b:=by
 rw[cmpB_eq]
 constructor
 ·intro h
  rcases ltS_tri a b with k|k|k
  ·rw[if_pos k]at h;cases h
  ·exact k
  ·by_cases hb:ltS a b=true
   ·rw[if_pos hb]at h;cases h
   ·rw[if_neg hb,if_pos k]at h;cases h
 ·rintro rfl
  rw[ltS_irrefl]
  rfl
theorem cmpR_eq (a b:RoleB):cmpR a b=if Lib.compareBytes a.1 b.1=0 then Lib.compareBytes a.2 b.2 else Lib.compareBytes a.1 b.1:=by
 obtain⟨o,x⟩:=a
 obtain⟨p,y⟩:=b
 rw[cmpR,ltR_def,ltR_def]
 dsimp only
 by_cases h:o=p
 ·subst h
  rw[if_pos ((cmpB_zero o o).2 rfl),cmpB_eq x y,ltS_irrefl]
  simp
 ·have h2:p≠o:=fun e=>h e.symm
  rw[if_neg (fun e=>h ((cmpB_zero o p).1 e)),cmpB_eq o p]
  simp [h,h2]
end Go.Proofs.YtkfinhpfdcjoeaaGreat
/- cmp.Or at two ints: the first that isn't zero, else zero. -/
namespace Go.Proofs.YtkfinhpfdcjoeaaGreat
open Go.RowKit
/-- A slice of two ints. -/
def Spec.two (x y:Int):Spec:=
 ⟨fun v w=>∃g ty f,v = .slice (some ⟨g,0,none⟩) 2 2∧w.heap[g]? = some (.cells #[.int .i64 x,.int .i64 y] ty f),fun _ _ _ hc ⟨g,ty,f,h1,h2⟩=>⟨g,ty,f,h1,bE h2 hc id⟩⟩
set_option maxRecDepth 100000 in
theorem por_two (g:Nat) (f:Nat×Nat) (ty:Nat) (x y:Int) (w:World) (h:w.heap[g]? = some (.cells #[.int .i64 x,.int .i64 y] ty f)) :
  Calls Tryz.prog 98 #[.slice (some ⟨g,0,none⟩) 2 2] w fun e w'=>e = .returned (.int .i64 (if x=0 then y else x))∧w'=w:=by
 have c0:=bC h 0
 have c1:=bC h 1
 simp only[lA,lZ,lS]at c0 c1
 clear h
 by_cases hx:x=0
 ·subst hx
  rw[if_pos rfl]
  by_cases hy:y=0
  ·subst hy
   go_enter Tryz.func98,Tryz.ntmps98
   go_wp2
   refine wp_loop_rounds 3 ?_
   rw[rounds_succ]
   go_wp2
   rw[rounds_succ]
   go_wp2
   rw[rounds_succ]
   go_wp2
   go_ret
   exact⟨rfl,rfl⟩
  ·have z:(y==0)=false:=beq_eq_false_iff_ne.2 hy
   clear hy
   go_enter Tryz.func98,Tryz.ntmps98
   go_wp2
   refine wp_loop_rounds 2 ?_
   rw[rounds_succ]
   go_wp2
   rw[rounds_succ]
   go_wp2
   go_ret
   exact⟨rfl,rfl⟩
 ·rw[if_neg hx]
  have z:(x==0)=false:=beq_eq_false_iff_ne.2 hx
  clear hx
  go_enter Tryz.func98,Tryz.ntmps98
  go_wp2
  refine wp_loop_rounds 1 ?_
  rw[rounds_succ]
  go_wp2
  go_ret
  exact⟨rfl,rfl⟩
end Go.Proofs.YtkfinhpfdcjoeaaGreat
/- Worlds that have grown by draws and new blocks alone; a region that draws its order and grows so. -/
namespace Go.Proofs.YtkfinhpfdcjoeaaGreat
open Go.RowKit Go.Sort
/-- Draws, and blocks behind the heap: nothing else. -/
def Gr (w w':World):Prop:=∃(q:Nat) (os:Array Obj),w'=grow (w.drewN q) os
theorem Gr.refl (w:World):Gr w w:=⟨0,#[],by rw[grow_empty];rfl⟩
theorem Gr.trans {a b c:World} (h:Gr a b) (k:Gr b c):Gr a c:=by
 obtain⟨n,os,rfl⟩:=h
 obtain⟨q,os',rfl⟩:=k
 exact⟨n+q,os++os',by show grow (grow ((a.drewN n).drewN q) os) os'=_;rw[grow_grow,World.drewN_drewN]⟩
theorem Gr.alloc {a b:World} (h:Gr a b) (o:Obj):Gr a (b.alloc o):=
 h.trans ⟨0,#[o],by rw[alloc_eq_grow];rfl⟩
theorem Gr.drew {a b:World} (h:Gr a b):Gr a b.drew:=h.trans ⟨1,#[],by rw[grow_empty];rfl⟩
theorem Gr.chg {a b:World} (h:Gr a b) (S:Nat→Prop):Chg S a b:=by
 obtain⟨n,os,rfl⟩:=h
 refine⟨rfl,rfl,rfl,?_,fun k hk _=>?_⟩
 ·rw[size_grow];exact Nat.le_add_right _ _
 ·exact heap_grow_old _ _ hk
/-- What has changed nothing has but grown. -/
theorem Chg.gr {w w':World} (h:Chg (fun _=>False) w w') (hd:w.drawn≤w'.drawn):Gr w w':=by
 refine⟨w'.drawn-w.drawn,w'.heap.extract w.heap.size w'.heap.size,?_⟩
 have h1:=hd
 have h2:=h.size
 have h3:w.heap++w'.heap.extract w.heap.size w'.heap.size=w'.heap:=by
  apply Array.ext_getElem?
  intro i
  by_cases hi:i<w.heap.size
  ·rw[Array.getElem?_append_left hi]
   exact(h.block i hi id).symm
  ·rw[Array.getElem?_append_right (by omega),Array.getElem?_extract]
   by_cases hj:i<w'.heap.size
   ·rw[if_pos (by omega)]
    congr 1
    omega
   ·rw[if_neg (by omega),Array.getElem?_eq_none (by omega)]
 obtain⟨hp,tp,dr,os,out⟩:=w
 obtain⟨hp',tp',dr',os',out'⟩:=w'
 have e1:=h.os
 have e2:=h.tape
 have e3:=h.output
 simp only at e1 e2 e3 h1 h3
 subst e1 e2 e3
 simp only[grow,World.drewN,World.mk.injEq,h3,true_and,and_true]
 omega
/-- wp_region_specs, for a region whose calls and operations only grow the world. -/
theorem wp_region_grown {P:Program} {Q:Exit→Act→World→Prop} {w0:World} {a0:Act} {id:Nat} {l:List Oper} (specs:List Spec) (ds outs:List Tmp) (hm:P.follows .mixedOrders=true) (hok:regOk l.toArray ds=true)
  (hsize:(ds.all fun t=>decide (t<a0.tmps.size))=true) (houts:((outsOf l.toArray ds).all fun t=>outs.contains t)=true)
  (hstart:∀t∈outs,Knows (specAt specs) a0 w0 t)
  (hobs:Obs P Q Gr (specAt specs) w0 l.toArray l)
  (hfin:∀(vals:Tmp→Value) (w:World),Gr w0 w→(∀t∈ds,specAt specs t (vals t) w)→Q .normal ⟨putAll vals ds a0.tmps,a0.defers⟩ w) :
  (Code.region id l.toArray true).wp P Q a0 w0:=
 wp_region_known (R:=Gr) (G:=specAt specs) (ds:=ds) hm hok (fun _ _ _ h k=>h.trans k) (Gr.refl _).drew (fun t v w w' hc h=>specAt_st specs t v w w' (hc.chg _) h) hsize _ rfl
  (fun w hc t ht=>by
   have h1:=List.all_eq_true.1 houts t ht
   obtain⟨v,hv,hg⟩:=hstart t (by simpa using h1)
   exact⟨v,hv,specAt_st specs t v w0 w (hc.chg _) hg⟩)
  hobs hfin
end Go.Proofs.YtkfinhpfdcjoeaaGreat
/- The program's Compare of roles: cmp.Or of both strings.Compare. -/
namespace Go.Proofs.YtkfinhpfdcjoeaaGreat
open Go.RowKit
/-- What each slot of Compare's line holds. -/
def cmpSpecs (A:Nat) (o x p y:List UInt8) (res:Int):List Spec:=
 [.any,.any,.eq (.pointer (some ⟨A,0,none⟩)),.eq (.pointer (some ⟨A+1,0,none⟩)),.eq (.int .i64 res),
  .eq (.pointer (some ⟨A,0,none⟩)),.eq (.string ⟨o.toArray⟩),.eq (.pointer (some ⟨A+1,0,none⟩)),.eq (.string ⟨p.toArray⟩),.eq (.int .i64 (Lib.compareBytes o p)),
  .eq (.pointer (some ⟨A,1,none⟩)),.eq (.string ⟨x.toArray⟩),.eq (.pointer (some ⟨A+1,1,none⟩)),.eq (.string ⟨y.toArray⟩),.eq (.int .i64 (Lib.compareBytes x y)),
  .two (Lib.compareBytes o p) (Lib.compareBytes x y),.eq (.int .i64 res)]
set_option maxRecDepth 100000 in
set_option maxHeartbeats 1000000 in
theorem pcompare_grows (a b:RoleB) (w:World):Calls Tryz.prog 76 #[roleV a,roleV b] w fun e w'=>e = .returned (.int .i64 (cmpR a b))∧Gr w w':=by
 rw[cmpR_eq]
 obtain⟨o,x⟩:=a
 obtain⟨p,y⟩:=b
 dsimp only
 generalize hres:(if Lib.compareBytes o p=0 then Lib.compareBytes x y else Lib.compareBytes o p)=res
 have HR:=hid hres
 clear hres
 have hc:Gr w ((w.alloc (.cells #[.string ⟨o.toArray⟩,.string ⟨x.toArray⟩] 32)).alloc (.cells #[.string ⟨p.toArray⟩,.string ⟨y.toArray⟩] 32)):=((Gr.refl w).alloc _).alloc _
 have hA:=bE (heap_alloc_new w (.cells #[.string ⟨o.toArray⟩,.string ⟨x.toArray⟩] 32)) ((Chg.refl (fun _=>False) _).alloc (.cells #[.string ⟨p.toArray⟩,.string ⟨y.toArray⟩] 32)) id
 have hB:=heap_alloc_new (w.alloc (.cells #[.string ⟨o.toArray⟩,.string ⟨x.toArray⟩] 32)) (.cells #[.string ⟨p.toArray⟩,.string ⟨y.toArray⟩] 32)
 rw[show (w.alloc (.cells #[.string ⟨o.toArray⟩,.string ⟨x.toArray⟩] 32)).heap.size=w.heap.size+1 by simp]at hB
 show Calls Tryz.prog 76 #[.agg #[.string ⟨o.toArray⟩,.string ⟨x.toArray⟩],.agg #[.string ⟨p.toArray⟩,.string ⟨y.toArray⟩]] w _
 go_enter Tryz.func76,Tryz.ntmps76
 go_wp2_with fail
 generalize (w.alloc (.cells #[.string ⟨o.toArray⟩,.string ⟨x.toArray⟩] 32)).alloc (.cells #[.string ⟨p.toArray⟩,.string ⟨y.toArray⟩] 32)=w1 at *
 generalize w.heap.size=A at *
 refine wp_region_grown (cmpSpecs A o x p y res) [5,6,7,8,9,10,11,12,13,14,15,16,4] [2,3] (by kernel_rfl) (by kernel_rfl) (by rfl) (by kernel_rfl) ?start ?obs ?fin
 case start=>
  simp only[List.forall_mem_cons]
  exact⟨⟨_,rfl,rfl⟩,⟨_,rfl,rfl⟩,fun _ h=>by cases h⟩
 case obs=>
  have a0:=bC hA 0
  have a1:=bC hA 1
  have b0:=bC hB 0
  have b1:=bC hB 1
  simp only[lA,lZ,lS]at a0 a1 b0 b1
  clear hA hB hc
  refine Obs.cons none (by kernel_rfl) ?_ ?_
  ·refine Ob.plain fun a w hR hk K k=>?_
   obtain⟨_,e2,rfl⟩:=hk 2 (by decide)
   clear hk
   go_simp
   exact k _ _ (Gr.refl _) rfl
  refine Obs.cons none (by kernel_rfl) ?_ ?_
  ·refine Ob.plain fun a w hR hk K k=>?_
   obtain⟨_,e5,rfl⟩:=hk 5 (by decide)
   clear hk
   have c:=(hR.chg (fun _=>False)).cell a0 id
   go_simp
   exact k _ _ (Gr.refl _) rfl
  refine Obs.cons none (by kernel_rfl) ?_ ?_
  ·refine Ob.plain fun a w hR hk K k=>?_
   obtain⟨_,e3,rfl⟩:=hk 3 (by decide)
   clear hk
   go_simp
   exact k _ _ (Gr.refl _) rfl
  refine Obs.cons none (by kernel_rfl) ?_ ?_
  ·refine Ob.plain fun a w hR hk K k=>?_
   obtain⟨_,e7,rfl⟩:=hk 7 (by decide)
   clear hk
   have c:=(hR.chg (fun _=>False)).cell b0 id
   go_simp
   exact k _ _ (Gr.refl _) rfl
  refine Obs.cons none (by kernel_rfl) ?_ ?_
  ·refine Ob.plain fun a w hR hk K k=>?_
   obtain⟨_,e6,rfl⟩:=hk 6 (by decide)
   obtain⟨_,e8,rfl⟩:=hk 8 (by decide)
   clear hk
   go_simp
   refine(Tryz.strings_Compare ⟨o.toArray⟩ ⟨p.toArray⟩ _).mono ?_
   rintro e w' ⟨rfl,rfl⟩
   exact k _ _ (Gr.refl _) rfl
  refine Obs.cons none (by kernel_rfl) ?_ ?_
  ·refine Ob.plain fun a w hR hk K k=>?_
   obtain⟨_,e2,rfl⟩:=hk 2 (by decide)
   clear hk
   go_simp
   exact k _ _ (Gr.refl _) rfl
  refine Obs.cons none (by kernel_rfl) ?_ ?_
  ·refine Ob.plain fun a w hR hk K k=>?_
   obtain⟨_,e10,rfl⟩:=hk 10 (by decide)
   clear hk
   have c:=(hR.chg (fun _=>False)).cell a1 id
   go_simp
   exact k _ _ (Gr.refl _) rfl
  refine Obs.cons none (by kernel_rfl) ?_ ?_
  ·refine Ob.plain fun a w hR hk K k=>?_
   obtain⟨_,e3,rfl⟩:=hk 3 (by decide)
   clear hk
   go_simp
   exact k _ _ (Gr.refl _) rfl
  refine Obs.cons none (by kernel_rfl) ?_ ?_
  ·refine Ob.plain fun a w hR hk K k=>?_
   obtain⟨_,e12,rfl⟩:=hk 12 (by decide)
   clear hk
   have c:=(hR.chg (fun _=>False)).cell b1 id
   go_simp
   exact k _ _ (Gr.refl _) rfl
  refine Obs.cons none (by kernel_rfl) ?_ ?_
  ·refine Ob.plain fun a w hR hk K k=>?_
   obtain⟨_,e11,rfl⟩:=hk 11 (by decide)
   obtain⟨_,e13,rfl⟩:=hk 13 (by decide)
   clear hk
   go_simp
   refine(Tryz.strings_Compare ⟨x.toArray⟩ ⟨y.toArray⟩ _).mono ?_
   rintro e w' ⟨rfl,rfl⟩
   exact k _ _ (Gr.refl _) rfl
  refine Obs.cons none (by kernel_rfl) ?_ ?_
  ·refine Ob.plain fun a w hR hk K k=>?_
   obtain⟨_,e9,rfl⟩:=hk 9 (by decide)
   obtain⟨_,e14,rfl⟩:=hk 14 (by decide)
   clear hk
   go_simp
   exact k _ _ ((Gr.refl _).alloc _) ⟨_,_,_,rfl,heap_alloc_new _ _⟩
  refine Obs.cons none (by kernel_rfl) ?_ ?_
  ·refine Ob.plain fun a w hR hk K k=>?_
   obtain⟨_,e15,g,ty,f,rfl,hg⟩:=hk 15 (by decide)
   clear hk
   go_simp
   refine(por_two g f ty _ _ _ hg).mono ?_
   rintro e w' ⟨rfl,rfl⟩
   rw[HR.out]
   exact k _ _ (Gr.refl _) rfl
  refine Obs.cons none (by kernel_rfl) ?_ Obs.nil
  ·refine Ob.plain fun a w hR hk K k=>?_
   obtain⟨_,e16,rfl⟩:=hk 16 (by decide)
   clear hk
   go_simp
   exact k _ _ (Gr.refl _) rfl
 case fin=>
  intro vals w2 hc2 hv
  have h4:vals 4 = .int .i64 res:=hv 4 (by decide)
  have HC:=hid (hc.trans hc2)
  clear hA hB hc hc2 hv
  simp only[putAll,List.setIfInBounds_toArray,List.set_cons_zero,List.set_cons_succ,h4]
  go_wp2
  go_ret
  exact⟨rfl,HC.out⟩
theorem pcompare (a b:RoleB) (w:World):Calls Tryz.prog 76 #[roleV a,roleV b] w fun e w'=>e = .returned (.int .i64 (cmpR a b))∧Chg (fun _=>False) w w':=
 (pcompare_grows a b w).mono fun _ _ ⟨he,hg⟩=>⟨he,hg.chg _⟩
end Go.Proofs.YtkfinhpfdcjoeaaGreat
