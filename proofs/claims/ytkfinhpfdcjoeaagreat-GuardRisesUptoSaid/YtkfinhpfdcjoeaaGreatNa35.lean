/- Texts that the proof leans on, in one: PmState, Wr, ShelfW, WrSort, RoleClear, PcCompMath. -/
import Derived.Test.YtkfinhpfdcjoeaaGreatNa34
import Derived.Test.YtkfinhpfdcjoeaaGreatNa9
import Derived.Test.YtkfinhpfdcjoeaaGreatNa7
import Derived.Maps.AppendAt
import Derived.Shelf.SlSortCmp.WholeK
import Derived.Shelf.SlSortCmp.NoneTotal
import Derived.Ground.SlsfProg
import Derived.Test.YtkfinhpfdcjoeaaGreatProg
import Derived.Test.YtkfinhpfdcjoeaaGreatNa14
import Derived.Test.YtkfinhpfdcjoeaaGreatNa29
import Derived.Test.YtkfinhpfdcjoeaaGreatNa15
import Derived.Test.YtkfinhpfdcjoeaaGreatNa2
import Derived.Lib.SliceRun
import Derived.Test.YtkfinhpfdcjoeaaGreatNa26
import Derived.Test.YtkfinhpfdcjoeaaGreatNa3
import Derived.Lib.SlicesCompact
import Derived.IntWalk
/- The program's model as it lies in memory. -/
namespace Go.Proofs.YtkfinhpfdcjoeaaGreat
open Go.RowKit Go.Maps
/-- O' has what O has, and blocks that are new since w. -/
def Grew (O O':Nat→Prop) (w:World):Prop:=∀i,O' i→O i∨w.heap.size≤i
theorem Grew.refl (O:Nat→Prop) (w:World):Grew O O w:=fun _ h=>.inl h
theorem Grew.trans {O O1 O2:Nat→Prop} {w w1:World} (h:Grew O O1 w) (k:Grew O1 O2 w1) (hs:w.heap.size≤w1.heap.size):Grew O O2 w:=fun i hi=>by
 rcases k i hi with h1|h1
 ·exact h i h1
 ·exact .inr (Nat.le_trans hs h1)
theorem Grew.not {O O':Nat→Prop} {w:World} (h:Grew O O' w) {k:Nat} (hk:k<w.heap.size) (hn:¬O k):¬O' k:=fun e=>by
 rcases h k e with h1|h1
 ·exact hn h1
 ·omega
/-- What a call has changed, and then another one. -/
theorem Chg.step {O O1:Nat→Prop} {w w1 w2:World} (h:Chg O w w1) (hg:Grew O O1 w) (k:Chg O1 w1 w2):Chg O w w2:=h.trans k (fun i hi h1=>by
 rcases hg i h1 with h2|h2
 ·exact h2
 ·omega)
theorem Chg.stepK {K O O1:Nat→Prop} {w w1 w2:World} (h:Chg (fun i=>O i∧¬K i) w w1) (hg:Grew O O1 w) (k:Chg (fun i=>O1 i∧¬K i) w1 w2):Chg (fun i=>O i∧¬K i) w w2:=h.trans k (fun i hi h1=>by
 rcases hg i h1.1 with h2|h2
 ·exact⟨h2,h1.2⟩
 ·omega)
theorem Chg.up {K O:Nat→Prop} {w w':World} (h:Chg (fun i=>O i∧¬K i) w w'):Chg O w w':=h.mono (fun _ _ h=>h.1)
theorem Chg.none {S:Nat→Prop} {w w':World} (h:Chg (fun _=>False) w w'):Chg S w w':=h.mono (fun _ _ h=>h.elim)
/-- The model in the block g has the facts F; R2, R3 say which credentials lean on which roles, and are linked by which words. All of its blocks are of O, those that aren't the facts' of K. -/
structure MS (K O:Nat→Prop) (w:World) (g:Nat) (F:List FactB) (n2:Nat) (R2:RoleB→CredB→Prop) (n3:Nat) (R3:List UInt8→CredB→Prop):Prop where
 ex:∃m1 m2 m3,∃O1 O2 O3:Nat→Prop,w.heap[g]? = some (.cells #[.map (some m1),.map (some m2),.map (some m3)] 112 (0,0))∧
  Sets ktR ktS O1 w m1 F.length (fun r s=>(r,s)∈F)∧Sets ktR ktC O2 w m2 n2 R2∧Sets ktS ktC O3 w m3 n3 R3∧
  (∀i,O1 i→O i∧¬K i)∧(∀i,O2 i→K i∧¬O3 i∧i≠g)∧(∀i,O3 i→K i∧i≠g)
 og:K g
 ko:∀i,K i→O i
 lo:∀i,O i→i<w.heap.size
section
variable {K O S:Nat→Prop} {w w':World} {g n2 n3:Nat} {F:List FactB} {R2:RoleB→CredB→Prop} {R3:List UInt8→CredB→Prop}
theorem MS.keep (h:MS K O w g F n2 R2 n3 R3) (hc:Chg S w w') (hs:∀i,O i→¬S i):MS K O w' g F n2 R2 n3 R3:=by
 obtain⟨⟨m1,m2,m3,O1,O2,O3,h0,h1,h2,h3,d1,d2,d3⟩,h4,hk,h5⟩:=h
 exact⟨⟨m1,m2,m3,O1,O2,O3,bE h0 hc (hs g (hk g h4)),h1.keep hc (fun i hi=>hs i (d1 i hi).1),h2.keep hc (fun i hi=>hs i (hk i (d2 i hi).1)),h3.keep hc (fun i hi=>hs i (hk i (d3 i hi).1)),d1,d2,d3⟩,h4,hk,fun i hi=>Nat.lt_of_lt_of_le (h5 i hi) hc.size⟩
theorem MS.quiet (h:MS K O w g F n2 R2 n3 R3) (hc:Chg (fun _=>False) w w'):MS K O w' g F n2 R2 n3 R3:=h.keep hc (fun _ _=>id)
/-- The facts grow. -/
theorem MS.facts {F':List FactB} {m1 m2 m3:Nat} {O1 O2 O3 O1':Nat→Prop} (h0:w.heap[g]? = some (.cells #[.map (some m1),.map (some m2),.map (some m3)] 112 (0,0)))
  (h2:Sets ktR ktC O2 w m2 n2 R2) (h3:Sets ktS ktC O3 w m3 n3 R3) (d1:∀i,O1 i→O i∧¬K i) (d2:∀i,O2 i→K i∧¬O3 i∧i≠g) (d3:∀i,O3 i→K i∧i≠g) (h4:K g) (hk:∀i,K i→O i) (h5:∀i,O i→i<w.heap.size)
  (hs:Sets ktR ktS O1' w' m1 F'.length (fun r s=>(r,s)∈F')) (hg:Grew O1 O1' w) (hc:Chg O1 w w') (hlo:∀i,O1' i→i<w'.heap.size) :
  ∃O',MS K O' w' g F' n2 R2 n3 R3∧Grew O O' w∧Chg (fun i=>O i∧¬K i) w w':=by
 have hne:∀i,O1' i→(O i∨w.heap.size≤i)∧¬K i:=fun i hi=>by
  rcases hg i hi with h|h
  ·exact⟨.inl (d1 i h).1,(d1 i h).2⟩
  ·exact⟨.inr h,fun e=>by have:=h5 i (hk i e);omega⟩
 refine⟨fun i=>O i∨O1' i,⟨⟨m1,m2,m3,O1',O2,O3,bE h0 hc (fun e=>(d1 g e).2 h4),hs,h2.keep hc (fun i hi e=>(d1 i e).2 (d2 i hi).1),h3.keep hc (fun i hi e=>(d1 i e).2 (d3 i hi).1),
  fun i hi=>⟨.inr hi,(hne i hi).2⟩,d2,d3⟩,h4,fun i hi=>.inl (hk i hi),fun i hi=>?_⟩,fun i hi=>?_,hc.mono (fun i _ hi=>d1 i hi)⟩
 ·rcases hi with hi|hi
  ·exact Nat.lt_of_lt_of_le (h5 i hi) hc.size
  ·exact hlo i hi
 ·rcases hi with hi|hi
  ·exact .inl hi
  ·exact(hne i hi).1
/-- What leans grows. -/
theorem MS.leans {n2':Nat} {R2':RoleB→CredB→Prop} {m1 m2 m3:Nat} {O1 O2 O3 O2':Nat→Prop} (h0:w.heap[g]? = some (.cells #[.map (some m1),.map (some m2),.map (some m3)] 112 (0,0)))
  (h1:Sets ktR ktS O1 w m1 F.length (fun r s=>(r,s)∈F)) (h3:Sets ktS ktC O3 w m3 n3 R3) (d1:∀i,O1 i→O i∧¬K i) (d2:∀i,O2 i→K i∧¬O3 i∧i≠g) (d3:∀i,O3 i→K i∧i≠g) (h4:K g) (hk:∀i,K i→O i) (h5:∀i,O i→i<w.heap.size)
  (hs:Sets ktR ktC O2' w' m2 n2' R2') (hg:Grew O2 O2' w) (hc:Chg O2 w w') (hlo:∀i,O2' i→i<w'.heap.size) :
  ∃K' O',MS K' O' w' g F n2' R2' n3 R3∧Grew O O' w∧Chg O w w':=by
 have hne:∀i,O2' i→(O i∨w.heap.size≤i)∧¬O1 i∧¬O3 i∧i≠g:=fun i hi=>by
  rcases hg i hi with h|h
  ·exact⟨.inl (hk i (d2 i h).1),fun e=>(d1 i e).2 (d2 i h).1,(d2 i h).2.1,(d2 i h).2.2⟩
  ·exact⟨.inr h,fun e=>by have:=h5 i (d1 i e).1;omega,fun e=>by have:=h5 i (hk i (d3 i e).1);omega,fun e=>by have:=h5 g (hk g h4);omega⟩
 refine⟨fun i=>K i∨O2' i,fun i=>O i∨O2' i,⟨⟨m1,m2,m3,O1,O2',O3,bE h0 hc (fun e=>(d2 g e).2.2 rfl),h1.keep hc (fun i hi e=>(d1 i hi).2 (d2 i e).1),hs,h3.keep hc (fun i hi e=>(d2 i e).2.1 hi),
  fun i hi=>⟨.inl (d1 i hi).1,fun e=>?_⟩,fun i hi=>⟨.inr hi,(hne i hi).2.2⟩,fun i hi=>⟨.inl (d3 i hi).1,(d3 i hi).2⟩⟩,.inl h4,fun i hi=>hi.imp (hk i) id,fun i hi=>?_⟩,fun i hi=>?_,hc.mono (fun i _ hi=>hk i (d2 i hi).1)⟩
 ·rcases e with e|e
  ·exact(d1 i hi).2 e
  ·exact(hne i e).2.1 hi
 ·rcases hi with hi|hi
  ·exact Nat.lt_of_lt_of_le (h5 i hi) hc.size
  ·exact hlo i hi
 ·rcases hi with hi|hi
  ·exact .inl hi
  ·exact(hne i hi).1
/-- What is linked grows. -/
theorem MS.links {n3':Nat} {R3':List UInt8→CredB→Prop} {m1 m2 m3:Nat} {O1 O2 O3 O3':Nat→Prop} (h0:w.heap[g]? = some (.cells #[.map (some m1),.map (some m2),.map (some m3)] 112 (0,0)))
  (h1:Sets ktR ktS O1 w m1 F.length (fun r s=>(r,s)∈F)) (h2:Sets ktR ktC O2 w m2 n2 R2) (d1:∀i,O1 i→O i∧¬K i) (d2:∀i,O2 i→K i∧¬O3 i∧i≠g) (d3:∀i,O3 i→K i∧i≠g) (h4:K g) (hk:∀i,K i→O i) (h5:∀i,O i→i<w.heap.size)
  (hs:Sets ktS ktC O3' w' m3 n3' R3') (hg:Grew O3 O3' w) (hc:Chg O3 w w') (hlo:∀i,O3' i→i<w'.heap.size) :
  ∃K' O',MS K' O' w' g F n2 R2 n3' R3'∧Grew O O' w∧Chg O w w':=by
 have hne:∀i,O3' i→(O i∨w.heap.size≤i)∧¬O1 i∧¬O2 i∧i≠g:=fun i hi=>by
  rcases hg i hi with h|h
  ·exact⟨.inl (hk i (d3 i h).1),fun e=>(d1 i e).2 (d3 i h).1,fun e=>(d2 i e).2.1 h,(d3 i h).2⟩
  ·exact⟨.inr h,fun e=>by have:=h5 i (d1 i e).1;omega,fun e=>by have:=h5 i (hk i (d2 i e).1);omega,fun e=>by have:=h5 g (hk g h4);omega⟩
 refine⟨fun i=>K i∨O3' i,fun i=>O i∨O3' i,⟨⟨m1,m2,m3,O1,O2,O3',bE h0 hc (fun e=>(d3 g e).2 rfl),h1.keep hc (fun i hi e=>(d1 i hi).2 (d3 i e).1),h2.keep hc (fun i hi e=>(d2 i hi).2.1 e),hs,
  fun i hi=>⟨.inl (d1 i hi).1,fun e=>?_⟩,fun i hi=>⟨.inl (d2 i hi).1,fun e=>(hne i e).2.2.1 hi,(d2 i hi).2.2⟩,fun i hi=>⟨.inr hi,(hne i hi).2.2.2⟩⟩,.inl h4,fun i hi=>hi.imp (hk i) id,fun i hi=>?_⟩,fun i hi=>?_,hc.mono (fun i _ hi=>hk i (d3 i hi).1)⟩
 ·rcases e with e|e
  ·exact(d1 i hi).2 e
  ·exact(hne i e).2.1 hi
 ·rcases hi with hi|hi
  ·exact Nat.lt_of_lt_of_le (h5 i hi) hc.size
  ·exact hlo i hi
 ·rcases hi with hi|hi
  ·exact .inl hi
  ·exact(hne i hi).1
end
/-- Is a pair there? -/
theorem Sets.ask {α β:Type} [DecidableEq α] [DecidableEq β] {ko:KT α} {ki:KT β} {O:Nat→Prop} {w:World} {mb n:Nat} {rel:α→β→Prop} {t e t2 e2:TypeId} (h:Sets ko ki O w mb n rel) (ht:Tryz.prog.underlying t=some (.map ko.ty e)) (hz:∀w,(zeroValue e).run Tryz.prog w = .ok (.map none) w)
  (ht2:Tryz.prog.underlying t2=some (.map ki.ty e2)) (hz2:∀w,(zeroValue e2).run Tryz.prog w = .ok (.agg #[]) w) {a:α} (ha:ko.ok a) {x:β} (hx:ki.ok x) :
  ∃(y:Option Nat) (b:Bool),(b=true↔rel a x)∧∀w',Chg (fun _=>False) w w'→(Instr.lookup t (.map (some mb)) (ko.val a) false).run Tryz.prog w' = .ok (.map y) w'∧(Instr.lookup t2 (.map y) (ki.val x) true).run Tryz.prog w' = .ok (.tuple #[.agg #[],.bool b]) w':=by
 rcases h.here ht hz ha with ⟨b,xs,h1,h2,h3,h4,h5,h6⟩|⟨h1,h2⟩
 ·refine⟨some b,decide (x∈xs),by simp [h5],fun w' hc=>⟨h6 w' hc.none,(h3.keep hc id).look ht2 (hz2 w') hx⟩⟩
 ·refine⟨none,false,⟨fun h=>(by cases h),fun h=>absurd h (h1 x)⟩,fun w' hc=>⟨h2 w' hc.none,?_⟩⟩
  have:=Maps.look_nil (w:=w') true ki.keyed ht2 (hz2 w') (ki.reads x hx)
  simpa using this
theorem mZeroIn (w:World):(zeroValue 113).run Tryz.prog w = .ok (.map none) w:=by kernel_rfl
theorem mZeroUn (w:World):(zeroValue 62).run Tryz.prog w = .ok (.agg #[]) w:=by kernel_rfl
theorem mZeroIc (w:World):(zeroValue 61).run Tryz.prog w = .ok (.map none) w:=by kernel_rfl
/-- Some block's first place. -/
def Spec.ptrE:Spec:=⟨fun v _=>∃b,v = .pointer (some ⟨b,0,none⟩),fun _ _ _ _ h=>h⟩
/-- What enter leaves. -/
def EntPost {α β:Type} (ko:KT α) (ki:KT β) (O:Nat→Prop) (m n:Nat) (rel:α→β→Prop) (a:α) (x:β) (w:World) (e:Ending) (w':World):Prop:=
 (rel a x∧e = .returned (.bool false)∧Chg (fun _=>False) w w')∨
 (¬rel a x∧e = .returned (.bool true)∧∃O',Sets ko ki O' w' m (n+1) (fun a' z=>rel a' z∨(a'=a∧z=x))∧Grew O O' w∧Chg O w w'∧∀i,O' i→i<w'.heap.size)
end Go.Proofs.YtkfinhpfdcjoeaaGreat
/- Credentials with their bytes beside them: lists of the call's own. -/
namespace Go.Proofs.YtkfinhpfdcjoeaaGreat
open Go.RowKit
/-- A credential with its bytes, in a slice. -/
structure WrB where
 c:CredB
 ao:Option Addr
 cap:Nat
 deriving Inhabited
def wrCells (t:WrB):List Value:=
 [.int .i64 t.c.kind,.string ⟨t.c.head.1.toArray⟩,.string ⟨t.c.head.2.toArray⟩,.string ⟨t.c.who.toArray⟩,.string ⟨t.c.b.1.toArray⟩,.string ⟨t.c.b.2.toArray⟩,.string ⟨t.c.c.1.toArray⟩,.string ⟨t.c.c.2.toArray⟩,.string ⟨t.c.w2.toArray⟩,.slice t.ao (credBytes t.c).length t.cap]
def wrBox (t:WrB):Array Value:=
 #[.int .i64 t.c.kind,.string ⟨t.c.head.1.toArray⟩,.string ⟨t.c.head.2.toArray⟩,.string ⟨t.c.who.toArray⟩,.string ⟨t.c.b.1.toArray⟩,.string ⟨t.c.b.2.toArray⟩,.string ⟨t.c.c.1.toArray⟩,.string ⟨t.c.c.2.toArray⟩,.string ⟨t.c.w2.toArray⟩,.slice t.ao (credBytes t.c).length t.cap]
theorem wrCells_len (t:WrB):(wrCells t).length=10:=rfl
/-! ### Rows of elements of k cells each. -/
theorem flat_len {α:Type} (enc:α→List Value) (k:Nat) (hk:∀x,(enc x).length=k):∀ls:List α,(ls.flatMap enc).length=ls.length*k
 | []=>by simp
 | x::l=>by
  rw[List.flatMap_cons,List.length_append,flat_len enc k hk l,hk,List.length_cons,Nat.add_mul]
  omega
theorem flat_get {α:Type} (enc:α→List Value) (k:Nat) (hk:∀x,(enc x).length=k):∀(ls:List α) (i j:Nat) (h:i<ls.length) (_:j<k),(ls.flatMap enc)[i*k+j]? = (enc ls[i])[j]?
 | x::l,0,j,_,hj=>by
  rw[Nat.zero_mul,Nat.zero_add,List.flatMap_cons,List.getElem?_append_left (by rw[hk];exact hj)]
  rfl
 | x::l,i+1,j,h,hj=>by
  have:=flat_get enc k hk l i j (by simpa using h) hj
  rw[List.flatMap_cons,List.getElem?_append_right (by rw[hk,Nat.add_mul];omega),hk]
  rw[show (i+1)*k+j-k=i*k+j by rw[Nat.add_mul];omega]
  exact this
def wrRow (ls:List WrB):List Value:=ls.flatMap wrCells
theorem wrRow_snoc (ls:List WrB) (x:WrB):wrRow (ls++[x])=wrRow ls++wrCells x:=by simp [wrRow]
def OwnW (B:Nat) (w:World) (v:Value) (ls:List WrB):Prop:=w.ownsRow B 88 10 v ls.length (wrRow ls)
theorem OwnW.keep {S:Nat→Prop} {B:Nat} {w w':World} {v:Value} {ls:List WrB} (h:OwnW B w v ls) (hc:Chg S w w') (hr:∀k,v.ownBlock=some k→¬S k):OwnW B w' v ls:=ownsRow_keep h hc hr
theorem OwnW.shape {B:Nat} {w:World} {v:Value} {ls:List WrB} (h:OwnW B w v ls):∃ao cap,v = .slice ao ls.length cap:=by
 rcases h.2 with ⟨rfl,h0⟩|⟨g,cap,cur,rfl,_⟩
 ·exact⟨none,0,by rw[h0]⟩
 ·exact⟨_,_,rfl⟩
theorem Tryz.info88:(Tryz.prog.info? 88).map (fun i=>(i.zero,i.size,i.bytes))=some (some (.agg #[.int .i64 0,.string ⟨#[]⟩,.string ⟨#[]⟩,.string ⟨#[]⟩,.string ⟨#[]⟩,.string ⟨#[]⟩,.string ⟨#[]⟩,.string ⟨#[]⟩,.string ⟨#[]⟩,.slice none 0 0]),10,160):=by kernel_rfl
theorem wr_cells_new (w:World) (x:WrB) (j:Nat) (u:Value) (h:(wrCells x)[j]? = some u):(w.alloc (.cells (wrBox x) 88)).cell? ((⟨w.heap.size,0,none⟩:Addr).add j)=some u:=by
 rw[add_off,bC (heap_alloc_new w _),Nat.zero_add,show wrBox x=(wrCells x).toArray from rfl,lA]
 exact h
theorem wr_one (x:WrB):∀u∈wrCells x,u.oneCell'=true:=by
 intro u hu
 simp only[wrCells,List.mem_cons,List.not_mem_nil,or_false]at hu
 rcases hu with rfl|rfl|rfl|rfl|rfl|rfl|rfl|rfl|rfl|rfl <;> rfl
/-- The bytes beside each can be read, from blocks that came up from lo on, other than the block ob. -/
def ReadsW (lo:Nat) (w:World) (ob:Option Nat) (ls:List WrB):Prop:=
 ∀t,t∈ls→isCred t.c=true∧BytesAt (fun b=>lo≤b∧b<w.heap.size∧some b≠ob) w (.slice t.ao (credBytes t.c).length t.cap) (credBytes t.c)
theorem ReadsW.keep {lo:Nat} {w w':World} {ob:Option Nat} {ls:List WrB} {S:Nat→Prop} (h:ReadsW lo w ob ls) (hc:Chg S w w') (hS:∀k,S k→k<w.heap.size→lo≤k→some k=ob):ReadsW lo w' ob ls:=fun t ht=>by
 obtain⟨h1,h2⟩:=h t ht
 refine⟨h1,(h2.keep hc ?_).mono ?_⟩
 ·rintro i ⟨a,b,c⟩ hs
  exact c (hS i hs b a)
 ·rintro i ⟨a,b,c⟩
  exact⟨a,Nat.lt_of_lt_of_le b hc.size,c⟩
theorem ReadsW.off {lo:Nat} {w:World} {ob ob':Option Nat} {ls:List WrB} (h:ReadsW lo w ob ls) (hob:ob'=ob∨∃n,ob'=some n∧w.heap.size≤n):ReadsW lo w ob' ls:=fun t ht=>by
 obtain⟨h1,h2⟩:=h t ht
 refine⟨h1,h2.mono ?_⟩
 rintro i ⟨a,b,c⟩
 refine⟨a,b,fun e=>?_⟩
 rcases hob with rfl|⟨n,rfl,hn⟩
 ·exact c e
 ·cases e;omega
theorem ReadsW.snoc {lo:Nat} {w:World} {ob:Option Nat} {ls:List WrB} {x:WrB} (h:ReadsW lo w ob ls) (hc:isCred x.c=true) (hb:BytesAt (fun b=>lo≤b∧b<w.heap.size∧some b≠ob) w (.slice x.ao (credBytes x.c).length x.cap) (credBytes x.c)):ReadsW lo w ob (ls++[x]):=fun t ht=>by
 rcases List.mem_append.1 ht with h1|h1
 ·exact h t h1
 ·rw[List.mem_singleton]at h1;subst h1;exact⟨hc,hb⟩
theorem ReadsW.nil (lo:Nat) (w:World) (ob:Option Nat):ReadsW lo w ob []:=fun t ht=>by cases ht
theorem BytesAt.both {D E:Nat→Prop} {w:World} {v:Value} {l:List UInt8} (h:BytesAt D w v l) (k:BytesAt E w v l):BytesAt (fun i=>D i∧E i) w v l:=by
 rcases h with h|⟨b,off,cap,e1,e2,e3,e4,e5⟩
 ·exact .inl h
 ·rcases k with k|⟨b',off',cap',f1,f2,f3,f4,f5⟩
  ·exact .inl k
  ·rw[e1]at f1
   cases f1
   exact .inr ⟨b,off,cap,e1,e2,e3,⟨e4,f4⟩,e5⟩
/-- What an append of one leaves, in the words of the walk of Set. -/
theorem wr_grown {lo:Nat} {w w2:World} {v v':Value} {ls:List WrB} {x:WrB} (hown:w2.ownsRow lo 88 10 v' (ls.length+1) (wrRow ls++wrCells x)) (hgrow:GrownD w w2 v.ownBlock) (hat:v'.ownBlock=v.ownBlock∨v'.ownBlock=some w.heap.size)
  (hr:ReadsW lo w v.ownBlock ls) (hx:isCred x.c=true) (hb:BytesAt (fun b=>lo≤b∧b<w.heap.size∧some b≠v.ownBlock) w (.slice x.ao (credBytes x.c).length x.cap) (credBytes x.c)) :
  OwnW lo w2 v' (ls++[x])∧ReadsW lo w2 v'.ownBlock (ls++[x]):=by
 refine⟨?_,?_⟩
 ·unfold OwnW
  rw[wrRow_snoc,List.length_append,List.length_singleton]
  exact hown
 ·have h1:=hr.snoc hx hb
  have hc:Chg (fun k=>some k=v.ownBlock) w w2:=(Chg.refl _ w).grown hgrow (fun k e _=>e.symm)
  have h2:ReadsW lo w v'.ownBlock (ls++[x]):=h1.off (by
   rcases hat with e|e
   ·exact .inl e
   ·exact .inr ⟨_,e,Nat.le_refl _⟩)
  intro t ht
  obtain⟨k1,k2⟩:=h1 t ht
  obtain⟨_,k3⟩:=h2 t ht
  refine⟨k1,((k2.both k3).keep hc (fun i hi e=>hi.1.2.2 e)).mono ?_⟩
  rintro i ⟨_,f1,f2,f3⟩
  exact⟨f1,Nat.lt_of_lt_of_le f2 hc.size,f3⟩
end Go.Proofs.YtkfinhpfdcjoeaaGreat
/-
  DERIVED: THE SHELF's CONTRACTS AT THIS DUMP, IN PLAIN WORDS (tools/lay-plain.mjs out of 'TryzShelfW.lean', which tools/lay-shelf.mjs wrote): THE SAME DECLARATIONS UNDER THE SAME NAMES: 'import', 'namespace', 'open', 'def', 'theorem' AND NOTHING ELSE: no command of the shelf's: FOR A HAND-IN. Each laying: the table of numbers ('.._ren') and one theorem, a field a fact of the dump's own or the kernel's comparison; each contract: ONE APPLICATION.
-/
namespace Go.Proofs
open Go.Shelf
def Tryz.sortW_ren:Go.Shelf.Ren:=⟨fun|6=>39|15=>70|14=>69|28=>96|29=>97|20=>88|21=>89|22=>90|23=>91|24=>92|25=>93|26=>94|27=>95|46=>115|47=>116|48=>117|49=>118|50=>119|57=>127|n=>n,fun|22=>85|24=>88|25=>91|3=>3|39=>126|0=>0|53=>156|55=>158|4=>4|46=>149|45=>148|50=>153|5=>5|9=>9|66=>174|70=>178|76=>194|77=>72|n=>n,fun|n=>n⟩
theorem Tryz.sortW:Go.Proofs.SlLaysF0.n6 Tryz.prog Tryz.sortW_ren:={
 mixed:=by kernel_rfl
 f6:=⟨Tryz.f39.name,by decide,Tryz.func39.trans (congrArg some (by kernel_rfl))⟩
 f14:=⟨Tryz.f69.name,by decide,Tryz.func69.trans (congrArg some (by kernel_rfl))⟩
 f15:=Tryz.func70.trans (congrArg some (by kernel_rfl))
 f20:=⟨Tryz.f88.name,by decide,Tryz.func88.trans (congrArg some (by kernel_rfl))⟩
 f21:=⟨Tryz.f89.name,by decide,Tryz.func89.trans (congrArg some (by kernel_rfl))⟩
 f22:=⟨Tryz.f90.name,by decide,Tryz.func90.trans (congrArg some (by kernel_rfl))⟩
 f23:=⟨Tryz.f91.name,by decide,Tryz.func91.trans (congrArg some (by kernel_rfl))⟩
 f24:=⟨Tryz.f92.name,by decide,Tryz.func92.trans (congrArg some (by kernel_rfl))⟩
 f25:=⟨Tryz.f93.name,by decide,Tryz.func93.trans (congrArg some (by kernel_rfl))⟩
 f26:=⟨Tryz.f94.name,by decide,Tryz.func94.trans (congrArg some (by kernel_rfl))⟩
 f27:=⟨Tryz.f95.name,by decide,Tryz.func95.trans (congrArg some (by kernel_rfl))⟩
 f28:=Tryz.func96.trans (congrArg some (by kernel_rfl))
 f29:=Tryz.func97.trans (congrArg some (by kernel_rfl))
 f46:=⟨Tryz.f115.name,by decide,Tryz.func115.trans (congrArg some (by kernel_rfl))⟩
 f47:=Tryz.func116.trans (congrArg some (by kernel_rfl))
 f48:=Tryz.func117.trans (congrArg some (by kernel_rfl))
 f49:=⟨Tryz.f118.name,by decide,Tryz.func118.trans (congrArg some (by kernel_rfl))⟩
 f50:=⟨Tryz.f119.name,by decide,Tryz.func119.trans (congrArg some (by kernel_rfl))⟩
 f57:=⟨Tryz.f127.name,by decide,Tryz.func127.trans (congrArg some (by kernel_rfl))⟩
 t0:=Tryz.underlying0
 a0:=Tryz.isAgg0
 z0:=Tryz.sizeOf0
 v0:=Tryz.zeroValue0
 t3:=Tryz.underlying3
 a3:=Tryz.isAgg3
 z3:=Tryz.sizeOf3
 v3:=Tryz.zeroValue3
 t4:=Tryz.underlying4
 a4:=Tryz.isAgg4
 z4:=Tryz.sizeOf4
 v4:=Tryz.zeroValue4
 t5:=Tryz.underlying5
 a5:=Tryz.isAgg5
 z5:=Tryz.sizeOf5
 v5:=Tryz.zeroValue5
 t9:=Tryz.underlying9
 a9:=Tryz.isAgg9
 z9:=Tryz.sizeOf9
 v9:=Tryz.zeroValue9
 t22:=Tryz.underlying85
 a22:=Tryz.isAgg85
 z22:=Tryz.sizeOf85
 v22:=Tryz.zeroValue85
 t25:=Tryz.underlying91
 a25:=Tryz.isAgg91
 z25:=Tryz.sizeOf91
 v25:=Tryz.zeroValue91
 t39:=Tryz.underlying126
 a39:=Tryz.isAgg126
 z39:=Tryz.sizeOf126
 v39:=Tryz.zeroValue126
 t45:=Tryz.underlying148
 a45:=Tryz.isAgg148
 z45:=Tryz.sizeOf148
 v45:=Tryz.zeroValue148
 t46:=Tryz.underlying149
 a46:=Tryz.isAgg149
 z46:=Tryz.sizeOf149
 v46:=Tryz.zeroValue149
 t50:=Tryz.underlying153
 a50:=Tryz.isAgg153
 z50:=Tryz.sizeOf153
 v50:=Tryz.zeroValue153
 t53:=Tryz.underlying156
 a53:=Tryz.isAgg156
 z53:=Tryz.sizeOf156
 v53:=Tryz.zeroValue156
 t55:=Tryz.underlying158
 a55:=Tryz.isAgg158
 z55:=Tryz.sizeOf158
 v55:=Tryz.zeroValue158
 t66:=Tryz.underlying174
 a66:=Tryz.isAgg174
 z66:=Tryz.sizeOf174
 v66:=Tryz.zeroValue174
 t70:=Tryz.underlying178
 a70:=Tryz.isAgg178
 z70:=Tryz.sizeOf178
 v70:=Tryz.zeroValue178
 t76:=Tryz.underlying194
 a76:=Tryz.isAgg194
 z76:=Tryz.sizeOf194
 v76:=Tryz.zeroValue194
 t77:=Tryz.underlying72
 a77:=Tryz.isAgg72
 z77:=Tryz.sizeOf72
 v77:=Tryz.zeroValue72}
end Go.Proofs
/- slices.SortFunc at credentials with their bytes beside them, by the bytes: a permutation, rising. -/
namespace Go.Proofs.YtkfinhpfdcjoeaaGreat
open Go.RowKit Go.Sort Go.Lib
set_option maxRecDepth 100000 in
theorem pwcmp {D E:Nat→Prop} (x y:WrB) (w:World) (hx:BytesAt D w (.slice x.ao (credBytes x.c).length x.cap) (credBytes x.c)) (hy:BytesAt E w (.slice y.ao (credBytes y.c).length y.cap) (credBytes y.c)) :
  Calls Tryz.prog 40 #[.agg (wrBox x),.agg (wrBox y)] w fun e w'=>e = .returned (.int .i64 (cmpC x.c y.c))∧Gr w w':=by
 have hg:Gr w ((w.alloc (.cells (wrBox x) 88)).alloc (.cells (wrBox y) 88)):=((Gr.refl w).alloc _).alloc _
 have hc:=hg.chg (fun _=>False)
 have hcmp:=bytes_compare ((w.alloc (.cells (wrBox x) 88)).alloc (.cells (wrBox y) 88)) (hx.keep hc (fun _ _=>id)) (hy.keep hc (fun _ _=>id))
 rw[cmpC_eq]at hcmp
 have HG:=hid (aI hcmp hg)
 clear hg hc hcmp hx hy
 show Calls Tryz.prog 40 #[.agg #[.int .i64 x.c.kind,.string ⟨x.c.head.1.toArray⟩,.string ⟨x.c.head.2.toArray⟩,.string ⟨x.c.who.toArray⟩,.string ⟨x.c.b.1.toArray⟩,.string ⟨x.c.b.2.toArray⟩,.string ⟨x.c.c.1.toArray⟩,.string ⟨x.c.c.2.toArray⟩,.string ⟨x.c.w2.toArray⟩,.slice x.ao (credBytes x.c).length x.cap],.agg #[.int .i64 y.c.kind,.string ⟨y.c.head.1.toArray⟩,.string ⟨y.c.head.2.toArray⟩,.string ⟨y.c.who.toArray⟩,.string ⟨y.c.b.1.toArray⟩,.string ⟨y.c.b.2.toArray⟩,.string ⟨y.c.c.1.toArray⟩,.string ⟨y.c.c.2.toArray⟩,.string ⟨y.c.w2.toArray⟩,.slice y.ao (credBytes y.c).length y.cap]] w _
 go_enter Tryz.func40,Tryz.ntmps40
 go_wp2_with fail
 refine HG.out.1.mono ?_
 rintro e w' ⟨rfl,rfl⟩
 go_wp2
 go_ret
 exact⟨rfl,HG.out.2⟩
theorem sub_list {α:Type} {p:α→Prop}:∀(ls:List α),(∀t∈ls,p t)→∃L:List (Subtype p),L.map (·.1)=ls
 | [],_=>⟨[],rfl⟩
 | x::l,h=>by
  obtain⟨L,hL⟩:=sub_list l (fun t ht=>h t (List.mem_cons_of_mem _ ht))
  exact⟨⟨x,h x List.mem_cons_self⟩::L,by rw[List.map_cons,hL]⟩
/-- One of the row: its bytes can be read, from another block than the row's. -/
abbrev WrIn (g:Nat) (w:World):Type:={t:WrB // BytesAt (fun b=>b<w.heap.size∧b≠g) w (.slice t.ao (credBytes t.c).length t.cap) (credBytes t.c)}
instance (g:Nat) (w:World):Inhabited (WrIn g w):=⟨⟨⟨noCred,none,0⟩,by
 have h:credBytes noCred=[]:=by decide
 rw[h]
 exact BytesAt.nil _ _⟩⟩
def encW {g:Nat} {w:World} (t:WrIn g w):List Value:=wrCells t.1
def cmpW {g:Nat} {w:World} (x y:WrIn g w):Int:=cmpC x.1.c y.1.c
theorem ltOf_cmpW {g:Nat} {w:World} (x y:WrIn g w):ltOf cmpW x y=ltS (credBytes x.1.c) (credBytes y.1.c):=by
 unfold ltOf cmpW cmpC
 cases h:ltS (credBytes x.1.c) (credBytes y.1.c) with
 | true=>simp
 | false=>cases h2:ltS (credBytes y.1.c) (credBytes x.1.c) <;> simp
theorem swo_cmpW {g:Nat} {w:World}:SWO (ltOf (cmpW (g:=g) (w:=w))) where
 irrefl x:=by rw[ltOf_cmpW];exact ltS_ord.irrefl _
 trans x y z h1 h2:=by rw[ltOf_cmpW]at *;exact ltS_ord.trans _ _ _ h1 h2
 ntrans x y z h1 h2:=by
  rw[ltOf_cmpW]at *
  generalize credBytes x.1.c=a at *
  generalize credBytes y.1.c=b at *
  generalize credBytes z.1.c=c at *
  cases h3:ltS a c with
  | false=>rfl
  | true=>
   rcases ltS_ord.tri a b with h|h|h
   ·rw[h]at h1;cases h1
   ·subst h;rw[h3]at h2;cases h2
   ·rcases ltS_ord.tri b c with k|k|k
    ·rw[k]at h2;cases h2
    ·subst k;rw[h3]at h1;cases h1
    ·have:=ltS_ord.trans _ _ _ (ltS_ord.trans _ _ _ h3 k) h
     rw[ltS_ord.irrefl]at this;cases this
theorem psort_wr {B:Nat} {w:World} {ao:Option Addr} {cap:Nat} {ls:List WrB} (h:OwnW B w (.slice ao ls.length cap) ls) (hr:ReadsW B w (Value.ownBlock (.slice ao ls.length cap)) ls) (hl:ls.length≤4194304) :
  Calls Tryz.prog 39 #[.slice ao ls.length cap,.func (.func 40) #[] #[]] w fun e w'=>e = .returned (.tuple #[])∧(∃ts:List WrB,ts.Perm ls∧((ts.map (·.c)).Pairwise fun x y=>ltC y x=false)∧OwnW B w' (.slice ao ts.length cap) ts)∧(∀S:Nat→Prop,(∀k,B≤k→S k)→Chg S w w'):=by
 have hall:=h
 rcases h.2 with ⟨he,h0⟩|⟨g,cap',cur,he,hg,hh,h1,h2,h3,h4⟩
 ·have:ls=[]:=List.eq_nil_of_length_eq_zero h0
  subst this
  cases he
  have hcon:=AnyF.slices_SortFunc_none Tryz.sortW none 0 (.func (.func 40) #[] #[]) w
  change Calls Tryz.prog 39 _ _ _ at hcon
  refine hcon.mono ?_
  rintro e w' ⟨rfl,rfl⟩
  exact⟨rfl,⟨[],List.Perm.refl _,List.Pairwise.nil,hall⟩,fun S _=>Chg.refl _ _⟩
 ·cases he
  have hmk:∀t∈ls,BytesAt (fun b=>b<w.heap.size∧b≠g) w (.slice t.ao (credBytes t.c).length t.cap) (credBytes t.c):=fun t ht=>by
   obtain⟨_,k2⟩:=hr t ht
   refine k2.mono ?_
   rintro i ⟨_,a,b⟩
   exact⟨a,fun e=>b (by subst e;rfl)⟩
  obtain⟨L,hLm⟩:∃L:List (WrIn g w),L.map (·.1)=ls:=
   sub_list ls hmk
  have hLl:L.length=ls.length:=by rw[←hLm,List.length_map]
  have hk:∀x:WrIn g w,(encW x).length=10:=fun _=>rfl
  have hLf:L.flatMap encW=wrRow ls:=by
   rw[←hLm,wrRow,List.flatMap_map]
   rfl
  have hs:L.toArray.size=ls.length:=by simp [hLl]
  have hH:HoldsK encW 10 w g 0 L.toArray:=by
   intro t ht
   rw[size_flatK,hs]at ht
   refine⟨?_,by simp [World.frozen?,hh]⟩
   rw[get_flatK _ _ _ _ (by rw[hs];exact ht)]
   have hj:t / 10<L.length:=by omega
   rw[show L.toArray[t / 10]! = L[t / 10] by simp [hj]]
   have hget:=flat_get encW 10 hk L (t / 10) (t % 10) hj (Nat.mod_lt _ (by decide))
   rw[hLf,show t / 10*10+t % 10=t by omega]at hget
   have hlt:t % 10<(encW L[t / 10]).length:=by rw[hk];exact Nat.mod_lt _ (by decide)
   rw[List.getElem?_eq_getElem hlt]at hget
   have:=hall.cells (g:=g) rfl t _ hget
   rw[add_off,Nat.zero_add]at this
   rw[Nat.zero_add,this,getElem!_pos (encW L[t / 10]) (t % 10) hlt]
   rfl
  have eg:∀args w,(callFunc 40 args).run Tryz.prog w = .ok (.enter 40 args) w:=enters_of Tryz.func40 (by kernel_rfl) rfl
  have hcmp:CmpLays Tryz.prog 40 #[] encW 10 (cmpW (g:=g) (w:=w)) g 0 L.toArray.size w:=by
   intro m os dk _ x y
   have hch:Chg (· = g) w (sortWorldK encW 10 w g 0 m dk os):=chg_putRow (flatK encW 10 dk) (· = g) rfl
   exact pwcmp x.1 y.1 _ (x.2.keep hch (fun i hi=>hi.2)) (y.2.keep hch (fun i hi=>hi.2))
  have hcon:=AnyQ.slices_SortFunc Tryz.sortW 10 Tryz.isAgg88 Tryz.sizeOf88 encW hk (fun x v hv=>wr_one x.1 v hv) cmpW swo_cmpW 40 #[] g 0 cap L.toArray w eg hcmp hH (lt_blk hh) (by rw[hs];omega)
  change Calls Tryz.prog 39 _ _ _ at hcon
  rw[hs]at hcon
  refine hcon.mono ?_
  rintro e w' ⟨rfl,d',n,os,hp,hso,rfl⟩
  have hds:d'.size=ls.length:=by rw[hp.1,hs]
  have hHK:HoldsK encW 10 (grow (putRowK encW 10 (Sort.ahead w n) g 0 d') os) g 0 d':=
   holdsK_grow _ _ _ _ _ _ _ (by show g<(putRow id (Sort.ahead w n) g 0 _).heap.size;simpa [putRow,mapBlock,Sort.ahead] using lt_blk hh) (holdsK_putRowK _ _ _ _ _ L.toArray d' hH (by rw[hds,hs]))
  have hperm:(d'.toList.map (·.1)).Perm ls:=by
   have h5:=hp.2.2
   rw[←hds]at h5
   have e1:d'.extract 0 d'.size=d':=by simp
   have e2:L.toArray.extract 0 d'.size=L.toArray:=by rw[hds,←hLl];simp
   rw[e1,e2]at h5
   have:=h5.map (·.1)
   rw[show L.toArray.toList=L from rfl,hLm]at this
   exact this
  refine⟨rfl,⟨d'.toList.map (·.1),hperm,?_,?_⟩,fun S hS=>chg_putRow _ S (hS _ hg)⟩
  ·rw[List.map_map,List.pairwise_map,List.pairwise_iff_getElem]
   intro i j hi hj hij
   have h5:=hso i j (Nat.zero_le _) hij (by simpa [hds] using hj)
   rw[ltOf_cmpW]at h5
   have hi':i<d'.size:=by simpa using hi
   have hj':j<d'.size:=by simpa using hj
   rw[getElem!_pos d' i hi',getElem!_pos d' j hj']at h5
   show ltC (d'.toList[j]).1.c (d'.toList[i]).1.c=false
   have hm:∀m (hm:m<d'.toList.length),isCred (d'.toList[m]).1.c=true:=fun m hm=>(hr _ (hperm.mem_iff.1 (List.mem_map.2 ⟨_,List.getElem_mem hm,rfl⟩))).1
   rw[ltC_right (hm j hj) (hm i hi)]
   simpa using h5
  ·unfold OwnW
   have hl2:(d'.toList.map (·.1)).length=ls.length:=by simp [hds]
   have hrow:wrRow (d'.toList.map (·.1))=d'.toList.flatMap encW:=by rw[wrRow,List.flatMap_map];rfl
   refine⟨by rw[hrow,flat_len encW 10 hk,hl2];simp [hds],.inr ⟨g,cap,_,rfl,hg,heap_putRow _ hh,by rw[hl2];exact h1,h2,by simp [putCells,h3],?_⟩⟩
   apply List.ext_getElem?
   intro i
   rw[List.getElem?_take,hl2,hrow]
   by_cases hi:i<ls.length*10
   ·rw[if_pos hi]
    have hj:i / 10<d'.size:=by omega
    have a:=(hHK.cell (i:=i / 10) (c:=i % 10) hj (Nat.mod_lt _ (by decide))).1
    rw[Nat.zero_add,show i / 10*10+i % 10=i by omega]at a
    have hb:=bC (heap_putRow (n:=n) (os:=os) (flatK encW 10 d') hh) i
    have hcc:=hb.symm.trans a
    have hget:=flat_get encW 10 hk d'.toList (i / 10) (i % 10) (by simpa using hj) (Nat.mod_lt _ (by decide))
    rw[show i / 10*10+i % 10=i by omega]at hget
    rw[Array.getElem?_toList,hcc,hget]
    have hlt:i % 10<(encW d'.toList[i / 10]).length:=by rw[hk];exact Nat.mod_lt _ (by decide)
    rw[List.getElem?_eq_getElem hlt]
    rw[getElem!_pos d' (i / 10) hj]
    rw[getElem!_pos (encW d'[i / 10]) (i % 10) (by rw[hk];exact Nat.mod_lt _ (by decide))]
    simp
   ·rw[if_neg hi,List.getElem?_eq_none (by rw[flat_len encW 10 hk];simp [hds];omega)]
end Go.Proofs.YtkfinhpfdcjoeaaGreat
/- clear over a slice of roles. -/
namespace Go.Proofs.YtkfinhpfdcjoeaaGreat
open Go.RowKit
end Go.Proofs.YtkfinhpfdcjoeaaGreat
/- slices.Compact at credentials, of a row of the call's own. -/
namespace Go.Proofs.YtkfinhpfdcjoeaaGreat
open Go.RowKit Go.Lib Go.Sort
/-- 'clear(s)': the cells hold the zero value's; nothing else turns. -/
theorem run_clear_gen {P:Program} (w:World) (t e ty:TypeId) (z:Value) (zs:List Value) (s:Nat) (ht:P.underlying t=some (.slice e)) (hv:∀w,(zeroValue e).run P w = .ok z w) (b o n c:Nat) (hn:0<n)
  (hzs:(Builtin.zeroCells z.cells n).toList=zs) (hl:zs.length=n*s) (h1:∀v∈zs,v.oneCell'=true)
  (hc:∀j,j<n*s→(w.cell? ⟨b,o+j,none⟩).isSome=true) (hf:∀j,j<n*s→w.frozen? ⟨b,o+j,none⟩=false) :
  (Builtin.clear_ #[t] ty #[.slice (some ⟨b,o,none⟩) n c]).run P w = .ok (.tuple #[]) (w.setCells b o zs):=by
 have hst:=run_storeCells_cells (P:=P) b o zs 0 w (by rw[hl];simpa using hc) (by rw[hl];simpa using hf) h1
 simp only[Nat.add_zero]at hst
 obtain⟨m,rfl⟩:∃m,n=m+1:=⟨n-1,by omega⟩
 simp [Builtin.clear_,run_underlying ht,hv,hzs,hst]
def credZero:List Value:=[.int .i64 0,.string ⟨#[]⟩,.string ⟨#[]⟩,.string ⟨#[]⟩,.string ⟨#[]⟩,.string ⟨#[]⟩,.string ⟨#[]⟩,.string ⟨#[]⟩,.string ⟨#[]⟩]
theorem zero_cells (n:Nat):((Builtin.zeroCells credZero.toArray n).toList).length=n*9∧∀v∈(Builtin.zeroCells credZero.toArray n).toList,v.oneCell'=true:=by
 constructor
 ·simp [Builtin.zeroCells,credZero]
 ·intro v hv
  simp only[Builtin.zeroCells,Array.toList_map,List.mem_map]at hv
  obtain⟨i,_,rfl⟩:=hv
  have hall:∀j:Fin 9,(credZero.toArray[j.val]!).oneCell'=true:=by decide
  exact hall ⟨i % 9,Nat.mod_lt _ (by decide)⟩
/-- The block g holds the credentials d from its first cell on. -/
structure HoldC (w:World) (g cap:Nat) (d:Array CredB):Prop where
 blk:∃cur,w.heap[g]? = some (.cells cur 34 (0,0))∧cur.size=cap*9
 at_:∀j,j<d.size→∀i,i<9→w.cell? ⟨g,j*9+i,none⟩=(credCells d[j]!)[i]?
theorem HoldC.cred {w:World} {g cap:Nat} {d:Array CredB} (h:HoldC w g cap d) {j:Nat} (hj:j<d.size):CredAt w g (j*9) d[j]!:=cred_at_cells fun i hi=>h.at_ j hj i hi
theorem HoldC.keep {S:Nat→Prop} {w w':World} {g cap:Nat} {d:Array CredB} (h:HoldC w g cap d) (hc:Chg S w w') (hS:¬S g):HoldC w' g cap d:=
 ⟨by obtain⟨cur,h1,h2⟩:=h.blk;exact⟨cur,bE h1 hc hS,h2⟩,fun j hj i hi=>by
  have hl:i<(credCells d[j]!).length:=hi
  have:=h.at_ j hj i hi
  rw[List.getElem?_eq_getElem hl]at this ⊢
  exact hc.cell this hS⟩
theorem HoldC.froz {w:World} {g cap:Nat} {d:Array CredB} (h:HoldC w g cap d) (i:Nat):w.frozen? ⟨g,i,none⟩=false:=by
 obtain⟨cur,h1,_⟩:=h.blk
 exact froz_blk h1 i
/-- Nine cells from o on, stored one by one. -/
def putCred (w:World) (g o:Nat) (c:CredB):World:=
 ((((((((w.setCell ⟨g,o,none⟩ (.int .i64 c.kind)).setCell ⟨g,o+1,none⟩ (.string ⟨c.head.1.toArray⟩)).setCell ⟨g,o+2,none⟩ (.string ⟨c.head.2.toArray⟩)).setCell ⟨g,o+3,none⟩ (.string ⟨c.who.toArray⟩)).setCell ⟨g,o+4,none⟩ (.string ⟨c.b.1.toArray⟩)).setCell ⟨g,o+5,none⟩ (.string ⟨c.b.2.toArray⟩)).setCell ⟨g,o+6,none⟩ (.string ⟨c.c.1.toArray⟩)).setCell ⟨g,o+7,none⟩ (.string ⟨c.c.2.toArray⟩)).setCell ⟨g,o+8,none⟩ (.string ⟨c.w2.toArray⟩)
theorem putCred_eq (w:World) (g o:Nat) (c:CredB):putCred w g o c=w.setCells g o (credCells c):=rfl
theorem blk_setCells {g:Nat} {ty:TypeId} {f:Nat×Nat}:∀(xs:List Value) (o:Nat) (w:World) (cur:Array Value),w.heap[g]? = some (.cells cur ty f)→∃cur2,(w.setCells g o xs).heap[g]? = some (.cells cur2 ty f)∧cur2.size=cur.size
 | [],o,w,cur,h=>⟨cur,h,rfl⟩
 | x::r,o,w,cur,h=>by
  obtain⟨c2,h1,h2⟩:=blk_setCells r (o+1) (w.setCell ⟨g,o,none⟩ x) _ (set_blk h o x)
  exact⟨c2,h1,by rw[h2];simp⟩
theorem chg_setCells {g:Nat}:∀(xs:List Value) (o:Nat) (w:World),Chg (· = g) w (w.setCells g o xs)
 | [],_,_=>Chg.refl _ _
 | x::r,o,w=>(setCell_chg w g o x).trans (chg_setCells r (o+1) _) (fun _ _ h=>h)
theorem HoldC.set {w:World} {g cap k:Nat} {d:Array CredB} {u:CredB} (h:HoldC w g cap d) (hk:k<d.size) (hcap:d.size≤cap):HoldC (putCred w g (k*9) u) g cap (d.setIfInBounds k u):=by
 rw[putCred_eq]
 obtain⟨cur,h1,h2⟩:=h.blk
 refine⟨by obtain⟨c2,a,b⟩:=blk_setCells (credCells u) (k*9) w cur h1;exact⟨c2,a,by omega⟩,fun j hj i hi=>?_⟩
 have hj':j<d.size:=by simpa using hj
 by_cases e:j=k
 ·subst e
  rw[getElem!_set_same d j u hj',List.getElem?_eq_getElem (by exact hi)]
  refine World.cell?_setCells_in g (credCells u) (j*9) w (fun m hm=>?_) i hi
  have hm9:m<9:=hm
  rw[bC h1,Array.getElem?_eq_getElem (by omega)];rfl
 ·rw[getElem!_set_other d k j u e,World.cell?_setCells_out g (credCells u) (k*9) w _ (fun _ _=>?_)]
  ·exact h.at_ j hj' i hi
  ·show j*9+i<k*9∨k*9+9≤j*9+i
   omega
theorem HoldC.aboves {g cap:Nat} {d:Array CredB} (xs:List Value) (o:Nat) (w:World) (h:HoldC w g cap d) (ho:d.size*9≤o):HoldC (w.setCells g o xs) g cap d∧Chg (· = g) w (w.setCells g o xs):=by
 refine⟨?_,chg_setCells xs o w⟩
 obtain⟨cur,h1,h2⟩:=h.blk
 refine⟨by obtain⟨c2,a,b⟩:=blk_setCells xs o w cur h1;exact⟨c2,a,by omega⟩,fun j hj i hi=>?_⟩
 rw[World.cell?_setCells_out g xs o w _ (fun _ _=>.inl (by show j*9+i<o;omega))]
 exact h.at_ j hj i hi
theorem HoldC.low {w:World} {g cap:Nat} {d:Array CredB} {c:List CredB} (h:HoldC w g cap d) (hk:c.length≤d.size) (hl:∀j,j<c.length→d[j]! = c[j]!):HoldC w g cap c.toArray:=
 ⟨h.blk,fun j hj i hi=>by
  have hj':j<c.length:=by simpa using hj
  have:=hl j hj'
  rw[h.at_ j (by omega) i hi,this];simp⟩
def compSpecs1 (g n cap k:Nat) (x y:CredB):List Spec:=[.eq (.slice (some ⟨g,0,none⟩) n cap),.any,.any,.eq (.int .i64 k),.any,.any,.any,.any,.any,.any,.any,.any,.any,.any,.any,.any,.eq (.slice (some ⟨g,0,none⟩) n cap),.eq (.int .i64 k),.eq (.pointer (some ⟨g,k*9,none⟩)),.eq (credV x),.eq (.slice (some ⟨g,0,none⟩) n cap),.eq (.int .i64 k),.eq (.int .i64 ((k-1:Nat):Int)),.eq (.pointer (some ⟨g,(k-1)*9,none⟩)),.eq (credV y),.eq (.bool (eqC x y))]
def compSpecs2 (g n cap k m:Nat) (x y:CredB):List Spec:=[.any,.any,.any,.any,.eq (.slice (some ⟨g,k*9,none⟩) n cap),.eq (.int .i64 m),.any,.any,.any,.any,.any,.any,.any,.any,.any,.any,.any,.any,.any,.any,.any,.any,.any,.any,.any,.any,.any,.any,.any,.any,.any,.any,.any,.any,.any,.eq (.slice (some ⟨g,k*9,none⟩) n cap),.eq (.int .i64 m),.eq (.pointer (some ⟨g,k*9+m*9,none⟩)),.eq (credV x),.eq (.slice (some ⟨g,k*9,none⟩) n cap),.eq (.int .i64 m),.eq (.int .i64 ((m-1:Nat):Int)),.eq (.pointer (some ⟨g,k*9+(m-1)*9,none⟩)),.eq (credV y),.eq (.bool (!eqC x y))]
end Go.Proofs.YtkfinhpfdcjoeaaGreat
