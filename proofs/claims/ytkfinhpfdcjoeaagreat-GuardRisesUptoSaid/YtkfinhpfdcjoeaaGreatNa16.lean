/- Texts that the proof leans on, in one: NnSort, FmPairK. -/
import Derived.Test.YtkfinhpfdcjoeaaGreatNa10
import Derived.Test.YtkfinhpfdcjoeaaGreatNa13
import Derived.Test.YtkfinhpfdcjoeaaGreatNa15
import Derived.Test.YtkfinhpfdcjoeaaGreatNa7
import Derived.Shelf.SlSortCmp.NoneTotal
import Derived.LaidEql
import Derived.MapKept
/- slices.SortFunc at formulas of the call's own, by their Compare: a permutation, in order. -/
namespace Go.Proofs.YtkfinhpfdcjoeaaGreat
section
open Go.RowKit Go.Sort Go.Lib
theorem flatN_len {α:Type} (enc:α→List Value) (k:Nat) (hk:∀x,(enc x).length=k):∀ls:List α,(ls.flatMap enc).length=ls.length*k
 | []=>by simp
 | x::l=>by
  rw[List.flatMap_cons,List.length_append,flatN_len enc k hk l,hk,List.length_cons,Nat.add_mul]
  omega
theorem flatN_get {α:Type} (enc:α→List Value) (k:Nat) (hk:∀x,(enc x).length=k):∀(ls:List α) (i j:Nat) (h:i<ls.length) (_:j<k),(ls.flatMap enc)[i*k+j]? = (enc ls[i])[j]?
 | x::l,0,j,_,hj=>by
  rw[Nat.zero_mul,Nat.zero_add,List.flatMap_cons,List.getElem?_append_left (by rw[hk];exact hj)]
  rfl
 | x::l,i+1,j,h,hj=>by
  have:=flatN_get enc k hk l i j (by simpa using h) hj
  rw[List.flatMap_cons,List.getElem?_append_right (by rw[hk,Nat.add_mul];omega),hk]
  rw[show (i+1)*k+j-k=i*k+j by rw[Nat.add_mul];omega]
  exact this
theorem sub_listN {α:Type} {p:α→Prop}:∀(ls:List α),(∀t∈ls,p t)→∃L:List (Subtype p),L.map (·.1)=ls
 | [],_=>⟨[],rfl⟩
 | x::l,h=>by
  obtain⟨L,hL⟩:=sub_listN l (fun t ht=>h t (List.mem_cons_of_mem _ ht))
  exact⟨⟨x,h x List.mem_cons_self⟩::L,by rw[List.map_cons,hL]⟩
/-- The value of a formula of the call's own. -/
theorem own_val {B:Nat} {w:World} {t:AT} (h:OwnA B w t):∃ao cp,(cellsA t).toArray=#[.int .i64 (eraseA t).op,.int .i64 (eraseA t).k,.string ⟨(eraseA t).r.1.toArray⟩,.string ⟨(eraseA t).r.2.toArray⟩,.slice ao (eraseA t).kids.length cp]∧t.v = .slice ao (eraseA t).kids.length cp∧(ao=none→cp=0)∧
  FmsAt (fun k=>B≤k∧k<w.heap.size) w (deepF (eraseA t)) ao (eraseA t).kids∧FmOk (eraseA t):=by
 obtain⟨ao,cp,h1,h2,h3,h4⟩:=own_fms h
 refine⟨ao,cp,?_,?_,h2,by rw[eraseA_eq]at h3 ⊢;exact h3,h4⟩
 ·rw[eraseA_eq]
  simp only[cellsA,FmB.op,FmB.k,FmB.r,FmB.kids,eraseL_len,h1]
 ·rw[h1,eraseA_eq]
  simp only[FmB.kids,eraseL_len]
/-- One of a row in the block g: it lies elsewhere. -/
abbrev AtIn (B g:Nat) (w:World):Type:={t:AT // OwnA B w t∧g∉blksA t∧nodesF (eraseA t)≤4096}
instance (B g:Nat) (w:World):Inhabited (AtIn B g w):=⟨⟨.mk 0 0 ([],[]) (.slice none 0 0) [],by
 rw[ownA_eq]
 exact⟨⟨by simp [AT.r],by simp [AT.r]⟩,World.ownsRow_nil _ _ _ _,trivial⟩,by simp [blksA_eq,AT.v,AT.kids,blksL,Value.ownBlock],by simp [eraseA,eraseL,nodesF,nodesL]⟩⟩
def encA {B g:Nat} {w:World} (t:AtIn B g w):List Value:=cellsA t.1
def cmpA {B g:Nat} {w:World} (x y:AtIn B g w):Int:=Lib.compareBytes (wrF (eraseA x.1)) (wrF (eraseA y.1))
theorem ltOf_cmpA {B g:Nat} {w:World} (x y:AtIn B g w):ltOf cmpA x y=ltS (wrN (eraseA x.1)) (wrN (eraseA y.1)):=by
 unfold ltOf cmpA
 rw[cmpB_eq]
 show _=ltS (wrF (eraseA x.1)) (wrF (eraseA y.1))
 cases h:ltS (wrF (eraseA x.1)) (wrF (eraseA y.1)) with
 | true=>simp
 | false=>cases h2:ltS (wrF (eraseA y.1)) (wrF (eraseA x.1)) <;> simp
theorem swo_cmpA {B g:Nat} {w:World}:SWO (ltOf (cmpA (B:=B) (g:=g) (w:=w))) where
 irrefl x:=by rw[ltOf_cmpA];exact ltS_ord.irrefl _
 trans x y z h1 h2:=by rw[ltOf_cmpA]at *;exact ltS_ord.trans _ _ _ h1 h2
 ntrans x y z h1 h2:=by
  rw[ltOf_cmpA]at *
  generalize wrN (eraseA x.1)=a at *
  generalize wrN (eraseA y.1)=b at *
  generalize wrN (eraseA z.1)=c at *
  cases h3:ltS a c with
  | false=>rfl
  | true=>
   rcases ltS_ord.tri a b with h|h|h
   ·rw[h]at h1;cases h1
   ·subst h;rw[h3]at h2;cases h2
   ·rcases ltS_ord.tri b c with k|k|k
    ·rw[k]at h2;cases h2
    ·subst k;rw[h3]at h1;cases h1
    ·have:=ltS_ord.trans _ _ _ (ltS_ord.trans _ _ _ h3 k) h
     rw[ltS_ord.irrefl]at this;cases this
theorem cellsA_one {B:Nat} {w:World} {t:AT} (h:OwnA B w t):∀u∈cellsA t,u.oneCell'=true:=by
 intro u hu
 have h1:=own_one h
 simp only[cellsA,List.mem_cons,List.not_mem_nil,or_false]at hu
 rcases hu with rfl|rfl|rfl|rfl|rfl
 ·rfl
 ·rfl
 ·rfl
 ·rfl
 ·exact h1
theorem psort_fm {B:Nat} {w:World} {ao:Option Addr} {cap:Nat} {ts:List AT} (h:OwnRw B w (.slice ao ts.length cap) ts) (hN:∀t∈ts,nodesF (eraseA t)≤4096) (hl:ts.length≤4194304) :
  Calls Tryz.prog 110 #[.slice ao ts.length cap,.func (.func 111) #[] #[]] w fun e w'=>e = .returned (.tuple #[])∧(∃us:List AT,us.Perm ts∧(us.map eraseA).Pairwise leN∧OwnRw B w' (.slice ao us.length cap) us)∧Chg (fun k=>Value.ownBlock (.slice ao ts.length cap)=some k) w w':=by
 have hall:=h.row
 have h0:=h
 rcases h.row.2 with ⟨he,h0⟩|⟨g,cap',cur,he,hg,hh,h1,h2,h3,h4⟩
 ·have:ts=[]:=List.eq_nil_of_length_eq_zero h0
  subst this
  cases he
  have hcon:=AnyF.slices_SortFunc_none Tryz.sortF none 0 (.func (.func 111) #[] #[]) w
  change Calls Tryz.prog 110 _ _ _ at hcon
  refine hcon.mono ?_
  rintro e w' ⟨rfl,rfl⟩
  exact⟨rfl,⟨[],List.Perm.refl _,List.Pairwise.nil,h⟩,Chg.refl _ _⟩
 ·cases he
  have hnd:=List.nodup_append.1 h.nd
  have hgn:∀t∈ts,g∉blksA t:=fun t ht hb=>hnd.2.2 g (by simp [Value.ownBlock]) g (by rw[blksL_flat];exact List.mem_flatMap.2 ⟨t,ht,hb⟩) rfl
  obtain⟨L,hLm⟩:∃L:List (AtIn B g w),L.map (·.1)=ts:=sub_listN ts fun t ht=>⟨(ownL_all _ _ _).1 h.own t ht,hgn t ht,hN t ht⟩
  have hLl:L.length=ts.length:=by rw[←hLm,List.length_map]
  have hk:∀x:AtIn B g w,(encA x).length=5:=fun _=>rfl
  have hLf:L.flatMap encA=rowA ts:=by
   rw[←hLm,rowA,List.flatMap_map]
   rfl
  have hs:L.toArray.size=ts.length:=by simp [hLl]
  have hH:HoldsK encA 5 w g 0 L.toArray:=by
   intro t ht
   rw[size_flatK,hs]at ht
   refine⟨?_,by simp [World.frozen?,hh]⟩
   rw[get_flatK _ _ _ _ (by rw[hs];exact ht)]
   have hj:t / 5<L.length:=by omega
   rw[show L.toArray[t / 5]! = L[t / 5] by simp [hj]]
   have hget:=flatN_get encA 5 hk L (t / 5) (t % 5) hj (Nat.mod_lt _ (by decide))
   rw[hLf,show t / 5*5+t % 5=t by omega]at hget
   have hlt:t % 5<(encA L[t / 5]).length:=by rw[hk];exact Nat.mod_lt _ (by decide)
   rw[List.getElem?_eq_getElem hlt]at hget
   have:=hall.cells (g:=g) rfl t _ hget
   rw[add_off,Nat.zero_add]at this
   rw[Nat.zero_add,this,getElem!_pos (encA L[t / 5]) (t % 5) hlt]
   rfl
  have eg:∀args w,(callFunc 111 args).run Tryz.prog w = .ok (.enter 111 args) w:=enters_of Tryz.func111 (by kernel_rfl) rfl
  have hcmp:CmpLays Tryz.prog 111 #[] encA 5 (cmpA (B:=B) (g:=g) (w:=w)) g 0 L.toArray.size w:=by
   intro m os dk _ x y
   have hch:Chg (· = g) w (sortWorldK encA 5 w g 0 m dk os):=chg_putRow (flatK encA 5 dk) (· = g) rfl
   obtain⟨xo,xc,x1,_,x2,x3,x4⟩:=own_val (ownA_keep hch x.1 x.2.1 (fun b hb e=>x.2.2.1 (e▸hb)))
   obtain⟨yo,yc,y1,_,y2,y3,y4⟩:=own_val (ownA_keep hch y.1 y.2.1 (fun b hb e=>y.2.2.1 (e▸hb)))
   have:=fm_compare _ (eraseA x.1) xo xc _ x3 (fun i hi=>hi.2) x4 x.2.2.2 _ (eraseA y.1) yo yc y3 (fun i hi=>hi.2) y4 y.2.2.2
   rw[←x1,←y1]at this
   refine(calls_drawn this).mono ?_
   rintro e w' ⟨⟨rfl,hc⟩,hd⟩
   exact⟨rfl,hc.gr (hd (fun h=>by cases h))⟩
  have hcon:=AnyQ.slices_SortFunc Tryz.sortF 5 Tryz.isAgg46 Tryz.sizeOf46 encA hk (fun x v hv=>cellsA_one x.2.1 v hv) cmpA swo_cmpA 111 #[] g 0 cap L.toArray w eg hcmp hH (lt_blk hh) (by rw[hs];omega)
  change Calls Tryz.prog 110 _ _ _ at hcon
  rw[hs]at hcon
  refine hcon.mono ?_
  rintro e w' ⟨rfl,d',n,os,hp,hso,rfl⟩
  have hds:d'.size=ts.length:=by rw[hp.1,hs]
  have hHK:HoldsK encA 5 (grow (putRowK encA 5 (Sort.ahead w n) g 0 d') os) g 0 d':=
   holdsK_grow _ _ _ _ _ _ _ (by show g<(putRow id (Sort.ahead w n) g 0 _).heap.size;simpa [putRow,mapBlock,Sort.ahead] using lt_blk hh) (holdsK_putRowK _ _ _ _ _ L.toArray d' hH (by rw[hds,hs]))
  have hperm:(d'.toList.map (·.1)).Perm ts:=by
   have h5:=hp.2.2
   rw[←hds]at h5
   have e1:d'.extract 0 d'.size=d':=by simp
   have e2:L.toArray.extract 0 d'.size=L.toArray:=by rw[hds,←hLl];simp
   rw[e1,e2]at h5
   have:=h5.map (·.1)
   rw[show L.toArray.toList=L from rfl,hLm]at this
   exact this
  have hcg:Chg (fun k=>k=g) w (grow (putRowK encA 5 (Sort.ahead w n) g 0 d') os):=chg_putRow _ _ rfl
  have hl2:(d'.toList.map (·.1)).length=ts.length:=by simp [hds]
  have hrow:rowA (d'.toList.map (·.1))=d'.toList.flatMap encA:=by rw[rowA,List.flatMap_map];rfl
  refine⟨rfl,⟨d'.toList.map (·.1),hperm,?_,⟨?_,?_,?_⟩⟩,hcg.mono fun k _ hk=>by subst hk;rfl⟩
  ·rw[List.map_map,List.pairwise_map,List.pairwise_iff_getElem]
   intro i j hi hj hij
   have h5:=hso i j (Nat.zero_le _) hij (by simpa [hds] using hj)
   rw[ltOf_cmpA]at h5
   have hi':i<d'.size:=by simpa using hi
   have hj':j<d'.size:=by simpa using hj
   rw[getElem!_pos d' i hi',getElem!_pos d' j hj']at h5
   show ltS (wrN (eraseA (d'.toList[j]).1)) (wrN (eraseA (d'.toList[i]).1))=false
   simpa using h5
  ·refine⟨by rw[hrow,flatN_len encA 5 hk,hl2];simp [hds],.inr ⟨g,cap,_,by rw[hl2],hg,heap_putRow _ hh,by rw[hl2];exact h1,h2,by simp [putCells,h3],?_⟩⟩
   apply List.ext_getElem?
   intro i
   rw[List.getElem?_take,hl2,hrow]
   by_cases hi:i<ts.length*5
   ·rw[if_pos hi]
    have hj:i / 5<d'.size:=by omega
    have a:=(hHK.cell (i:=i / 5) (c:=i % 5) hj (Nat.mod_lt _ (by decide))).1
    rw[Nat.zero_add,show i / 5*5+i % 5=i by omega]at a
    have hb:=bC (heap_putRow (n:=n) (os:=os) (flatK encA 5 d') hh) i
    have hcc:=hb.symm.trans a
    have hget:=flatN_get encA 5 hk d'.toList (i / 5) (i % 5) (by simpa using hj) (Nat.mod_lt _ (by decide))
    rw[show i / 5*5+i % 5=i by omega]at hget
    rw[Array.getElem?_toList,hcc,hget]
    have hlt:i % 5<(encA d'.toList[i / 5]).length:=by rw[hk];exact Nat.mod_lt _ (by decide)
    rw[List.getElem?_eq_getElem hlt]
    rw[getElem!_pos d' (i / 5) hj]
    rw[getElem!_pos (encA d'[i / 5]) (i % 5) (by rw[hk];exact Nat.mod_lt _ (by decide))]
    simp
   ·rw[if_neg hi,List.getElem?_eq_none (by rw[flatN_len encA 5 hk];simp [hds];omega)]
  ·refine(ownL_all _ _ _).2 fun t ht=>?_
   have ht2:=hperm.mem_iff.1 ht
   exact ownA_keep hcg t ((ownL_all _ _ _).1 h.own t ht2) (fun b hb e=>hgn t ht2 (e▸hb))
  ·have hpb:(blksL (d'.toList.map (·.1))).Perm (blksL ts):=by rw[blksL_flat,blksL_flat];exact hperm.flatMap_right _
   exact((hpb.append_left _).nodup_iff).2 h.nd
end
section
open Go.RowKit
theorem sizeOf_fm (w:World):(sizeOf 46).run Tryz.prog w = .ok 5 w:=by kernel_rfl
theorem eq_ptrK (d:Nat) (w:World) {a a':Addr} {ca cb:Array Value} {ta tb:TypeId} (hne:a≠a') (ha:w.heap[a.block]? = some (.cells ca ta (0,0))) (hb:w.heap[a'.block]? = some (.cells cb tb (0,0))) :
  (Op.equalIn (d+1) 189 (.pointer (some a)) (.pointer (some a'))).run Tryz.prog w = .ok false w:=by
 have h1:=run_sameAddr_other (P:=Tryz.prog) w hne ha hb
 simp [Op.equalIn,run_underlying Tryz.underlying189,h1]
theorem eq_pairK (d:Nat) (w:World) {a a' b b':Addr} {ca cb:Array Value} {ta tb:TypeId} (hne:a≠a') (ha:w.heap[a.block]? = some (.cells ca ta (0,0))) (hb:w.heap[a'.block]? = some (.cells cb tb (0,0))) :
  (Op.equalIn (d+2) 191 (.agg #[.pointer (some a),.pointer (some b)]) (.agg #[.pointer (some a'),.pointer (some b')])).run Tryz.prog w = .ok false w:=by
 have h1:=eq_ptrK d w hne ha hb
 rw[run_equalIn_struct w (d+1) _ _ _ (by kernel_rfl) (by kernel_rfl)]
 have hf : (Tryz.prog.fieldsOf 191).toList.map (fun f => (f.name, f.type, f.offset)) = [("a", 189, 0), ("b", 189, 1)] := by kernel_rfl
 generalize (Tryz.prog.fieldsOf 191).toList=fs at hf ⊢
 have p1:∀x y:Addr,(part 189 #[.pointer (some x),.pointer (some y)] 0).run Tryz.prog w = .ok (.pointer (some x)) w:=fun x y=>by kernel_rfl
 rcases fs with _|⟨f1,_|⟨f2,_|⟨f3,fs⟩⟩⟩
 ·simp at hf
 ·simp at hf
 ·simp only[List.map_cons,List.map_nil,List.cons.injEq,Prod.mk.injEq,and_true]at hf
  obtain⟨⟨n1,t1,o1⟩,⟨n2,t2,o2⟩⟩:=hf
  simp [Op.eqFields,n1,t1,o1,p1,h1]
 ·simp at hf
/-- The keys that a map of pairs has: none of them is a's. -/
theorem find_none (w:World) (a b:Addr):∀(es:List MapEntry) (i:Nat),(∀e∈es,∃a' b':Addr,e.key = .agg #[.pointer (some a'),.pointer (some b')]∧a≠a'∧(∃ca ta,w.heap[a'.block]? = some (.cells ca ta (0,0))))→(∃ca ta,w.heap[a.block]? = some (.cells ca ta (0,0)))→
  (Instr.findAsking 191 (.agg #[.pointer (some a),.pointer (some b)]) es i).run Tryz.prog w = .ok none w:=by
 intro es
 induction es with
 | nil=>intro i _ _;rfl
 | cons e es ih=>
  intro i h ha
  obtain⟨a',b',hk,hne,ca',ta',ha'⟩:=h e (by simp)
  obtain⟨ca,ta,ha2⟩:=ha
  have h1:(Op.equal 191 (.agg #[.pointer (some a),.pointer (some b)]) e.key).run Tryz.prog w = .ok false w:=by
   rw[hk]
   exact eq_pairK 9998 w hne ha2 ha'
  unfold Instr.findAsking
  simp only[Sem.run_bind,h1,Result.andThen_ok,Bool.false_eq_true,if_false]
  exact ih (i+1) (fun e he=>h e (by simp [he])) ⟨ca,ta,ha2⟩
theorem find_noneK (w:World) (a b:Addr) (es:List MapEntry) (h:∀e∈es,∃a' b':Addr,e.key = .agg #[.pointer (some a'),.pointer (some b')]∧a≠a'∧(∃ca ta,w.heap[a'.block]? = some (.cells ca ta (0,0)))) (ha:∃ca ta,w.heap[a.block]? = some (.cells ca ta (0,0))) :
  (Instr.findKey 191 (.agg #[.pointer (some a),.pointer (some b)]) es).run Tryz.prog w = .ok none w:=by
 unfold Instr.findKey
 simp only[Sem.run_bind,run_underlying Tryz.underlying191,Result.andThen_ok]
 cases es with
 | nil=>rfl
 | cons e es=>
  have h1:=find_none w a b (e::es) 0 h ha
  obtain⟨a',b',hk,_⟩:=h e (by simp)
  simp only[Instr.findNow,Instr.sameNow]
  exact h1
theorem check_pairK (empty:Bool) (a b:Addr) (w:World):(Instr.checkKey empty 10000 191 (.agg #[.pointer (some a),.pointer (some b)])).run Tryz.prog w = .ok () w:=by
 cases empty <;> kernel_rfl
/-- A look-up of a pair that isn't there. -/
theorem look_pair (w:World) (M:Nat) (es:Array MapEntry) (clock:Nat) (a b:Addr) (hM:w.heap[M]? = some (.map es clock)) (h:∀e∈es.toList,∃a' b':Addr,e.key = .agg #[.pointer (some a'),.pointer (some b')]∧a≠a'∧(∃ca ta,w.heap[a'.block]? = some (.cells ca ta (0,0)))) (ha:∃ca ta,w.heap[a.block]? = some (.cells ca ta (0,0))) :
  (Instr.lookup 193 (.map (some M)) (.agg #[.pointer (some a),.pointer (some b)]) true).run Tryz.prog w = .ok (.tuple #[.agg #[],.bool false]) w:=by
 have h1:=find_noneK w a b es.toList h ha
 have h2:=check_pairK es.isEmpty a b w
 unfold Instr.lookup
 have hz:(zeroValue 62).run Tryz.prog w = .ok (.agg #[]) w:=by kernel_rfl
 have hg:(getObj M).run Tryz.prog w = .ok (.map es clock) w:=MapKept.run_getObj_map hM
 simp [run_underlying Tryz.underlying193,hg,h1,h2,hz]
/-- A pair is entered. -/
theorem put_pair (w:World) (M:Nat) (es:Array MapEntry) (clock:Nat) (a b:Addr) (hM:w.heap[M]? = some (.map es clock)) (h:∀e∈es.toList,∃a' b':Addr,e.key = .agg #[.pointer (some a'),.pointer (some b')]∧a≠a'∧(∃ca ta,w.heap[a'.block]? = some (.cells ca ta (0,0)))) (ha:∃ca ta,w.heap[a.block]? = some (.cells ca ta (0,0))) :
  ∃w',(Instr.mapUpdate 193 (.map (some M)) (.agg #[.pointer (some a),.pointer (some b)]) (.agg #[])).run Tryz.prog w = .ok () w'∧w'.heap[M]? = some (.map (es.push ⟨.agg #[.pointer (some a),.pointer (some b)],.agg #[],clock⟩) (clock+1))∧Chg (· = M) w w':=by
 have h1:=find_noneK w a b es.toList h ha
 have h2:=check_pairK false a b w
 unfold Instr.mapUpdate
 have hg:(getObj M).run Tryz.prog w = .ok (.map es clock) w:=MapKept.run_getObj_map hM
 have hs:=MapKept.run_setObj_map (P:=Tryz.prog) (.map (es.push ⟨.agg #[.pointer (some a),.pointer (some b)],.agg #[],clock⟩) (clock+1)) hM
 simp [run_underlying Tryz.underlying193,hg,h1,h2,hs]
 have hh:=MapKept.heap_set (o':=.map (es.push ⟨.agg #[.pointer (some a),.pointer (some b)],.agg #[],clock⟩) (clock+1)) hM
 exact⟨hh.1,⟨rfl,rfl,rfl,by simp,fun i hi hne=>hh.2 i hne⟩⟩
end
end Go.Proofs.YtkfinhpfdcjoeaaGreat
