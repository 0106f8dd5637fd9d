/- Texts that the proof leans on, in one: CondOpen, GgRisesRow, PmEnterM, PmApp, PmMEnter. -/
import Derived.ChangeMaps5
import Derived.ProofKit
import Derived.OpenShut
import Derived.JoinedCond
import Derived.Test.YtkfinhpfdcjoeaaGreatNa25
import Derived.Test.YtkfinhpfdcjoeaaGreatNa38
import Derived.Test.YtkfinhpfdcjoeaaGreatNa39
import Derived.Test.YtkfinhpfdcjoeaaGreatNa35
import Derived.Maps.AppendAt
/- A law that bears a condition, over worlds of the program's shape: what is to be shown of the call. (The kit's wrap for a condition throws the shape away.) -/
namespace Go.Proofs.YtkfinhpfdcjoeaaGreat
section
open Go.ChangeShapes Go.WideShapes Go.ChangeAt Go.RowKit
theorem handed_cond_shaped {H:Type} {enc:TypeId×Value→H} {a:Assume} {C:Checked} {os:Os} {f:FuncId} {fn:Func} {s:OpenSpec} {k:(H:Type)→List (DataW H)→Bool} (hk:s.cond=some k) {F:Stop.Interp} {conds:List PathCond} {apart fresh handsOn again:Bool}
  (own:ownKnob C.prog.godebug=none) (started:os.Started) (noInit:C.prog.inits.idxOf? f=none) (hfn:C.prog.funcs[f]? = some fn)
  (witness:∃(w:World) (tape:Tape) (i:Input),w.os=os∧(w.forCall tape i).Shaped C.prog∧i.vars=[]∧Input.okWide C.prog (w.forCall tape i) .any w.heap.size f i∧
   s.pre6 enc C.prog fn conds apart (w.forCall tape i).memory i.args∧a.holds C.prog (lone (Frame.enter C.prog f i.args .normal) [] (w.forCall tape i)))
  (main:∀(W:World) (base:Nat) (args:Array Value) (ds gs:List (DataW H)) (before:List MemPlace),W.ShapedOpen C.prog→
   (∀(j:Nat) t v,fn.params[j]? = some t→args[j]? = some v→Value.okWide C.prog W .any base t v)→
   DataW.Whole enc C.prog fn.params.toList s.vars apart W args.toList ds gs before→k H (ds++gs)=true→
   Calls C.prog f args W fun e W'=>∃v,e = .returned v∧(s.at F).post enc C.prog fn apart fresh handsOn again W args v W') :
  ReturnsInHanded a C os f .any (s.pre6 enc C.prog fn conds apart) ((s.at F).post enc C.prog fn apart fresh handsOn again):=by
 refine returnsInHanded_of_calls own started noInit witness fun w tape i _ hsh _ hok hpre _=>?_
 obtain⟨_,_,_,fn',hfn',_,_,_,_,hval⟩:=hok
 obtain rfl:fn'=fn:=Option.some.inj (hfn'.symm.trans hfn)
 obtain⟨ds,gs,before,hw,_,hkk⟩:=(OpenSpec.pre_some hk conds apart _ _).1 hpre.1
 refine(main (w.forCall tape i) w.heap.size i.args ds gs before hsh hval (DataW.Whole.of_heap (w':=w.forCall tape i) (by rfl) hw) hkk).mono ?_
 rintro e W' ⟨v,rfl,hp⟩
 exact ChangeSpec.post_blind hp
end
section
open Go.ChangeShapes Go.WideShapes Go.ChangeAt Go.RowKit
set_option maxRecDepth 100000 in
theorem guardRises_lifted (HK:GK) (os:Os) (started:os.Started) (H:Type) (enc:TypeId×Value→H) (F:Stop.Interp) :
  ReturnsInHanded {} Tryz.checked os 3 .any ((Rows.OpenSpec.upto Rows.guardRisesSpec).pre6 enc Tryz.prog Tryz.f3 Rows.guardRisesUptoRow.domain false) (((Rows.OpenSpec.upto Rows.guardRisesSpec).at F).post enc Tryz.prog Tryz.f3 false true false false):=by
 refine handed_cond_shaped (C:=Tryz.checked) (s:=Rows.OpenSpec.upto Rows.guardRisesSpec) (k:=Rows.uptoSmall) rfl Tryz.own started (by kernel_rfl) Tryz.func3
  (OpenSpec.witness (enc:=enc) (C:=Tryz.checked) (s:=Rows.OpenSpec.upto Rows.guardRisesSpec) (k:=Rows.uptoSmall) rfl false ⟨#[],#[.agg #[.string ⟨#[]⟩,.slice none 0 0,.slice none 0 0],.slice none 0 0,.slice none 0 0],[]⟩ 8 (by kernel_rfl) (by kernel_rfl) (by kernel_rfl)
   (x:=([.agg [.lit (.string []),.nil,.nil],.nil,.nil],[],[])) (by kernel_rfl) rfl (by kernel_rfl)) ?_
 intro W base args ds gs before hshp hval0 hW hk
 have hval:∀(j:Nat) t v,Tryz.f3.params[j]? = some t→args[j]? = some v→Value.okWide Tryz.prog W .any base t v:=hval0
 have hW':=hW
 obtain⟨p,q,hA0,hV,rfl,hfz,hnd⟩:=hW
 have hA:DataW.TrodAll enc Tryz.prog W 0 (fun _=>true) true Tryz.f3.params.toList args.toList ds p:=hA0
 rw[Tryz.params3]at hA hval
 obtain⟨v0,v1,v2,d0,d1,d2,p0,p1,p2,rfl,rfl,rfl,h0,h1,h2⟩:=trodAll_three hA
 obtain⟨rfl,rfl⟩:=trodVars_none hV
 have k0:=h0
 have k1:=h1
 have k2:=h2
 have lt0:∀x∈p0,x.block<W.heap.size:=by obtain⟨m,hm⟩:=k0;exact DataW.trod_lt m _ _ _ hm
 have lt1:∀x∈p1,x.block<W.heap.size:=by obtain⟨m,hm⟩:=k1;exact DataW.trod_lt m _ _ _ hm
 have lt2:∀x∈p2,x.block<W.heap.size:=by obtain⟨m,hm⟩:=k2;exact DataW.trod_lt m _ _ _ hm
 have hk':=of_decide_eq_true hk
 simp only[List.append_nil,Rows.uptoBulkAll]at hk'
 obtain⟨pp,po,pc,ao,ac,rfl,hpp,hgp⟩:=open_party (N:=1048576) (by omega) (hval 0 25 v0 rfl rfl) h0
 obtain⟨a1,len1,cap1,rfl⟩:=okWide_slice Tryz.underlying26 (hval 1 26 v1 rfl rfl)
 obtain⟨fuel1,hf1⟩:=h1
 obtain⟨ho,hc,ls,hcs1,hl,htl,hz1⟩:=open_creds hf1
 simp only[Value.cells,List.cons.injEq,and_true,Value.slice.injEq]at hcs1
 obtain⟨rfl,rfl,rfl⟩:=hcs1
 obtain⟨a2,len2,cap2,rfl⟩:=okWide_slice Tryz.underlying26 (hval 2 26 v2 rfl rfl)
 obtain⟨fuel2,hf2⟩:=h2
 obtain⟨mo,mc,ms,hcs2,hm,htm,hz2⟩:=open_creds hf2
 simp only[Value.cells,List.cons.injEq,and_true,Value.slice.injEq]at hcs2
 obtain⟨rfl,rfl,rfl⟩:=hcs2
 dsimp only at hgp htl htm
 clear hA0 hval0
 refine(grises_main HK (fun w=>gfirst HK w) _ pp po pc ao ac _ _ _ _ ls ms W hpp (by omega) (by omega) hl (fun _ h=>h) hz1 hm (fun _ h=>h) hz2 (by omega)).mono fun e W' ⟨he,hcW⟩=>?_
 subst he
 have bel:Below W.heap.size W W':=hcW.below (Nat.le_refl _) (fun _ _=>id)
 exact⟨_,rfl,_,_,_,[],_,[],hW',trodAll_mk1 (shut_bool Tryz.underlying4 _),(trodAll_cons_mk (Below.trod Tryz.laidOut (by kernel_rfl) (of_decide_eq_true (by kernel_rfl)) k0 bel lt0) (trodAll_cons_mk (Below.trod Tryz.laidOut (by kernel_rfl) (of_decide_eq_true (by kernel_rfl)) k1 bel lt1) (trodAll_cons_mk (Below.trod Tryz.laidOut (by kernel_rfl) (of_decide_eq_true (by kernel_rfl)) k2 bel lt2) trodAll_mk0))),rfl,bel.frame _,fun h=>by cases h⟩
theorem guardRises_of (HK:GK):Rows.GuardRisesUptoSaid:=
 OpenClaim.holds_of_cond 3 Tryz.f3 rfl rfl rfl rfl rfl rfl rfl ⟨rfl,rfl,rfl,rfl,rfl⟩ rfl rfl rfl rfl rfl (by kernel_rfl) Tryz.func3 (by kernel_rfl)
  (of_decide_eq_true (by kernel_rfl)) (by unfold Func.isWrapper;first|(rw[if_pos (by decide +kernel)];kernel_rfl)|(rw[if_neg (by decide +kernel)];exact⟨rfl,rfl⟩))
  (fun os started H enc _ F=>guardRises_lifted HK os started H enc F)
end
section
open Go.RowKit Go.Maps
set_option maxRecDepth 100000 in
set_option maxHeartbeats 1000000 in
theorem enter_m {O:Nat→Prop} (m n:Nat) (rel:RoleB→List UInt8→Prop) (r:RoleB) (s:List UInt8) (w:World) (h:Sets ktR ktS O w m n rel) (hO:∀i,O i→i<w.heap.size) (hr:ktR.ok r) (hs:ktS.ok s) (hn:n<4611686018427387904) :
  Calls Tryz.prog 121 #[.map (some m),.agg #[.string ⟨r.1.toArray⟩,.string ⟨r.2.toArray⟩],.string ⟨s.toArray⟩] w (EntPost ktR ktS O m n rel r s w):=by
 have hc1:=alc w (.cells #[.string ⟨r.1.toArray⟩,.string ⟨r.2.toArray⟩] 32)
 rcases h.here (t:=108) (e:=113) Tryz.underlying108 mZeroIn hr with ⟨b,xs,h1,h2,h3,h4,h5,h6⟩|⟨h1,h2⟩
 ·have z1:=h6 _ hc1.none
  have z2:=(h3.keep hc1 id).look (t:=113) (e:=62) Tryz.underlying113 (mZeroUn _) hs
  simp only[ktR,ktS]at z1 z2
  by_cases hx:s∈xs
  ·simp only[hx,decide_true]at z2
   have HH:=hid (aI ((h5 s).1 hx) hc1)
   clear h h1 h2 h3 h4 h5 h6 hx hc1
   go_enter Tryz.func121,Tryz.ntmps121
   go_wp2
   go_ret
   exact .inl ⟨HH.out.1,rfl,HH.out.2.alloc _⟩
  ·simp only[hx,decide_false]at z2
   have hc2:Chg (fun _=>False) w ((w.alloc (.cells #[.string ⟨r.1.toArray⟩,.string ⟨r.2.toArray⟩] 32)).alloc (.cells #[] 62)):=hc1.alloc _
   have z3:=h6 _ hc2.none
   have h3':=h3.keep hc2 id
   have q1:∀w:World,(binOp .eql 113 (.map (some b)) (.map none)).run Tryz.prog w = .ok (.bool false) w:=fun w=>run_eql_map_nil w _ _ _ _ Tryz.underlying113
   obtain⟨w',z4,k1,k2⟩:=h3'.add (t:=113) (e:=62) Tryz.underlying113 (by omega) hs hx
   simp only[ktR,ktS]at z3 z4
   have HH:=hid (aI hc2 (aI k1 k2))
   have HX:=hid (aI h (aI h1 (aI h2 (aI h5 h6))))
   have HL:=hid (aI h4 hx)
   clear h h1 h2 h3 h4 h5 h6 hx hc1 hc2 h3' k1 k2
   go_enter Tryz.func121,Tryz.ntmps121
   go_wp2
   go_ret
   obtain⟨hc2,k1,k2⟩:=HH.out
   obtain⟨h,h1,h2,h5,h6⟩:=HX.out
   obtain⟨h4,hx⟩:=HL.out
   refine .inr ⟨fun e=>hx ((h5 s).2 e),rfl,O,?_,Grew.refl _ _,(hc2.none).trans k2 (fun i _ hi=>by subst hi;exact h1),fun i hi=>Nat.lt_of_lt_of_le (hO i hi) (Nat.le_trans hc2.size k2.size)⟩
   exact(h.keep hc2 (fun _ _=>id)).grow (t:=108) (e:=113) Tryz.underlying108 mZeroIn hr (fun w2 hc=>h6 w2 (hc2.none.trans hc (fun _ _ h=>h))) k2 k1 (fun z=>by simp [h5 z]) (by simp;omega)
 ·have z1:=h2 _ hc1.none
  have z2:=Maps.look_nil (w:=w.alloc (.cells #[.string ⟨r.1.toArray⟩,.string ⟨r.2.toArray⟩] 32)) true ktS.keyed (t:=113) (e:=62) Tryz.underlying113 (mZeroUn _) (ktS.reads s hs)
  have hc2:Chg (fun _=>False) w ((w.alloc (.cells #[.string ⟨r.1.toArray⟩,.string ⟨r.2.toArray⟩] 32)).alloc (.cells #[] 62)):=hc1.alloc _
  have hc3:Chg (fun _=>False) w (((w.alloc (.cells #[.string ⟨r.1.toArray⟩,.string ⟨r.2.toArray⟩] 32)).alloc (.cells #[] 62)).alloc (.map #[] 0)):=hc2.alloc _
  have z3:=h2 _ hc2.none
  have q1:∀w:World,(binOp .eql 113 (.map none) (.map none)).run Tryz.prog w = .ok (.bool true) w:=fun w=>run_eql_map_nil w _ _ _ _ Tryz.underlying113
  have hmm:=@run_makeMap Tryz.prog
  obtain⟨w4,z4,k1,k2,k3⟩:=h.new (ki:=ktS) (t:=108) (e:=113) Tryz.underlying108 mZeroIn hr (by omega) (h2 w R0) hO hc3 (b:=w.heap.size+1+1) (by omega)
  have hmO:=h.top
  have hm:=hO _ hmO
  have z5:=k2 w4 R0
  have hsm:=(smap_made ktS ((w.alloc (.cells #[.string ⟨r.1.toArray⟩,.string ⟨r.2.toArray⟩] 32)).alloc (.cells #[] 62)))
  have e9:((w.alloc (.cells #[.string ⟨r.1.toArray⟩,.string ⟨r.2.toArray⟩] 32)).alloc (.cells #[] 62)).heap.size=w.heap.size+1+1:=by simp
  rw[e9]at hsm
  have hsm4:=hsm.keep k1 (by omega)
  obtain⟨w5,z6,k4,k5⟩:=hsm4.add (t:=113) (e:=62) Tryz.underlying113 (by simp) hs (by simp)
  have hb1:(w.alloc (.cells #[.string ⟨r.1.toArray⟩,.string ⟨r.2.toArray⟩] 32)).heap[w.heap.size]? = some (.cells #[.string ⟨r.1.toArray⟩,.string ⟨r.2.toArray⟩] 32 (0,0)):=heap_alloc_new w _
  have hb3:=bE hb1 (((Chg.refl (fun _=>False) _).alloc (.cells #[] 62)).alloc (.map #[] 0)) id
  have hb4:=bE hb3 k1 (by omega)
  have c0:=bC hb4 0
  have c1:=bC hb4 1
  simp only[lA,lZ,lS]at c0 c1
  simp only[ktR,ktS]at z1 z2 z3 z4 z5 z6
  have HH:=hid (aI hc3 (aI k1 (aI k3 (aI k4 k5))))
  have HX:=hid h1
  clear h h1 h2 hc1 hc2 hc3 k1 k2 k3 k4 k5 hsm hsm4 e9 hb1 hb3 hb4
  go_enter Tryz.func121,Tryz.ntmps121
  go_wp2
  go_ret
  obtain⟨hc3,k1,k3,k4,k5⟩:=HH.out
  have s1:=hc3.size
  have s2:=k1.size
  have s3:=k5.size
  refine .inr ⟨HX.out s,rfl,_,k3 w5 s k5 (by simpa using k4),fun i hi=>?_,?_,fun i hi=>?_⟩
  ·rcases hi with hi|hi
   ·exact .inl hi
   ·exact .inr (by omega)
  ·refine(hc3.none.trans k1 (fun i _ hi=>by subst hi;assumption)).trans k5 (fun i hi e=>by omega)
  ·rcases hi with hi|hi
   ·have:=hO i hi;omega
   ·have:=k4.lt;omega
end
section
open Go.RowKit
theorem factRow_one9 (ls:List FactB):∀u∈factRow ls,u.oneCell'=true:=by
 intro u hu
 unfold factRow at hu
 rw[List.mem_flatMap]at hu
 obtain⟨x,_,hx⟩:=hu
 exact fact_one x u hx
theorem factRow_len9 (ls:List FactB):(factRow ls).length=ls.length*3:=by
 unfold factRow
 induction ls with
 | nil=>rfl
 | cons x l ih=>rw[List.flatMap_cons,List.length_append,ih,List.length_cons];simp [factCells];omega
theorem factRow_append9 (a b:List FactB):factRow (a++b)=factRow a++factRow b:=by simp [factRow]
theorem FactAt.cells9 {w:World} {b o:Nat} {c:FactB} (h:FactAt w b o c):∀j,j<3→w.cell? ⟨b,o+j,none⟩=(factCells c)[j]?
 | 0,_=>h.k0
 | 1,_=>h.k1
 | 2,_=>h.k2
 | j+3,h=>absurd h (by omega)
theorem factsAt_row {D:Nat→Prop} {w:World} {ad:Addr} {ls:List FactB} (hst:FactsAt D w (some ad) ls) (j:Nat) (u:Value) (hj:(factRow ls)[j]? = some u):w.cell? (ad.add j)=some u:=by
 have hjl:j<(factRow ls).length:=(List.getElem?_eq_some_iff.1 hj).1
 rw[factRow_len9]at hjl
 have hq:j / 3<ls.length:=by omega
 obtain⟨b,off,e,_,h3⟩:=hst (j / 3) hq
 cases e
 have h4:=h3.cells9 (j % 3) (by omega)
 have h5:=factRow_get ls (j / 3) (j % 3) hq (by omega)
 have h6:j / 3*3+j % 3=j:=by omega
 rw[h6]at h5
 rw[add_off,show off+j=off+j / 3*3+j % 3 by omega,h4,←h5]
 exact hj
theorem factsAt_none {D:Nat→Prop} {w:World} {ls:List FactB} (hst:FactsAt D w none ls):ls=[]:=by
 cases ls with
 | nil=>rfl
 | cons y l=>obtain⟨_,_,e,_⟩:=hst 0 (by simp);cases e
/-- A row of facts of the call's own, apart from O. -/
structure Came (B:Nat) (O:Nat→Prop) (w:World) (v:Value) (cs:List FactB):Prop where
 own:OwnF B w v cs
 ap:∀k,v.ownBlock=some k→¬O k
theorem Came.nil (B:Nat) (O:Nat→Prop) (w:World):Came B O w (.slice none 0 0) []:=⟨World.ownsRow_nil _ _ _ _,fun _ h=>(by cases h)⟩
theorem OwnF.blt {B:Nat} {w:World} {v:Value} {ls:List FactB} (h:OwnF B w v ls) {k:Nat} (hk:v.ownBlock=some k):B≤k∧k<w.heap.size:=by
 rcases h.2 with ⟨hx',_⟩|⟨g,cap',cur,hx',hg,hh,_⟩
 ·rw[hx']at hk;cases hk
 ·have hk2:g=k:=by rw[hx']at hk;simpa [Value.ownBlock] using hk
  subst hk2
  exact⟨hg,lt_blk hh⟩
theorem Came.keep {B:Nat} {O O':Nat→Prop} {w w':World} {v:Value} {cs:List FactB} (h:Came B O w v cs) (hc:Chg O w w') (hg:Grew O O' w):Came B O' w' v cs:=
 ⟨h.own.keep hc h.ap,fun k hk=>hg.not (h.own.blt hk).2 (h.ap k hk)⟩
theorem Came.quiet {B:Nat} {O:Nat→Prop} {w w':World} {v:Value} {cs:List FactB} (h:Came B O w v cs) (hc:Chg (fun _=>False) w w'):Came B O w' v cs:=
 ⟨h.own.keep hc (fun _ _=>id),h.ap⟩
theorem Came.low {B A:Nat} {O:Nat→Prop} {w:World} {v:Value} {cs:List FactB} (h:Came B O w v cs) (hA:A≤B):Came A O w v cs:=⟨h.own.low hA,h.ap⟩
/-- The facts of such a row, to be read; they lie apart from O. -/
theorem Came.facts {B:Nat} {O:Nat→Prop} {w:World} {v:Value} {cs:List FactB} (h:Came B O w v cs):∃ao cap,v = .slice ao cs.length cap∧FactsAt (fun k=>B≤k∧k<w.heap.size∧¬O k) w ao cs∧(ao=none→cap=0):=by
 obtain⟨ao,cap,rfl,hf,h0⟩:=h.own.facts
 refine⟨ao,cap,rfl,fun i hi=>?_,h0⟩
 obtain⟨b,off,e,hb,hf⟩:=hf i hi
 refine⟨b,off,e,⟨hb.1,hb.2,h.ap b ?_⟩,hf⟩
 subst e
 rcases h.own.2 with ⟨hx',h0⟩|⟨g,cap',cur,hx',_⟩
 ·cases hx'
 ·cases hx';rfl
theorem wpList_append_facts {D O:Nat→Prop} {ops:Array Oper} {rest:List Oper} {o:Oper} {a:Act} {w:World} {Q:Exit→Act→World→Prop} (hgd:o.guard=none) (s x:Operand)
  (ho:o.op = .call {callee:=.builtin .append,args:=#[s,x],argTypes:=#[140,140]}) (B:Nat) (v:Value) (zs:List FactB) (hs:a.eval s=v) (hown:Came B O w v zs) (hO:∀i,O i→i<w.heap.size)
  (ao:Option Addr) (cp:Nat) (ls:List FactB) (hx:a.eval x = .slice ao ls.length cp) (hst:FactsAt D w ao ls) (h0:ao=none→cp=0)
  (hlen:zs.length+ls.length≤33554432) (hB:B≤w.heap.size)
  (h:∀v' w',Came B O w' v' (zs++ls)→Chg (fun i=>B≤i∧¬O i) w w'→wpList Tryz.prog ops Q rest (a.put o.dst v') w'):wpList Tryz.prog ops Q (o::rest) a w:=by
 obtain⟨i0,hi,hz0,hz1,hz2⟩:=info_parts Tryz.info144
 cases hao:ao with
 | none=>
  subst hao
  have hl:=factsAt_none hst
  subst hl
  have hcp:=h0 rfl
  subst hcp
  exact wpList_append_own_none hgd s x 140 ho B 144 i0 3 Tryz.underlying140 hi v _ _ hs hown.own hx (h v w (by rw[List.append_nil];exact hown) R0)
 | some ad=>
  subst hao
  refine wpList_append_own_atD w hgd s x 140 ho B 144 i0 (.agg #[.string ⟨#[]⟩,.string ⟨#[]⟩,.string ⟨#[]⟩]) 3 48 Tryz.underlying140 hi hz0 hz1 hz2 rfl (by decide) v _ _ hs hown.own ad ls.length cp (factRow ls) hx (by rw[factRow_len9]) (fun j u hj=>factsAt_row hst j u hj) (fun u hu=>factRow_one9 ls u hu) (by unfold maxLen;omega) (by omega) hB ?_
  ·intro v' w' hown' hgr _ hat
   refine h v' w' ⟨by unfold OwnF;rw[factRow_append9,List.length_append];exact hown',fun k hk=>?_⟩ (R0.grown hgr (fun k hk _=>⟨(hown.own.blt hk).1,hown.ap k hk⟩))
   rcases hat with e|e
   ·exact hown.ap k (e▸hk)
   ·rw[e]at hk
    cases hk
    intro hq
    have:=hO _ hq
    omega
/-- A fact in a block of its own. -/
theorem fact_new (w:World) (q:FactB):FactsAt (fun _=>True) (w.alloc (.cells #[.string ⟨q.1.1.toArray⟩,.string ⟨q.1.2.toArray⟩,.string ⟨q.2.toArray⟩] 144)) (some ⟨w.heap.size,0,none⟩) [q]:=fun i hi=>by
 have:i=0:=by simp at hi;omega
 subst this
 exact⟨w.heap.size,0,rfl,trivial,fact_at_blk (f:=q) (heap_alloc_new w _)⟩
end
section
open Go.RowKit Go.Maps
section
variable {K O:Nat→Prop} {w:World} {g n2 n3:Nat} {F:List FactB} {R2:RoleB→CredB→Prop} {R3:List UInt8→CredB→Prop}
theorem MS.enter_no (h:MS K O w g F n2 R2 n3 R3) (f:FactB) (hs:f.1.1.length≤9223372036854775807∧f.1.2.length≤9223372036854775807∧f.2.length≤9223372036854775807) (hn:F.length<4611686018427387904) (hf:f∈F) :
  ∃m,w.cell? ⟨g,0,none⟩=some (.map (some m))∧∀w',Chg (fun _=>False) w w'→Calls Tryz.prog 121 #[.map (some m),.agg #[.string ⟨f.1.1.toArray⟩,.string ⟨f.1.2.toArray⟩],.string ⟨f.2.toArray⟩] w' fun e w''=>e = .returned (.bool false)∧Chg (fun _=>False) w' w'':=by
 obtain⟨⟨m1,m2,m3,O1,O2,O3,h0,h1,h2,h3,d1,d2,d3⟩,h4,hk,h5⟩:=h
 refine⟨m1,bC h0 0,fun w' hc=>?_⟩
 refine(enter_m m1 F.length _ f.1 f.2 w' (h1.keep hc (fun _ _=>id)) (fun i hi=>Nat.lt_of_lt_of_le (h5 i (d1 i hi).1) hc.size) ⟨hs.1,hs.2.1⟩ hs.2.2 hn).mono ?_
 rintro e w'' (⟨_,h6,h7⟩|⟨h6,_⟩)
 ·exact⟨h6,h7⟩
 ·exact absurd hf h6
/-- What a new fact leaves. -/
def MEntPost (K O:Nat→Prop) (g:Nat) (F:List FactB) (n2:Nat) (R2:RoleB→CredB→Prop) (n3:Nat) (R3:List UInt8→CredB→Prop) (f:FactB) (w w':World):Prop:=
 ∃O',MS K O' w' g (F++[f]) n2 R2 n3 R3∧Grew O O' w∧Chg (fun i=>O i∧¬K i) w w'
theorem MS.enter_yes (h:MS K O w g F n2 R2 n3 R3) (f:FactB) (hs:f.1.1.length≤9223372036854775807∧f.1.2.length≤9223372036854775807∧f.2.length≤9223372036854775807) (hn:F.length<4611686018427387904) (hf:f∉F) :
  ∃m,w.cell? ⟨g,0,none⟩=some (.map (some m))∧∀w',Chg (fun _=>False) w w'→Calls Tryz.prog 121 #[.map (some m),.agg #[.string ⟨f.1.1.toArray⟩,.string ⟨f.1.2.toArray⟩],.string ⟨f.2.toArray⟩] w' fun e w''=>e = .returned (.bool true)∧MEntPost K O g F n2 R2 n3 R3 f w' w''∧Chg (fun i=>O i∧¬K i) w' w'':=by
 obtain⟨⟨m1,m2,m3,O1,O2,O3,h0,h1,h2,h3,d1,d2,d3⟩,h4,hk,h5⟩:=h
 refine⟨m1,bC h0 0,fun w' hc=>?_⟩
 refine(enter_m m1 F.length _ f.1 f.2 w' (h1.keep hc (fun _ _=>id)) (fun i hi=>Nat.lt_of_lt_of_le (h5 i (d1 i hi).1) hc.size) ⟨hs.1,hs.2.1⟩ hs.2.2 hn).mono ?_
 rintro e w'' (⟨h6,_⟩|⟨_,h6,O1',h7,h8,h9,h10⟩)
 ·exact absurd h6 hf
 ·have hrel:=h7.cong (rel':=fun r s=>(r,s)∈F++[f]) (fun a x=>by
   rw[List.mem_append,List.mem_singleton]
   refine or_congr Iff.rfl ⟨fun⟨h1,h2⟩=>by rw[h1,h2],fun e=>by rw[←e];exact⟨rfl,rfl⟩⟩)
  have hl:F.length+1=(F++[f]).length:=by simp
  rw[hl]at hrel
  obtain⟨O',q1,q2,q3⟩:=MS.facts (bE h0 hc id) (h2.keep hc (fun _ _=>id)) (h3.keep hc (fun _ _=>id)) d1 d2 d3 h4 hk (fun i hi=>Nat.lt_of_lt_of_le (h5 i hi) hc.size) hrel h8 h9 h10
  exact⟨h6,⟨O',q1,q2,q3⟩,q3⟩
end
end
end Go.Proofs.YtkfinhpfdcjoeaaGreat
