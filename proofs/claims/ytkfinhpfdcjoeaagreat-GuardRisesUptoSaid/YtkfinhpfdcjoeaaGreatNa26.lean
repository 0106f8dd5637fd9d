/- Texts that the proof leans on, in one: FmOpen, GgOpen, GgAkOwn, FmPtrK, FmRoleApp, GgApp, CredEq. -/
import Derived.Test.YtkfinhpfdcjoeaaGreatNa2
import Derived.Test.YtkfinhpfdcjoeaaGreatNa25
import Derived.Test.YtkfinhpfdcjoeaaGreatNa11
import Derived.Test.YtkfinhpfdcjoeaaGreatNa16
import Derived.Test.YtkfinhpfdcjoeaaGreatNa18
import Derived.Test.YtkfinhpfdcjoeaaGreatNa7
/- A formula that came in, opened to cells, and how much it holds. -/
namespace Go.Proofs.YtkfinhpfdcjoeaaGreat
section
open Go.ChangeShapes Go.WideShapes Go.ChangeAt Go.RowKit Go.Deep
section
variable {H:Type} {enc:TypeId×Value→H} {w:World} {base:Nat} {held:Bool}
theorem bulk_fms (D:Nat→DataW H):∀(l:List FmB),(∀i (h:i<l.length),greatF l[i]≤Rows.uptoBulk (D i))→greatL l≤Rows.uptoBulkAll ((List.range l.length).map D)
 | [],_=>Nat.zero_le _
 | x::l,h=>by
  have ih:=bulk_fms (fun i=>D (i+1)) l (fun i hi=>h (i+1) (by simp only[List.length_cons];omega))
  rw[List.length_cons,List.range_succ_eq_map,List.map_cons,List.map_map]
  simp only[greatL,Rows.uptoBulkAll]
  have h0:=h 0 (by simp)
  simp only[List.getElem_cons_zero]at h0
  have e:(List.range l.length).map (D∘Nat.succ)=(List.range l.length).map (fun i=>D (i+1)):=rfl
  rw[e]
  omega
theorem bulk_one (D:Nat→DataW H):∀(n i:Nat),i<n→Rows.uptoBulk (D i)≤Rows.uptoBulkAll ((List.range n).map D)
 | 0,_,h=>absurd h (Nat.not_lt_zero _)
 | n+1,0,_=>by
  rw[List.range_succ_eq_map,List.map_cons]
  simp only[Rows.uptoBulkAll]
  omega
 | n+1,i+1,h=>by
  have ih:=bulk_one (fun i=>D (i+1)) n i (by omega)
  rw[List.range_succ_eq_map,List.map_cons,List.map_map]
  simp only[Rows.uptoBulkAll]
  have e:(List.range n).map (D∘Nat.succ)=(List.range n).map (fun i=>D (i+1)):=rfl
  rw[e]
  omega
def fmCells (f:FmB) (ao:Option Addr) (cp:Nat):List Value:=[.int .i64 f.op,.int .i64 f.k,.string ⟨f.r.1.toArray⟩,.string ⟨f.r.2.toArray⟩,.slice ao f.kids.length cp]
set_option maxRecDepth 100000 in
/-- Five cells that are read as a formula. -/
theorem open_fm:∀(N:Nat) {fuel:Nat} {cs:List Value} {x:DataW H×List MemPlace},Rows.uptoBulk x.1≤N→DataW.trod enc Tryz.prog w base (fun _=>true) held fuel 46 cs=some x→
  ∃(f:FmB) (ao:Option Addr) (cp:Nat),cs=fmCells f ao cp∧FmsAt (fun k=>k<w.heap.size) w N ao f.kids∧FmOk f∧(ao=none→cp=0)∧greatF f≤Rows.uptoBulk x.1:=by
 intro N
 induction N with
 | zero=>
  intro fuel cs x hb h
  obtain⟨xs,n,_,rfl,_⟩:=DataW.trod_struct Tryz.underlying46 h
  simp only[Rows.uptoBulk]at hb
  omega
 | succ N ih=>
  intro fuel cs x hb h
  obtain⟨xs,n,_,rfl,hl,hlen,hf⟩:=DataW.trod_struct Tryz.underlying46 h
  have hc:Tryz.prog.cellsOf 46=5:=by kernel_rfl
  rw[hc]at hl
  match cs,hl,xs,hlen with
  | [c0,c1,c2,c3,c4],_,[y0,y1,y2,y3],_=>
   have e0:DataW.trod enc Tryz.prog w base (fun _=>true) held n 3 [c0]=some y0:=hf 0 _ rfl
   have e1:DataW.trod enc Tryz.prog w base (fun _=>true) held n 3 [c1]=some y1:=hf 1 _ rfl
   have e2:DataW.trod enc Tryz.prog w base (fun _=>true) held n 32 [c2,c3]=some y2:=hf 2 _ rfl
   have e3:DataW.trod enc Tryz.prog w base (fun _=>true) held n 44 [c4]=some y3:=hf 3 _ rfl
   obtain⟨op,hop,rfl,_⟩:=DataW.trod_int Tryz.underlying3 e0
   obtain⟨k,hk,rfl,_⟩:=DataW.trod_int Tryz.underlying3 e1
   obtain⟨r,h1,a1,a2,a3⟩:=open_role_cells e2
   simp only[roleCells,List.cons.injEq,and_true]at hop hk h1
   obtain⟨h1a,h1b⟩:=h1
   subst hop hk h1a h1b
   simp only[Rows.uptoBulk,Rows.uptoBulkAll,List.map_cons,List.map_nil]at hb ⊢
   rcases open_slice Tryz.underlying44 e3 with ⟨e4,rfl⟩|⟨a,len,cap,m,n2,D,Pl,e4,_,hl,hm,hmm,rfl,hi⟩
   ·simp only[List.cons.injEq,and_true]at e4
    subst e4
    refine⟨.mk op k r [],none,0,rfl,fun i hi=>absurd hi (Nat.not_lt_zero i),⟨a1,a2⟩,fun _=>rfl,?_⟩
    simp only[greatF,greatL,Rows.uptoBulk]
    omega
   ·simp only[List.cons.injEq,and_true]at e4
    subst e4
    simp only[if_true]at hmm
    simp only[Rows.uptoBulk]at hb
    have each:∀i,i<len→∃y:FmB,(∃b off,some a=some ⟨b,off,none⟩∧b<w.heap.size∧FmAt (fun k=>k<w.heap.size) w (N+1) b (off+i*5) y)∧greatF y≤Rows.uptoBulk (D i):=by
     have op:∀i,i<len→∃(y:FmB) (ao:Option Addr) (cp:Nat),w.cells? base (a.add (i*5)) 5=some (fmCells y ao cp)∧FmsAt (fun k=>k<w.heap.size) w N ao y.kids∧FmOk y∧(ao=none→cp=0)∧greatF y≤Rows.uptoBulk (D i):=by
      intro i hil
      obtain⟨cs',hcs,ht⟩:=hi i (by omega)
      rw[hc]at hcs
      have hbi:=bulk_one D len i hil
      obtain⟨y,ao,cp,rfl,q1,q2,q3,q4⟩:=ih (x:=(D i,Pl i)) (by dsimp only;omega) ht
      exact⟨y,ao,cp,hcs,q1,q2,q3,q4⟩
     intro i hil
     obtain⟨y,ao,cp,hcs,q1,q2,q3,q4⟩:=op i hil
     obtain⟨_,_,hat⟩:=World.cells?_some hcs
     have hs:a=⟨a.block,a.off,none⟩:=by
      obtain⟨y2,ao2,cp2,hcs2,_⟩:=op 0 (by omega)
      obtain⟨_,_,hat2⟩:=World.cells?_some hcs2
      have q:=hat2 0 (by simp)
      rw[Nat.zero_mul,add_zero,add_zero]at q
      exact spot_none q
     have hall:∀j,j<5→w.cell? ⟨a.block,a.off+i*5+j,none⟩=(fmCells y ao cp)[j]?:=fun j hj=>by
      have q:=hat j (by simpa [fmCells] using hj)
      rw[hs,add_off,add_off]at q
      exact q
     have h0:=hall 0 (by omega)
     exact⟨y,⟨a.block,a.off,congrArg some hs,World.block_lt_of_cell? w ⟨a.block,a.off+i*5,none⟩ h0,h0,hall 1 (by omega),hall 2 (by omega),hall 3 (by omega),q2,ao,cp,hall 4 (by omega),q3,q1⟩,q4⟩
    obtain⟨xs,hlen,hp⟩:=choose_roles len _ each
    subst hlen
    have hg:=bulk_fms D xs (fun i hi=>(hp i hi).2)
    refine⟨.mk op k r xs,some a,cap,rfl,fun i hi=>(hp i hi).1,⟨a1,a2⟩,fun e=>(by cases e),?_⟩
    simp only[greatF,Rows.uptoBulk]
    omega
end
end
section
open Go.ChangeShapes Go.WideShapes Go.ChangeAt Go.RowKit Go.Deep
section
variable {H:Type} {enc:TypeId×Value→H} {w:World} {base:Nat} {held:Bool} {fuel:Nat}
theorem bulk_any {α:Type} (c:Nat) (f:α→Nat):∀(l:List α) (D:Nat→DataW H),(∀i (h:i<l.length),f l[i]≤c*Rows.uptoBulk (D i))→(l.map f).sum≤c*Rows.uptoBulkAll ((List.range l.length).map D)
 | [],_,_=>Nat.zero_le _
 | x::l,D,h=>by
  have ih:=bulk_any c f l (fun i=>D (i+1)) (fun i hi=>h (i+1) (by simp only[List.length_cons];omega))
  rw[List.length_cons,List.range_succ_eq_map]
  simp only[List.map_cons,List.map_map,List.sum_cons,Rows.uptoBulkAll]
  have h0:=h 0 (by simp)
  simp only[List.getElem_cons_zero]at h0
  have e:(List.range l.length).map (D∘Nat.succ)=(List.range l.length).map (fun i=>D (i+1)):=rfl
  rw[e,Nat.mul_add]
  omega
set_option maxRecDepth 100000 in
theorem gd_kind {v:Value} {cs:List Value} {x:DataW H×List MemPlace} {k:Int} (h:DataW.trod enc Tryz.prog w base (fun _=>true) held fuel 34 (v::cs)=some x) (hv:v = .int .i64 k):(Lit.int .i64 k).wf=true:=by
 obtain⟨xs,n,_,rfl,hl,hlen,hf⟩:=DataW.trod_struct Tryz.underlying34 h
 have hc:Tryz.prog.cellsOf 34=9:=by kernel_rfl
 rw[hc]at hl
 match cs,hl,xs,hlen with
 | [c1,c2,c3,c4,c5,c6,c7,c8],_,[y0,y1,y2,y3,y4,y5],_=>
  have e0:DataW.trod enc Tryz.prog w base (fun _=>true) held n 3 [v]=some y0:=hf 0 _ rfl
  obtain⟨j,hj,rfl,hw⟩:=DataW.trod_int Tryz.underlying3 e0
  simp only[List.cons.injEq,and_true]at hj
  rw[hv]at hj
  cases hj
  exact hw
set_option maxRecDepth 100000 in
theorem gd_kindS {v:Value} {cs:List Value} {x:DataW H×List MemPlace} {k:Int} (h:DataW.trod enc Tryz.prog w base (fun _=>true) held fuel 43 (v::cs)=some x) (hv:v = .int .i64 k):(Lit.int .i64 k).wf=true:=by
 obtain⟨xs,n,_,rfl,hl,hlen,hf⟩:=DataW.trod_struct Tryz.underlying43 h
 have hc:Tryz.prog.cellsOf 43=10:=by kernel_rfl
 have hr:Tryz.prog.cellsOf 34=9:=by kernel_rfl
 rw[hc]at hl
 match cs,hl,xs,hlen with
 | [c1,c2,c3,c4,c5,c6,c7,c8,c9],_,[y0,y1],_=>
  have e0:DataW.trod enc Tryz.prog w base (fun _=>true) held n 34 [v,c1,c2,c3,c4,c5,c6,c7,c8]=some y0:=hf 0 _ rfl
  exact gd_kind e0 hv
def gdCells (x:GdB) (ta:Option Addr) (tc:Nat) (fo:Option Addr) (fc:Nat):List Value:=credCells x.cred ++ .slice ta x.tag.length tc::fmCells x.rel fo fc
set_option maxRecDepth 100000 in
/-- Fifteen cells that are read as a credential that is held. -/
theorem open_gd_cells {N:Nat} {cs:List Value} {x:DataW H×List MemPlace} (hN:Rows.uptoBulk x.1≤N) (h:DataW.trod enc Tryz.prog w base (fun _=>true) held fuel 48 cs=some x) :
  ∃(g:GdB) (ta:Option Addr) (tc:Nat) (fo:Option Addr) (fc:Nat),cs=gdCells g ta tc fo fc∧BytesAt (fun i=>i<w.heap.size) w (.slice ta g.tag.length tc) g.tag∧credShort g.cred 9223372036854775807∧g.tag.length≤9223372036854775807∧
   FmsAt (fun k=>k<w.heap.size) w N fo g.rel.kids∧FmOk g.rel∧(fo=none→fc=0)∧sizeS g.sign+20*greatF g.rel≤20*Rows.uptoBulk x.1∧(Lit.int .i64 g.cred.kind).wf=true:=by
 obtain⟨xs,n,_,rfl,hl,hlen,hf⟩:=DataW.trod_struct Tryz.underlying48 h
 have hc:Tryz.prog.cellsOf 48=15:=by kernel_rfl
 rw[hc]at hl
 match cs,hl,xs,hlen with
 | [c0,c1,c2,c3,c4,c5,c6,c7,c8,c9,d0,d1,d2,d3,d4],_,[y0,y1],_=>
  have e0:DataW.trod enc Tryz.prog w base (fun _=>true) held n 43 [c0,c1,c2,c3,c4,c5,c6,c7,c8,c9]=some y0:=hf 0 _ rfl
  have e1:DataW.trod enc Tryz.prog w base (fun _=>true) held n 46 [d0,d1,d2,d3,d4]=some y1:=hf 1 _ rfl
  simp only[Rows.uptoBulk,Rows.uptoBulkAll,List.map_cons,List.map_nil]at hN ⊢
  obtain⟨s,ta,tc,hs,hby,hsh,hln,hsz⟩:=open_sign_cells e0
  obtain⟨f,fo,fc,hfc,hfm,hok,hz,hg⟩:=open_fm N (by omega) e1
  refine⟨⟨s.c,s.tag,f⟩,ta,tc,fo,fc,?_,hby,hsh,hln,hfm,hok,hz,?_,gd_kindS e0 (List.cons.inj hs).1⟩
  ·unfold gdCells
   have:[c0,c1,c2,c3,c4,c5,c6,c7,c8,c9,d0,d1,d2,d3,d4]=[c0,c1,c2,c3,c4,c5,c6,c7,c8,c9]++[d0,d1,d2,d3,d4]:=rfl
   rw[this,hs,hfc,List.append_assoc]
   rfl
  ·show sizeS s+20*greatF f≤_
   omega
def akCells (a:AkB) (fo:Option Addr) (fc:Nat) (co:Option Addr) (cc:Nat):List Value:=.string ⟨a.role.1.toArray⟩ :: .string ⟨a.role.2.toArray⟩::(fmCells a.rel fo fc++[.slice co a.clo.length cc])
set_option maxRecDepth 100000 in
/-- Eight cells that are read as an Ack. -/
theorem open_ak_cells {N:Nat} {cs:List Value} {x:DataW H×List MemPlace} (hN:Rows.uptoBulk x.1≤N) (h:DataW.trod enc Tryz.prog w base (fun _=>true) held fuel 54 cs=some x) :
  ∃(a:AkB) (fo:Option Addr) (fc:Nat) (co:Option Addr) (cc:Nat),cs=akCells a fo fc co cc∧(a.role.1.length≤9223372036854775807∧a.role.2.length≤9223372036854775807)∧
   FmsAt (fun k=>k<w.heap.size) w N fo a.rel.kids∧FmOk a.rel∧(fo=none→fc=0)∧CredsAt (fun k=>k<w.heap.size) w co a.clo∧(co=none→cc=0)∧a.role.1.length+a.role.2.length+20*greatF a.rel+totalC a.clo≤20*Rows.uptoBulk x.1:=by
 obtain⟨xs,n,_,rfl,hl,hlen,hf⟩:=DataW.trod_struct Tryz.underlying54 h
 have hc:Tryz.prog.cellsOf 54=8:=by kernel_rfl
 rw[hc]at hl
 match cs,hl,xs,hlen with
 | [c0,c1,d0,d1,d2,d3,d4,c2],_,[y0,y1,y2],_=>
  have e0:DataW.trod enc Tryz.prog w base (fun _=>true) held n 32 [c0,c1]=some y0:=hf 0 _ rfl
  have e1:DataW.trod enc Tryz.prog w base (fun _=>true) held n 46 [d0,d1,d2,d3,d4]=some y1:=hf 1 _ rfl
  have e2:DataW.trod enc Tryz.prog w base (fun _=>true) held n 26 [c2]=some y2:=hf 2 _ rfl
  simp only[Rows.uptoBulk,Rows.uptoBulkAll,List.map_cons,List.map_nil]at hN ⊢
  obtain⟨r,hr,hr1,hr2,hrs⟩:=open_role_cells e0
  obtain⟨f,fo,fc,hfc,hfm,hok,hz,hg⟩:=open_fm N (by omega) e1
  obtain⟨co,cc,ls,hcs,hcr,hct,hcz⟩:=open_creds e2
  refine⟨⟨r,f,ls⟩,fo,fc,co,cc,?_,⟨hr1,hr2⟩,hfm,hok,hz,hcr,hcz,?_⟩
  ·unfold akCells
   have:[c0,c1,d0,d1,d2,d3,d4,c2]=[c0,c1]++([d0,d1,d2,d3,d4]++[c2]):=rfl
   rw[this,hr,hfc,hcs]
   rfl
  ·show r.1.length+r.2.length+20*greatF f+totalC ls≤_
   omega
theorem fm_at_cellsG {D:Nat→Prop} {N b o:Nat} {f:FmB} {fo:Option Addr} {fc:Nat} (h:∀j,j<5→w.cell? ⟨b,o+j,none⟩=(fmCells f fo fc)[j]?) (hk:FmsAt D w N fo f.kids) (hok:FmOk f) (hz:fo=none→fc=0):FmAt D w (N+1) b o f:=
 ⟨h 0 (by omega),h 1 (by omega),h 2 (by omega),h 3 (by omega),hok,fo,fc,h 4 (by omega),hz,hk⟩
set_option maxRecDepth 100000 in
/-- A list of credentials that are held. -/
theorem open_gds {N:Nat} {cs:List Value} {x:DataW H×List MemPlace} (hN:Rows.uptoBulk x.1≤N) (h:DataW.trod enc Tryz.prog w base (fun _=>true) held fuel 22 cs=some x) :
  ∃(ao:Option Addr) (cap:Nat) (ls:List GdB),cs=[.slice ao ls.length cap]∧GdsAt (fun k=>k<w.heap.size) w (N+1) ao ls∧(ao=none→cap=0)∧(ls.map fun x=>sizeS x.sign+20*greatF x.rel).sum≤20*Rows.uptoBulk x.1∧∀x∈ls,(Lit.int .i64 x.cred.kind).wf=true:=by
 rcases open_slice Tryz.underlying22 h with ⟨rfl,rfl⟩|⟨a,len,cap,m,n,D,Pl,rfl,_,hl,hm,hmm,rfl,hi⟩
 ·exact⟨none,0,[],rfl,fun i hi=>by simp at hi,fun _=>rfl,Nat.zero_le _,fun _ h=>(by cases h)⟩
 ·simp only[if_true]at hmm
  have hc15:Tryz.prog.cellsOf 48=15:=by kernel_rfl
  simp only[Rows.uptoBulk]at hN
  have hb:∀i,i<len→Rows.uptoBulk (D i)≤N:=fun i hil=>by have:=bulk_one D len i hil;omega
  have each:∀i,i<len→∃y:GdB,(∃b off,some a=some ⟨b,off,none⟩∧b<w.heap.size∧GdAt (fun k=>k<w.heap.size) w (N+1) b (off+i*15) y)∧sizeS y.sign+20*greatF y.rel≤20*Rows.uptoBulk (D i)∧(Lit.int .i64 y.cred.kind).wf=true:=by
   intro i hil
   obtain⟨cs',hcs,ht⟩:=hi i (by omega)
   rw[hc15]at hcs
   obtain⟨g,ta,tc,fo,fc,hr,h1,h2,h3,h4,h5,h6,h7,h8⟩:=open_gd_cells (hb i hil) ht
   subst hr
   obtain⟨_,_,hat⟩:=World.cells?_some hcs
   have hs:a=⟨a.block,a.off,none⟩:=by
    obtain⟨cs'',hcs'',ht''⟩:=hi 0 (by omega)
    rw[hc15]at hcs''
    obtain⟨g'',ta'',tc'',fo'',fc'',hr'',_⟩:=open_gd_cells (hb 0 (by omega)) ht''
    subst hr''
    obtain⟨_,_,hat''⟩:=World.cells?_some hcs''
    have q:=hat'' 0 (by simp)
    rw[Nat.zero_mul,add_zero,add_zero]at q
    exact spot_none q
   have hall:∀j,j<15→w.cell? ⟨a.block,a.off+i*15+j,none⟩=(gdCells g ta tc fo fc)[j]?:=fun j hj=>by
    have q:=hat j (by simpa [gdCells,credCells,fmCells] using hj)
    rw[hs,add_off,add_off]at q
    exact q
   have hcr:CredAt w a.block (a.off+i*15) g.cred:=cred_at_cells' fun j hj=>by
    rw[hall j (by omega),gdCells,List.getElem?_append_left (by simpa [credCells] using hj)]
   have k9:=hall 9 (by decide)
   have hfm:FmAt (fun k=>k<w.heap.size) w (N+1) a.block (a.off+i*15+10) g.rel:=fm_at_cellsG (fun j hj=>by
    rw[Nat.add_assoc (a.off+i*15) 10 j,hall (10+j) (by omega),gdCells,List.getElem?_append_right (by simp [credCells];omega)]
    have:10+j-(credCells g.cred).length=j+1:=by simp [credCells];omega
    rw[this,lS]) h4 h5 h6
   exact⟨g,⟨a.block,a.off,congrArg some hs,World.block_lt_of_cell? w ⟨a.block,a.off+i*15,none⟩ hcr.k0,⟨⟨hcr,⟨ta,tc,k9,h1⟩,h2,h3⟩,hfm⟩⟩,h7,h8⟩
  obtain⟨xs,hlen,hp⟩:=choose_roles len _ each
  subst hlen
  refine⟨some a,cap,xs,rfl,fun i hi=>(hp i hi).1,fun h=>by(cases h),?_,fun x hx=>?_⟩
  rotate_left
  ·obtain⟨i,hi,rfl⟩:=List.getElem_of_mem hx
   exact(hp i hi).2.2
  have:=bulk_any 20 (fun x:GdB=>sizeS x.sign+20*greatF x.rel) xs D (fun i hi=>(hp i hi).2.1)
  simp only[Rows.uptoBulk,Nat.mul_add]
  omega
set_option maxRecDepth 100000 in
/-- A list of Acks. -/
theorem open_aks {N:Nat} {cs:List Value} {x:DataW H×List MemPlace} (hN:Rows.uptoBulk x.1≤N) (h:DataW.trod enc Tryz.prog w base (fun _=>true) held fuel 23 cs=some x) :
  ∃(ao:Option Addr) (cap:Nat) (ls:List AkB),cs=[.slice ao ls.length cap]∧AksAt (fun k=>k<w.heap.size) w (N+1) ao ls∧(ao=none→cap=0)∧(ls.map fun a=>a.role.1.length+a.role.2.length+20*greatF a.rel+totalC a.clo).sum≤20*Rows.uptoBulk x.1:=by
 rcases open_slice Tryz.underlying23 h with ⟨rfl,rfl⟩|⟨a,len,cap,m,n,D,Pl,rfl,_,hl,hm,hmm,rfl,hi⟩
 ·exact⟨none,0,[],rfl,fun i hi=>by simp at hi,fun _=>rfl,Nat.zero_le _⟩
 ·simp only[if_true]at hmm
  have hc8:Tryz.prog.cellsOf 54=8:=by kernel_rfl
  simp only[Rows.uptoBulk]at hN
  have hb:∀i,i<len→Rows.uptoBulk (D i)≤N:=fun i hil=>by have:=bulk_one D len i hil;omega
  have each:∀i,i<len→∃y:AkB,(∃b off,some a=some ⟨b,off,none⟩∧b<w.heap.size∧AkAt (fun k=>k<w.heap.size) w (N+1) b (off+i*8) y)∧y.role.1.length+y.role.2.length+20*greatF y.rel+totalC y.clo≤20*Rows.uptoBulk (D i):=by
   intro i hil
   obtain⟨cs',hcs,ht⟩:=hi i (by omega)
   rw[hc8]at hcs
   obtain⟨g,fo,fc,co,cc,hr,h1,h2,h3,h4,h5,h6,h7⟩:=open_ak_cells (hb i hil) ht
   subst hr
   obtain⟨_,_,hat⟩:=World.cells?_some hcs
   have hs:a=⟨a.block,a.off,none⟩:=by
    obtain⟨cs'',hcs'',ht''⟩:=hi 0 (by omega)
    rw[hc8]at hcs''
    obtain⟨g'',fo'',fc'',co'',cc'',hr'',_⟩:=open_ak_cells (hb 0 (by omega)) ht''
    subst hr''
    obtain⟨_,_,hat''⟩:=World.cells?_some hcs''
    have q:=hat'' 0 (by simp)
    rw[Nat.zero_mul,add_zero,add_zero]at q
    exact spot_none q
   have hall:∀j,j<8→w.cell? ⟨a.block,a.off+i*8+j,none⟩=(akCells g fo fc co cc)[j]?:=fun j hj=>by
    have q:=hat j (by simpa [akCells,fmCells] using hj)
    rw[hs,add_off,add_off]at q
    exact q
   have k0:=hall 0 (by decide)
   have k1:=hall 1 (by decide)
   have k7:=hall 7 (by decide)
   have hfm:FmAt (fun k=>k<w.heap.size) w (N+1) a.block (a.off+i*8+2) g.rel:=fm_at_cellsG (fun j hj=>by
    rw[Nat.add_assoc (a.off+i*8) 2 j,hall (2+j) (by omega),akCells]
    have:2+j=j+1+1:=by omega
    rw[this,lS,lS,List.getElem?_append_left (by simpa [fmCells] using hj)]) h2 h3 h4
   exact⟨g,⟨a.block,a.off,congrArg some hs,World.block_lt_of_cell? w ⟨a.block,a.off+i*8,none⟩ k0,⟨⟨k0,k1,h1.1,h1.2⟩,hfm,⟨co,cc,k7,h6,h5⟩⟩⟩,h7⟩
  obtain⟨xs,hlen,hp⟩:=choose_roles len _ each
  subst hlen
  refine⟨some a,cap,xs,rfl,fun i hi=>(hp i hi).1,fun h=>by(cases h),?_⟩
  have:=bulk_any 20 (fun a:AkB=>a.role.1.length+a.role.2.length+20*greatF a.rel+totalC a.clo) xs D (fun i hi=>(hp i hi).2)
  simp only[Rows.uptoBulk,Nat.mul_add]
  omega
set_option maxRecDepth 100000 in
/-- A party that came in. -/
theorem open_party {N base0:Nat} {r:Reach} {v:Value} {d:DataW H} {ps:List MemPlace} (hN:Rows.uptoBulk d≤N) (hval:Value.okWide Tryz.prog w r base0 25 v) (hd:DataW.Trod enc Tryz.prog w base (fun _=>true) held 25 v d ps) :
  ∃(p:PartyB) (co:Option Addr) (cc:Nat) (ao:Option Addr) (ac:Nat),v=partyV p co cc ao ac∧PartyAt (fun k=>k<w.heap.size) w (N+1) p co cc ao ac∧greatP p≤20*Rows.uptoBulk d:=by
 obtain⟨cs,rfl,_⟩:=okWide_struct Tryz.underlying25 hval
 obtain⟨fuel,h⟩:=hd
 obtain⟨xs,n,_,e,hl,hlen,hf⟩:=DataW.trod_struct Tryz.underlying25 h
 have hc:Tryz.prog.cellsOf 25=3:=by kernel_rfl
 rw[hc]at hl
 obtain⟨ts,hts⟩:∃ts,ts=(Value.agg cs).cells.toList:=⟨_,rfl⟩
 have hcs:cs=ts.toArray:=by rw[hts];rfl
 rw[←hts]at hl hf
 match ts,hl,xs,hlen with
 | [c0,c1,c2],_,[y0,y1,y2],_=>
  have e0:DataW.trod enc Tryz.prog w base (fun _=>true) held n 9 [c0]=some y0:=hf 0 _ rfl
  have e1:DataW.trod enc Tryz.prog w base (fun _=>true) held n 22 [c1]=some y1:=hf 1 _ rfl
  have e2:DataW.trod enc Tryz.prog w base (fun _=>true) held n 23 [c2]=some y2:=hf 2 _ rfl
  injection e with e e'
  subst e
  simp only[Rows.uptoBulk,Rows.uptoBulkAll,List.map_cons,List.map_nil]at hN ⊢
  obtain⟨s0,hs0,hd0,hm0⟩:=DataW.trod_string Tryz.underlying9 e0
  obtain⟨co,cc,gs,hcs1,hgs,hz1,hg1,hkd⟩:=open_gds (N:=N) (by omega) e1
  obtain⟨ao,ac,aks,hcs2,has,hz2,hg2⟩:=open_aks (N:=N) (by omega) e2
  simp only[List.cons.injEq,and_true]at hs0 hcs1 hcs2
  subst hs0 hcs1 hcs2
  unfold maxLen at hm0
  refine⟨⟨s0.data.toList,gs,aks⟩,co,cc,ao,ac,?_,⟨hm0,hgs,has,hz1,hz2,fun _ h=>h,hkd⟩,?_⟩
  ·rw[hcs];rfl
  ·unfold greatP
   have hb0:s0.data.toList.length≤Rows.uptoBulk y0.1:=by
    rw[hd0]
    simp only[Rows.uptoBulk]
    omega
   simp only[]at hg1 hg2 ⊢
   omega
end
end
section
open Go.RowKit
theorem Tryz.info54:(Tryz.prog.info? 54).map (fun i=>(i.zero,i.size,i.bytes))=some (some (.agg #[.string ⟨#[]⟩,.string ⟨#[]⟩,.int .i64 0,.int .i64 0,.string ⟨#[]⟩,.string ⟨#[]⟩,.slice none 0 0,.slice none 0 0]),8,128):=by kernel_rfl
/-- An Ack with where its slices lie. -/
structure AkW where
 a:AkB
 fo:Option Addr
 fc:Nat
 co:Option Addr
 cc:Nat
def AkW.box (x:AkW):Array Value:=#[.string ⟨x.a.role.1.toArray⟩,.string ⟨x.a.role.2.toArray⟩,.int .i64 x.a.rel.op,.int .i64 x.a.rel.k,.string ⟨x.a.rel.r.1.toArray⟩,.string ⟨x.a.rel.r.2.toArray⟩,.slice x.fo x.a.rel.kids.length x.fc,.slice x.co x.a.clo.length x.cc]
structure AkW.Ok (D:Nat→Prop) (w:World) (n:Nat) (x:AkW):Prop where
 r1:x.a.role.1.length≤9223372036854775807
 r2:x.a.role.2.length≤9223372036854775807
 fm:∃m,m<n∧FmsAt D w m x.fo x.a.rel.kids
 ok:FmOk x.a.rel
 fz:x.fo=none→x.fc=0
 cl:CredsAt D w x.co x.a.clo
 cz:x.co=none→x.cc=0
theorem AkW.Ok.keep {S D:Nat→Prop} {w w':World} {n:Nat} {x:AkW} (h:x.Ok D w n) (hc:Chg S w w') (hD:∀i,D i→¬S i):x.Ok D w' n:=by
 obtain⟨m,hm,h1⟩:=h.fm
 exact⟨h.r1,h.r2,⟨m,hm,h1.keep hc hD⟩,h.ok,h.fz,h.cl.keep hc hD,h.cz⟩
def akRow (xs:List AkW):List Value:=xs.flatMap fun x=>x.box.toList
theorem akRow_get (xs:List AkW) (i j:Nat) (h:i<xs.length) (hj:j<8):(akRow xs)[i*8+j]? = (xs[i]).box.toList[j]?:=flatN_get _ 8 (fun _=>rfl) xs i j h hj
/-- A row of Acks of the call's own. -/
def OwnAk (B:Nat) (w:World) (v:Value) (xs:List AkW):Prop:=w.ownsRow B 54 8 v xs.length (akRow xs)
theorem OwnAk.nil (B:Nat) (w:World):OwnAk B w (.slice none 0 0) []:=World.ownsRow_nil _ _ _ _
theorem OwnAk.keep {S:Nat→Prop} {B:Nat} {w w':World} {v:Value} {xs:List AkW} (h:OwnAk B w v xs) (hc:Chg S w w') (hS:∀k,B≤k→k<w.heap.size→¬S k):OwnAk B w' v xs:=
 ownsRow_keep h hc (fun k hk=>hS k (h.lt k hk).1 (h.lt k hk).2)
/-- The Acks, told. -/
theorem OwnAk.acks {B n:Nat} {D:Nat→Prop} {w:World} {v:Value} {xs:List AkW} (h:OwnAk B w v xs) (hx:∀x∈xs,x.Ok D w n) :
  ∃ao cp,v = .slice ao xs.length cp∧AksAt (fun k=>D k∨(B≤k∧k<w.heap.size)) w n ao (xs.map (·.a))∧(ao=none→cp=0):=by
 rcases h.2 with ⟨rfl,h0⟩|⟨g,cap,cur,rfl,hg,hh,h1,h2,h3,h4⟩
 ·have:xs=[]:=List.eq_nil_of_length_eq_zero h0
  subst this
  exact⟨none,0,rfl,fun i hi=>absurd hi (Nat.not_lt_zero i),fun _=>rfl⟩
 ·refine⟨_,_,rfl,fun i hi=>?_,fun e=>by cases e⟩
  have hi2:i<xs.length:=by simpa using hi
  have hok:=hx _ (List.getElem_mem hi2)
  have hall:∀j,j<8→w.cell? ⟨g,i*8+j,none⟩=(xs[i]).box.toList[j]?:=fun j hj=>by
   have hg:=akRow_get xs i j hi2 hj
   have hlt:j<(xs[i]).box.toList.length:=hj
   rw[List.getElem?_eq_getElem hlt]at hg ⊢
   have:=h.cells (g:=g) rfl (i*8+j) _ hg
   rw[add_off,Nat.zero_add]at this
   exact this
  have e:(xs.map (·.a))[i]=(xs[i]).a:=by simp
  rw[e]
  obtain⟨m,hm,hf⟩:=hok.fm
  generalize xs[i]=x at *
  refine⟨g,0,rfl,.inr ⟨hg,lt_blk hh⟩,?_⟩
  rw[Nat.zero_add]
  refine⟨⟨hall 0 (by decide),hall 1 (by decide),hok.r1,hok.r2⟩,?_,x.co,x.cc,hall 7 (by decide),hok.cz,hok.cl.mono (fun _=>.inl)⟩
  have hfm:FmAt (fun k=>D k∨(B≤k∧k<w.heap.size)) w (m+1) g (i*8+2) x.a.rel:=fm_at_cellsG (fo:=x.fo) (fc:=x.fc) (fun j hj=>by
   rw[Nat.add_assoc,hall (2+j) (by omega)]
   rcases (show j=0∨j=1∨j=2∨j=3∨j=4 by omega) with rfl|rfl|rfl|rfl|rfl <;> rfl) (hf.mono (fun _=>.inl)) hok.ok hok.fz
  have:=FmAt.more (n-(m+1)) (m+1) hfm
  rwa [show m+1+(n-(m+1))=n by omega]at this
theorem wpList_append_ak {ops:Array Oper} {rest:List Oper} {o:Oper} {a:Act} {w:World} {Q:Exit→Act→World→Prop} (hgd:o.guard=none) (s x:Operand)
  (ho:o.op = .call {callee:=.builtin .append,args:=#[s,x],argTypes:=#[23,23]}) (B:Nat) (v:Value) (zs:List AkW) (hs:a.eval s=v) (hown:OwnAk B w v zs)
  (b:Nat) (y:AkW) (hx:a.eval x = .slice (some ⟨b,0,none⟩) 1 1) (hb:w.heap[b]? = some (.cells y.box 54 (0,0)))
  (hlen:zs.length≤1048576) (hB:B≤w.heap.size)
  (h:∀v' w',OwnAk B w' v' (zs++[y])→Chg (fun i=>B≤i) w w'→wpList Tryz.prog ops Q rest (a.put o.dst v') w'):wpList Tryz.prog ops Q (o::rest) a w:=by
 obtain⟨i0,hi,hz0,hz1,hz2⟩:=info_parts Tryz.info54
 refine wpList_append_own_atD w hgd s x 23 ho B 54 i0 _ 8 128 Tryz.underlying23 hi hz0 hz1 hz2 rfl (by decide) v _ _ hs hown ⟨b,0,none⟩ 1 1 y.box.toList hx rfl (fun j u hj=>?_) (fun u hu=>?_) (by unfold maxLen;omega) (by omega) hB ?_
 ·have h:=bC hb j
  rw[add_off,Nat.zero_add,h]
  rw[←hj]
  exact(Array.getElem?_toList).symm
 ·unfold AkW.box at hu
  simp only[List.mem_cons,List.not_mem_nil,or_false]at hu
  rcases hu with rfl|rfl|rfl|rfl|rfl|rfl|rfl|rfl <;> rfl
 ·intro v' w' hown' hgr _ _
  refine h v' w' ?_ ((Chg.refl _ w).grown hgr fun k e _=>(hown.lt k e).1)
  unfold OwnAk
  rw[List.length_append]
  have e:akRow (zs++[y])=akRow zs++y.box.toList:=by simp [akRow]
  rw[e]
  exact hown'
end
section
open Go.RowKit
theorem Tryz.info32':(Tryz.prog.info? 32).map (fun i=>(i.zero,i.size,i.bytes))=some (some (.agg #[.string ⟨#[]⟩,.string ⟨#[]⟩]),2,32):=by kernel_rfl
end
section
open Go.RowKit
theorem roleRow_one8 (ls:List RoleB):∀u∈roleRow ls,u.oneCell'=true:=by
 intro u hu
 unfold roleRow at hu
 rw[List.mem_flatMap]at hu
 obtain⟨x,_,hx⟩:=hu
 simp only[roleCells,List.mem_cons,List.not_mem_nil,or_false]at hx
 rcases hx with rfl|rfl <;> rfl
theorem roleRow_append8 (a b:List RoleB):roleRow (a++b)=roleRow a++roleRow b:=by simp [roleRow]
theorem roleRow_get8:∀(ls:List RoleB) (i j:Nat) (h:i<ls.length) (_:j<2),(roleRow ls)[i*2+j]? = (roleCells ls[i])[j]?
 | x::l,0,j,_,hj=>by
  rw[Nat.zero_mul,Nat.zero_add,roleRow,List.flatMap_cons,List.getElem?_append_left (by simpa [roleCells] using hj)]
  rfl
 | x::l,i+1,j,h,hj=>by
  have hl:(roleCells x).length=2:=rfl
  have:=roleRow_get8 l i j (by simpa using h) hj
  rw[roleRow,List.flatMap_cons,List.getElem?_append_right (by rw[hl,Nat.add_mul];omega),hl]
  rw[show (i+1)*2+j-2=i*2+j by rw[Nat.add_mul];omega]
  exact this
theorem rolesAt_row {D:Nat→Prop} {w:World} {ad:Addr} {ls:List RoleB} (hst:RolesAt D w (some ad) ls) (j:Nat) (u:Value) (hj:(roleRow ls)[j]? = some u):w.cell? (ad.add j)=some u:=by
 have hjl:j<(roleRow ls).length:=(List.getElem?_eq_some_iff.1 hj).1
 rw[roleRow_length]at hjl
 have hq:j / 2<ls.length:=by omega
 obtain⟨b,off,e,_,h3,h3',_⟩:=hst (j / 2) hq
 cases e
 have h5:=roleRow_get8 ls (j / 2) (j % 2) hq (by omega)
 have h6:j / 2*2+j % 2=j:=by omega
 rw[h6]at h5
 rw[add_off]
 rcases (show j % 2=0∨j % 2=1 by omega) with hm|hm
 ·rw[hm]at h5 h6
  rw[show off+j=off+j / 2*2 by omega,h3,←hj,h5]
  rfl
 ·rw[hm]at h5 h6
  rw[show off+j=off+j / 2*2+1 by omega,h3',←hj,h5]
  rfl
theorem rolesAt_none {D:Nat→Prop} {w:World} {ls:List RoleB} (hst:RolesAt D w none ls):ls=[]:=by
 cases ls with
 | nil=>rfl
 | cons y l=>obtain⟨_,_,e,_⟩:=hst 0 (by simp);cases e
theorem ownR_chg8 {B:Nat} {w wm w':World} {v:Value} {n:Nat} {row:List Value} (hown:wm.ownsRow B 32 2 v n row) (hgr:GrownD w w' v.ownBlock) (S:Nat→Prop) (hS:∀k,B≤k→S k):Chg S w w':=by
 refine(Chg.refl S w).grown hgr fun k e _=>?_
 rcases hown.2 with ⟨hx',_⟩|⟨g,cap',cur,hx',hg,_⟩
 ·rw[hx']at e;cases e
 ·rw[hx']at e;cases e;exact hS _ hg
end
section
open Go.RowKit
theorem wpList_append_roles {D:Nat→Prop} {ops:Array Oper} {rest:List Oper} {o:Oper} {a:Act} {w:World} {Q:Exit→Act→World→Prop} (hgd:o.guard=none) (s x:Operand)
  (ho:o.op = .call {callee:=.builtin .append,args:=#[s,x],argTypes:=#[38,38]}) (B:Nat) (v:Value) (zs:List RoleB) (hs:a.eval s=v) (hown:OwnR B w v zs)
  (ao:Option Addr) (cp:Nat) (ls:List RoleB) (hx:a.eval x = .slice ao ls.length cp) (hst:RolesAt D w ao ls) (h0:ao=none→cp=0)
  (hlen:zs.length+ls.length≤33554432) (hB:B≤w.heap.size)
  (h:∀v' w',OwnR B w' v' (zs++ls)→Chg (fun i=>B≤i) w w'→wpList Tryz.prog ops Q rest (a.put o.dst v') w'):wpList Tryz.prog ops Q (o::rest) a w:=by
 obtain⟨i0,hi,hz0,hz1,hz2⟩:=info_parts Tryz.info32'
 cases hao:ao with
 | none=>
  subst hao
  have hl:=rolesAt_none hst
  subst hl
  have hcp:=h0 rfl
  subst hcp
  exact wpList_append_own_none hgd s x 38 ho B 32 i0 2 Tryz.underlying38 hi v _ _ hs hown hx (h v w (by rw[List.append_nil];exact hown) (Chg.refl _ w))
 | some ad=>
  subst hao
  refine wpList_append_own_atD w hgd s x 38 ho B 32 i0 (.agg #[.string ⟨#[]⟩,.string ⟨#[]⟩]) 2 32 Tryz.underlying38 hi hz0 hz1 hz2 rfl (by decide) v _ _ hs hown ad ls.length cp (roleRow ls) hx (by rw[roleRow_length]) (fun j u hj=>rolesAt_row hst j u hj) (fun u hu=>roleRow_one8 ls u hu) (by unfold maxLen;omega) (by omega) hB ?_
  ·intro v' w' hown' hgr _ _
   exact h v' w' (by unfold OwnR;rw[roleRow_append8,List.length_append];exact hown') (ownR_chg8 hown hgr _ (fun _ h=>h))
theorem roles_one {w:World} {g:Nat} {r:RoleB} {ty:TypeId} {z:Nat×Nat} (h:w.heap[g]? = some (.cells #[.string ⟨r.1.toArray⟩,.string ⟨r.2.toArray⟩] ty z)) (h1:r.1.length≤9223372036854775807) (h2:r.2.length≤9223372036854775807):RolesAt (fun _=>True) w (some ⟨g,0,none⟩) [r]:=fun i hi=>by
 have:i=0:=by simp at hi;omega
 subst this
 exact⟨g,0,rfl,trivial,bC h 0,bC h 1,h1,h2⟩
theorem OwnR.told {B:Nat} {w:World} {v:Value} {ls:List RoleB} (h:OwnR B w v ls) (hs:∀r∈ls,r.1.length≤9223372036854775807∧r.2.length≤9223372036854775807):∃ao cp,v = .slice ao ls.length cp∧RolesAt (fun k=>k<w.heap.size) w ao ls:=by
 obtain⟨ao,cp,e,h1⟩:=OwnR.roles h hs
 exact⟨ao,cp,e,h1.1.mono (fun i hi=>hi.2)⟩
end
section
open Go.RowKit
theorem eqC_iff (a b:CredB):eqC a b=decide (a.kind=b.kind∧a.head.1=b.head.1∧a.head.2=b.head.2∧a.who=b.who∧a.b.1=b.b.1∧a.b.2=b.b.2∧a.c.1=b.c.1∧a.c.2=b.c.2∧a.w2=b.w2):=by
 obtain⟨k,⟨h1,h2⟩,who,⟨b1,b2⟩,⟨c1,c2⟩,w2⟩:=a
 obtain⟨k',⟨h1',h2'⟩,who',⟨b1',b2'⟩,⟨c1',c2'⟩,w2'⟩:=b
 rw[Bool.eq_iff_iff]
 simp [eqC,and_assoc]
theorem eqC_true {a b:CredB}:eqC a b=true↔a=b:=by simp [eqC]
theorem run_eqgC (x y:Operand) (a b:CredB) (w:World):Sem.run Tryz.prog (eqGuard BinOp.eql 34 x y (credV a) (credV b)) w = .ok () w:=by
 unfold credV credBox
 go_simp
theorem run_eqlC (a b:CredB) (w:World):Sem.run Tryz.prog (binOp BinOp.eql 34 (credV a) (credV b)) w = .ok (.bool (eqC a b)) w:=by
 rw[eqC_iff]
 unfold credV credBox
 go_simp
 repeat' split
 all_goals simp_all
theorem run_neqgC (x y:Operand) (a b:CredB) (w:World):Sem.run Tryz.prog (eqGuard BinOp.neq 34 x y (credV a) (credV b)) w = .ok () w:=by
 unfold credV credBox
 go_simp
theorem run_neqC (a b:CredB) (w:World):Sem.run Tryz.prog (binOp BinOp.neq 34 (credV a) (credV b)) w = .ok (.bool (!eqC a b)) w:=by
 rw[eqC_iff]
 unfold credV credBox
 go_simp
 repeat' split
 all_goals simp_all
end
end Go.Proofs.YtkfinhpfdcjoeaaGreat
