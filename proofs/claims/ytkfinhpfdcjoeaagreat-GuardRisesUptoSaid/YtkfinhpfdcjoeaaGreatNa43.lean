/- Texts that the proof leans on, in one: PmGrow, PmIn, PmStep, NmIsSet. -/
import Derived.Test.YtkfinhpfdcjoeaaGreatNa41
import Derived.Test.YtkfinhpfdcjoeaaGreatNa42
import Derived.Test.YtkfinhpfdcjoeaaGreatNa35
import Derived.Test.YtkfinhpfdcjoeaaGreatNa4
import Derived.Test.YtkfinhpfdcjoeaaGreatNa5
import Derived.Test.YtkfinhpfdcjoeaaGreatNa1
/- How what came grows, amid take and follow; enter at what leans and is linked, as the model has it. -/
namespace Go.Proofs.YtkfinhpfdcjoeaaGreat
section
open Go.RowKit Go.Maps
/-- Since the world w, cs came; v tells them. -/
structure GrowI (ls:List CredB) (K O:Nat→Prop) (g:Nat) (F:List FactB) (n2:Nat) (R2:RoleB→CredB→Prop) (n3:Nat) (R3:List UInt8→CredB→Prop) (w w':World) (v:Value) (cs:List FactB) (O':Nat→Prop):Prop where
 came:Came w.heap.size O' w' v cs
 ms:MS K O' w' g (F++cs) n2 R2 n3 R3
 grew:Grew O O' w
 chg:Chg (fun i=>O i∧¬K i) w w'
 nd:(F++cs).Nodup
 der:∀f∈F++cs,Der ls f
section
variable {ls:List CredB} {K O O1:Nat→Prop} {g:Nat} {F:List FactB} {n2:Nat} {R2:RoleB→CredB→Prop} {n3:Nat} {R3:List UInt8→CredB→Prop} {w wr:World} {v:Value} {cs:List FactB}
theorem GrowI.start (h:MS K O w g F n2 R2 n3 R3) (hnd:F.Nodup) (hF:∀f∈F,Der ls f):GrowI ls K O g F n2 R2 n3 R3 w w (.slice none 0 0) [] O:=
 ⟨Came.nil _ _ _,by rw[List.append_nil];exact h,Grew.refl _ _,Chg.refl _ _,by rw[List.append_nil];exact hnd,by rw[List.append_nil];exact hF⟩
theorem GrowI.quiet (h:GrowI ls K O g F n2 R2 n3 R3 w wr v cs O1) {w':World} (hc:Chg (fun _=>False) wr w'):GrowI ls K O g F n2 R2 n3 R3 w w' v cs O1:=
 ⟨h.came.quiet hc,h.ms.quiet hc,h.grew,h.chg.trans hc (fun _ _ h=>h.elim),h.nd,h.der⟩
theorem GrowI.few (h:GrowI ls K O g F n2 R2 n3 R3 w wr v cs O1) (hl:ls.length≤1000):F.length+cs.length≤4000000:=by
 have:=der_few h.nd h.der hl
 rwa [List.length_append]at this
/-- A block that was there, and isn't the model's. -/
theorem GrowI.blk (h:GrowI ls K O g F n2 R2 n3 R3 w wr v cs O1) {b:Nat} {o:Obj} (hb:w.heap[b]? = some o) (hn:¬O b):wr.heap[b]? = some o:=bE hb h.chg.up hn
/-- A range's step turns its own block alone. -/
theorem GrowI.iter (h:GrowI ls K O g F n2 R2 n3 R3 w wr v cs O1) {w':World} {r:Nat} (hc:Chg (· = r) wr w') (hr:w.heap.size≤r) (hrO:¬O1 r) (hv:∀k,v.ownBlock=some k→k≠r):GrowI ls K O g F n2 R2 n3 R3 w w' v cs O1:=
 ⟨⟨h.came.own.keep hc hv,h.came.ap⟩,h.ms.keep hc (fun i hi e=>hrO (by have:i=r:=e;rwa [this]at hi)),h.grew,h.chg.trans hc (fun i hi e=>by have:i=r:=e;omega),h.nd,h.der⟩
theorem GrowI.base {w0:World} (h:GrowI ls K O g F n2 R2 n3 R3 w wr v cs O1) (hq:Chg (fun _=>False) w0 w):GrowI ls K O g F n2 R2 n3 R3 w0 wr v cs O1:=
 ⟨h.came.low hq.size,h.ms,fun i hi=>(h.grew i hi).imp id (fun h=>Nat.le_trans hq.size h),hq.none.trans h.chg (fun _ _ h=>h),h.nd,h.der⟩
/-- What is there behind put and append. -/
def GrowPut (ls:List CredB) (K O:Nat→Prop) (g:Nat) (F:List FactB) (n2:Nat) (R2:RoleB→CredB→Prop) (n3:Nat) (R3:List UInt8→CredB→Prop) (w:World) (v:Value) (cs:List FactB) (O1:Nat→Prop) (hs:List FactB) (wr w9:World) (v9:Value):Prop:=
 ∃ao cap cs2,∃O2:Nat→Prop,v9 = .slice ao cs2.length cap∧(ao=none→cap=0)∧FactsAt (fun _=>True) w9 ao cs2∧Came w.heap.size O2 w9 v cs∧(∀i,O2 i→i<w9.heap.size)∧w.heap.size≤w9.heap.size∧cs.length+cs2.length≤4000000∧Grew O1 O2 wr∧Chg (fun i=>O1 i∧¬K i) wr w9∧
  ∀v' w3,Came w.heap.size O2 w3 v' (cs++cs2)→Chg (fun i=>w.heap.size≤i∧¬O2 i) w9 w3→GrowI ls K O g F n2 R2 n3 R3 w w3 v' (cs++cs2) O2∧∀f,f∈F++(cs++cs2)↔f∈F++cs∨f∈hs
theorem GrowI.put (h:GrowI ls K O g F n2 R2 n3 R3 w wr v cs O1) (hl:ls.length≤1000) {hs:List FactB} (hH:∀f∈hs,Der ls f) {w9:World} {v9:Value} (hp:PutI K O1 g (F++cs) n2 R2 n3 R3 hs wr w9 v9):GrowPut ls K O g F n2 R2 n3 R3 w v cs O1 hs wr w9 v9:=by
 obtain⟨cs2,O2,p1,p2,p3,p4,p5,p6⟩:=hp
 obtain⟨ao,cap,e9,hf,h0⟩:=p1.facts
 have hder:∀f∈F++cs++cs2,Der ls f:=fun f hf=>by
  rcases (p6 f).1 hf with h1|h1
  ·exact h.der f h1
  ·exact hH f h1
 have hfew:=der_few p5 hder hl
 have hc9:Chg (fun i=>O i∧¬K i) w w9:=h.chg.stepK h.grew p4
 refine⟨ao,cap,cs2,O2,e9,h0,hf.mono (fun _ _=>trivial),h.came.keep p4.up p3,p2.lo,hc9.size,by simp at hfew;omega,p3,p4,fun v' w3 hv hc=>⟨⟨hv,?_,h.grew.trans p3 h.chg.size,?_,?_,?_⟩,fun f=>?_⟩⟩
 ·rw[←List.append_assoc]
  exact p2.keep hc (fun i hi e=>e.2 hi)
 ·exact hc9.trans hc (fun i hi e=>by have:=e.1;omega)
 ·rw[←List.append_assoc];exact p5
 ·rw[←List.append_assoc];exact hder
 ·rw[←List.append_assoc];exact p6 f
/-- Apart from one block more. -/
theorem Came.more {B:Nat} {O:Nat→Prop} {w:World} {v:Value} {cs:List FactB} (h:Came B O w v cs) {r:Nat} (hv:∀k,v.ownBlock=some k→k≠r):Came B (fun i=>O i∨i=r) w v cs:=
 ⟨h.own,fun k hk e=>e.elim (h.ap k hk) (hv k hk)⟩
theorem Came.less {B:Nat} {O:Nat→Prop} {w:World} {v:Value} {cs:List FactB} {r:Nat} (h:Came B (fun i=>O i∨i=r) w v cs):Came B O w v cs∧∀k,v.ownBlock=some k→k≠r:=
 ⟨⟨h.own,fun k hk e=>h.ap k hk (.inl e)⟩,fun k hk e=>h.ap k hk (.inr e)⟩
/-- The credentials that lean on a role, to be ranged over. -/
theorem MS.leanRow (h:MS K O w g F n2 R2 n3 R3) {r:RoleB} (hr:ktR.ok r) :
  ∃(m:Nat) (y:Option Nat) (xs:List CredB),w.cell? ⟨g,1,none⟩=some (.map (some m))∧(∀c,c∈xs↔R2 r c)∧(∀c∈xs,isCred c=true)∧(∀b,y=some b→K b)∧(∀w',Chg (fun _=>False) w w'→(Instr.lookup 109 (.map (some m)) (ktR.val r) false).run Tryz.prog w' = .ok (.map y) w')∧
   ∀w',Chg (fun _=>False) w w'→∃w'' cnt,(Instr.range 61 (.map y)).run Tryz.prog w' = .ok (.pointer (some ⟨w'.heap.size,0,none⟩)) w''∧KRange ktC unitElem w'' y w'.heap.size xs cnt∧Chg (fun _=>False) w' w'':=by
 obtain⟨⟨m1,m2,m3,O1,O2,O3,h0,h1,h2,h3,d1,d2,d3⟩,h4,hk,h5⟩:=h
 obtain⟨y,xs,q1,_,_,q2,q3,q4,q5⟩:=h2.row (t:=109) (e:=61) (t2:=61) (e2:=62) Tryz.underlying109 mZeroIc Tryz.underlying61 hr
 exact⟨m2,y,xs,bC h0 1,q1,q2,fun b e=>(d2 b (q3 b e)).1,q4,q5⟩
/-- The credentials that are linked by a word, to be ranged over. -/
theorem MS.linkRow (h:MS K O w g F n2 R2 n3 R3) {r:List UInt8} (hr:ktS.ok r) :
  ∃(m:Nat) (y:Option Nat) (xs:List CredB),w.cell? ⟨g,2,none⟩=some (.map (some m))∧(∀c,c∈xs↔R3 r c)∧(∀c∈xs,isCred c=true)∧(∀b,y=some b→K b)∧(∀w',Chg (fun _=>False) w w'→(Instr.lookup 110 (.map (some m)) (ktS.val r) false).run Tryz.prog w' = .ok (.map y) w')∧
   ∀w',Chg (fun _=>False) w w'→∃w'' cnt,(Instr.range 61 (.map y)).run Tryz.prog w' = .ok (.pointer (some ⟨w'.heap.size,0,none⟩)) w''∧KRange ktC unitElem w'' y w'.heap.size xs cnt∧Chg (fun _=>False) w' w'':=by
 obtain⟨⟨m1,m2,m3,O1,O2,O3,h0,h1,h2,h3,d1,d2,d3⟩,h4,hk,h5⟩:=h
 obtain⟨y,xs,q1,_,_,q2,q3,q4,q5⟩:=h3.row (t:=110) (e:=61) (t2:=61) (e2:=62) Tryz.underlying110 mZeroIc Tryz.underlying61 hr
 exact⟨m3,y,xs,bC h0 2,q1,q2,fun b e=>(d3 b (q3 b e)).1,q4,q5⟩
theorem MS.cong {n2' n3':Nat} {R2':RoleB→CredB→Prop} {R3':List UInt8→CredB→Prop} (h:MS K O w g F n2 R2 n3 R3) (h2:∀a x,R2 a x↔R2' a x) (h3:∀a x,R3 a x↔R3' a x) (e2:n2≤n2') (e3:n3≤n3'):MS K O w g F n2' R2' n3' R3':=by
 obtain⟨⟨m1,m2,m3,O1,O2,O3,a0,a1,a2,a3,d1,d2,d3⟩,a4,ak,a5⟩:=h
 exact⟨⟨m1,m2,m3,O1,O2,O3,a0,a1,(a2.cong h2).le e2,(a3.cong h3).le e3,d1,d2,d3⟩,a4,ak,a5⟩
theorem MS.lean_no (h:MS K O w g F n2 R2 n3 R3) (r:RoleB) (c:CredB) (hr:ktR.ok r) (hc:isCred c=true) (hn:n2<4611686018427387904) (hR:R2 r c) :
  ∃m,w.cell? ⟨g,1,none⟩=some (.map (some m))∧∀w',Chg (fun _=>False) w w'→Calls Tryz.prog 104 #[.map (some m),.agg #[.string ⟨r.1.toArray⟩,.string ⟨r.2.toArray⟩],credV c] w' fun e w''=>e = .returned (.bool false)∧Chg (fun _=>False) w' w'':=by
 obtain⟨⟨m1,m2,m3,O1,O2,O3,h0,h1,h2,h3,d1,d2,d3⟩,h4,hk,h5⟩:=h
 refine⟨m2,bC h0 1,fun w' hcw=>?_⟩
 refine(enter_c m2 n2 _ r c w' (h2.keep hcw (fun _ _=>id)) (fun i hi=>Nat.lt_of_lt_of_le (h5 i (hk i (d2 i hi).1)) hcw.size) hr hc hn).mono ?_
 rintro e w'' (⟨_,h6,h7⟩|⟨h6,_⟩)
 ·exact⟨h6,h7⟩
 ·exact absurd hR h6
/-- What a credential that is entered leaves. -/
def LeanPost (O:Nat→Prop) (g:Nat) (F:List FactB) (n2:Nat) (R2:RoleB→CredB→Prop) (n3:Nat) (R3:List UInt8→CredB→Prop) (w w':World):Prop:=
 ∃K' O',MS K' O' w' g F n2 R2 n3 R3∧Grew O O' w∧Chg O w w'
theorem MS.lean_yes (h:MS K O w g F n2 R2 n3 R3) (r:RoleB) (c:CredB) (hr:ktR.ok r) (hc:isCred c=true) (hn:n2<4611686018427387904) (hR:¬R2 r c) :
  ∃m,w.cell? ⟨g,1,none⟩=some (.map (some m))∧∀w',Chg (fun _=>False) w w'→Calls Tryz.prog 104 #[.map (some m),.agg #[.string ⟨r.1.toArray⟩,.string ⟨r.2.toArray⟩],credV c] w' fun e w''=>e = .returned (.bool true)∧LeanPost O g F (n2+1) (fun a x=>R2 a x∨(a=r∧x=c)) n3 R3 w' w''∧Chg O w' w'':=by
 obtain⟨⟨m1,m2,m3,O1,O2,O3,h0,h1,h2,h3,d1,d2,d3⟩,h4,hk,h5⟩:=h
 refine⟨m2,bC h0 1,fun w' hcw=>?_⟩
 refine(enter_c m2 n2 _ r c w' (h2.keep hcw (fun _ _=>id)) (fun i hi=>Nat.lt_of_lt_of_le (h5 i (hk i (d2 i hi).1)) hcw.size) hr hc hn).mono ?_
 rintro e w'' (⟨h6,_⟩|⟨_,h6,O2',h7,h8,h9,h10⟩)
 ·exact absurd h6 hR
 ·obtain⟨K',O',q1,q2,q3⟩:=MS.leans (bE h0 hcw id) (h1.keep hcw (fun _ _=>id)) (h3.keep hcw (fun _ _=>id)) d1 d2 d3 h4 hk (fun i hi=>Nat.lt_of_lt_of_le (h5 i hi) hcw.size) h7 h8 h9 h10
  exact⟨h6,⟨K',O',q1,q2,q3⟩,q3⟩
theorem MS.link_no (h:MS K O w g F n2 R2 n3 R3) (r:List UInt8) (c:CredB) (hr:ktS.ok r) (hc:isCred c=true) (hn:n3<4611686018427387904) (hR:R3 r c) :
  ∃m,w.cell? ⟨g,2,none⟩=some (.map (some m))∧∀w',Chg (fun _=>False) w w'→Calls Tryz.prog 103 #[.map (some m),.string ⟨r.toArray⟩,credV c] w' fun e w''=>e = .returned (.bool false)∧Chg (fun _=>False) w' w'':=by
 obtain⟨⟨m1,m2,m3,O1,O2,O3,h0,h1,h2,h3,d1,d2,d3⟩,h4,hk,h5⟩:=h
 refine⟨m3,bC h0 2,fun w' hcw=>?_⟩
 refine(enter_l m3 n3 _ r c w' (h3.keep hcw (fun _ _=>id)) (fun i hi=>Nat.lt_of_lt_of_le (h5 i (hk i (d3 i hi).1)) hcw.size) hr hc hn).mono ?_
 rintro e w'' (⟨_,h6,h7⟩|⟨h6,_⟩)
 ·exact⟨h6,h7⟩
 ·exact absurd hR h6
theorem MS.link_yes (h:MS K O w g F n2 R2 n3 R3) (r:List UInt8) (c:CredB) (hr:ktS.ok r) (hc:isCred c=true) (hn:n3<4611686018427387904) (hR:¬R3 r c) :
  ∃m,w.cell? ⟨g,2,none⟩=some (.map (some m))∧∀w',Chg (fun _=>False) w w'→Calls Tryz.prog 103 #[.map (some m),.string ⟨r.toArray⟩,credV c] w' fun e w''=>e = .returned (.bool true)∧LeanPost O g F n2 R2 (n3+1) (fun a x=>R3 a x∨(a=r∧x=c)) w' w''∧Chg O w' w'':=by
 obtain⟨⟨m1,m2,m3,O1,O2,O3,h0,h1,h2,h3,d1,d2,d3⟩,h4,hk,h5⟩:=h
 refine⟨m3,bC h0 2,fun w' hcw=>?_⟩
 refine(enter_l m3 n3 _ r c w' (h3.keep hcw (fun _ _=>id)) (fun i hi=>Nat.lt_of_lt_of_le (h5 i (hk i (d3 i hi).1)) hcw.size) hr hc hn).mono ?_
 rintro e w'' (⟨h6,_⟩|⟨_,h6,O3',h7,h8,h9,h10⟩)
 ·exact absurd h6 hR
 ·obtain⟨K',O',q1,q2,q3⟩:=MS.links (bE h0 hcw id) (h1.keep hcw (fun _ _=>id)) (h2.keep hcw (fun _ _=>id)) d1 d2 d3 h4 hk (fun i hi=>Nat.lt_of_lt_of_le (h5 i hi) hcw.size) h7 h8 h9 h10
  exact⟨h6,⟨K',O',q1,q2,q3⟩,q3⟩
end
end
section
open Go.RowKit Go.Maps
def pinSpecs (g A m:Nat) (r:RoleB) (s:List UInt8) (y:Option Nat) (b:Bool):List Spec:=[.eq (.pointer (some ⟨g,0,none⟩)),.any,.eq (.string ⟨s.toArray⟩),.any,.eq (.pointer (some ⟨A,0,none⟩)),.any,.any,.ptrE,.eq (.bool b),.any,.any,.eq (.tuple #[.agg #[],.bool b]),.eq (.pointer (some ⟨g,0,none⟩)),.eq (.pointer (some ⟨g,0,none⟩)),.eq (.pointer (some ⟨g,0,none⟩)),.eq (.map (some m)),.eq (.agg #[.string ⟨r.1.toArray⟩,.string ⟨r.2.toArray⟩]),.eq (.map y),.eq (.string ⟨s.toArray⟩),.eq (.tuple #[.agg #[],.bool b]),.eq (.agg #[]),.eq (.bool b),.any]
set_option maxRecDepth 100000 in
set_option maxHeartbeats 1000000 in
theorem pin {K O:Nat→Prop} (g:Nat) (F:List FactB) {n2 n3:Nat} {R2:RoleB→CredB→Prop} {R3:List UInt8→CredB→Prop} (r:RoleB) (s:List UInt8) (w:World) (h:MS K O w g F n2 R2 n3 R3) (hr:ktR.ok r) (hs:ktS.ok s) :
  Calls Tryz.prog 33 #[.pointer (some ⟨g,0,none⟩),.agg #[.string ⟨r.1.toArray⟩,.string ⟨r.2.toArray⟩],.string ⟨s.toArray⟩] w fun e w'=>e = .returned (.bool (decide ((r,s)∈F)))∧Chg (fun _=>False) w w':=by
 have hc1:=alc w (.cells #[.string ⟨r.1.toArray⟩,.string ⟨r.2.toArray⟩] 32)
 have hb1:(w.alloc (.cells #[.string ⟨r.1.toArray⟩,.string ⟨r.2.toArray⟩] 32)).heap[w.heap.size]? = some (.cells #[.string ⟨r.1.toArray⟩,.string ⟨r.2.toArray⟩] 32 (0,0)):=heap_alloc_new w _
 obtain⟨⟨m,m2,m3,O1,O2,O3,h0,h1,_⟩,_⟩:=h
 have h0':=bE h0 hc1 id
 obtain⟨y,b,hb,hl⟩:=(h1.keep hc1 (fun _ _=>id)).ask (t:=108) (e:=113) (t2:=113) (e2:=62) Tryz.underlying108 mZeroIn Tryz.underlying113 mZeroUn hr hs
 simp only[ktR,ktS]at hl
 have HB:Hid (decide ((r,s)∈F)=b):=hid (by cases b with
  | true=>simpa using hb
  | false=>simpa using hb)
 have x0:=bC h0' 0
 have x1:=bC hb1 0
 have x2:=bC hb1 1
 simp only[lA,lZ,lS]at x0 x1 x2
 have HX:=hid (aI x0 (aI x1 x2))
 have HL:=hid hl
 have HC:=hid hc1
 clear h0 h1 h0' hb hl x0 x1 x2 hc1 hb1
 go_enter Tryz.func33,Tryz.ntmps33
 go_wp2_with fail
 generalize (w.alloc (.cells #[.string ⟨r.1.toArray⟩,.string ⟨r.2.toArray⟩] 32))=w1 at *
 obtain⟨A,hAe⟩:∃A,w.heap.size=A:=⟨_,rfl⟩
 simp only[hAe]at HX ⊢
 clear hAe
 refine wp_region_specs (pinSpecs g A m r s y b) [12,13,14,15,16,17,18,19,11,20,21,7,8] [0,2,4] (by kernel_rfl) (by kernel_rfl) (by rfl) (by kernel_rfl) ?start ?obs ?fin
 case start=>
  simp only[List.forall_mem_cons];exact⟨⟨_,rfl,rfl⟩,⟨_,rfl,rfl⟩,⟨_,rfl,rfl⟩,fun _ h=>by cases h⟩
 case obs=>
  clear HC HB
  refine Obs.cons none (by kernel_rfl) ?_ ?_
  ·refine Ob.plain fun a w hR hk K k=>?_
   obtain⟨_,e0,f0⟩:=hk 0 (by decide)
   clear hk
   go_simp
   exact k _ _ R0 f0
  refine Obs.cons none (by kernel_rfl) ?_ ?_
  ·refine Ob.plain fun a w hR hk K k=>?_
   obtain⟨_,e12,rfl⟩:=hk 12 (by decide)
   clear hk
   go_simp
   exact k _ _ R0 rfl
  refine Obs.cons none (by kernel_rfl) ?_ ?_
  ·refine Ob.plain fun a w hR hk K k=>?_
   obtain⟨_,e13,rfl⟩:=hk 13 (by decide)
   clear hk
   go_simp
   exact k _ _ R0 rfl
  refine Obs.cons none (by kernel_rfl) ?_ ?_
  ·refine Ob.plain fun a w hR hk K k=>?_
   obtain⟨_,e14,rfl⟩:=hk 14 (by decide)
   clear hk
   have zz:=hR.cell HX.out.1 id
   go_simp
   exact k _ _ R0 rfl
  refine Obs.cons none (by kernel_rfl) ?_ ?_
  ·refine Ob.plain fun a w hR hk K k=>?_
   obtain⟨_,e4,rfl⟩:=hk 4 (by decide)
   clear hk
   have z0:=hR.cell HX.out.2.1 id
   have z1:=hR.cell HX.out.2.2 id
   go_simp
   exact k _ _ R0 rfl
  refine Obs.cons none (by kernel_rfl) ?_ ?_
  ·refine Ob.plain fun a w hR hk K k=>?_
   obtain⟨_,e15,rfl⟩:=hk 15 (by decide)
   obtain⟨_,e16,rfl⟩:=hk 16 (by decide)
   clear hk
   have q:=(HL.out w hR).1
   go_simp
   exact k _ _ R0 rfl
  refine Obs.cons none (by kernel_rfl) ?_ ?_
  ·refine Ob.plain fun a w hR hk K k=>?_
   obtain⟨_,e2,f2⟩:=hk 2 (by decide)
   clear hk
   go_simp
   exact k _ _ R0 f2
  refine Obs.cons none (by kernel_rfl) ?_ ?_
  ·refine Ob.plain fun a w hR hk K k=>?_
   obtain⟨_,e17,rfl⟩:=hk 17 (by decide)
   obtain⟨_,e18,rfl⟩:=hk 18 (by decide)
   clear hk
   have q:=(HL.out w hR).2
   go_simp
   exact k _ _ R0 rfl
  refine Obs.cons none (by kernel_rfl) ?_ ?_
  ·refine Ob.plain fun a w hR hk K k=>?_
   obtain⟨_,e19,f19⟩:=hk 19 (by decide)
   clear hk
   go_simp
   exact k _ _ R0 f19
  refine Obs.cons none (by kernel_rfl) ?_ ?_
  ·refine Ob.plain fun a w hR hk K k=>?_
   obtain⟨_,e11,rfl⟩:=hk 11 (by decide)
   clear hk
   go_simp
   exact k _ _ R0 rfl
  refine Obs.cons none (by kernel_rfl) ?_ ?_
  ·refine Ob.plain fun a w hR hk K k=>?_
   obtain⟨_,e11,rfl⟩:=hk 11 (by decide)
   clear hk
   go_simp
   exact k _ _ R0 rfl
  refine Obs.cons none (by kernel_rfl) ?_ ?_
  ·refine Ob.plain fun a w hR hk K k=>?_
   clear hk
   go_simp
   exact k _ _ (R0.alloc _) ⟨_,rfl⟩
  refine Obs.cons none (by kernel_rfl) ?_ ?_
  ·refine Ob.plain fun a w hR hk K k=>?_
   obtain⟨_,e7,f7⟩:=hk 7 (by decide)
   obtain⟨_,e20,rfl⟩:=hk 20 (by decide)
   clear hk
   obtain⟨bb,rfl⟩:=f7
   go_simp
   exact k undef _ R0 trivial
  refine Obs.cons none (by kernel_rfl) ?_ ?_
  ·refine Ob.plain fun a w hR hk K k=>?_
   obtain⟨_,e21,f21⟩:=hk 21 (by decide)
   clear hk
   go_simp
   exact k _ _ R0 f21
  exact Obs.nil
 case fin=>
  intro vals w9 hc9 hv
  have h8:vals 8 = .bool b:=hv 8 (by decide)
  simp only[putAll,List.setIfInBounds_toArray,List.set_cons_zero,List.set_cons_succ,h8]
  have HC9:=hid (HC.out.trans hc9 (fun _ _ h=>h))
  clear hc9 hv h8 HC HX HL
  go_wp2
  go_ret
  exact⟨by rw[HB.out];rfl,HC9.out⟩
end
section
open Go.RowKit Go.Maps
def pstepSpecs (g A m lo:Nat) (c:CredB) (who:List UInt8) (y:Option Nat) (xs:List (List UInt8)):List Spec:=[.eq (.pointer (some ⟨g,0,none⟩)),.any,.eq (.string ⟨who.toArray⟩),.any,.eq (.pointer (some ⟨A,0,none⟩)),.any,.any,.any,.any,.any,.any,.any,.any,.any,.any,.any,.any,.any,.any,.any,.eq (.pointer (some ⟨g,0,none⟩)),.eq (.pointer (some ⟨g,0,none⟩)),.eq (.pointer (some ⟨g,0,none⟩)),.eq (.map (some m)),.eq (.string ⟨who.toArray⟩),.eq (.pointer (some ⟨A,8,none⟩)),.eq (.string ⟨c.w2.toArray⟩),.eq (.agg #[.string ⟨who.toArray⟩,.string ⟨c.w2.toArray⟩]),.eq (.map y),.rng ktS unitElem lo y xs,.any,.any,.any,.any,.any,.any,.any,.any,.any,.any,.any,.any,.any,.any,.any,.any,.any,.any,.any,.any,.any,.any,.any,.any,.any,.any,.any,.any,.any,.any,.any]
set_option maxRecDepth 100000 in
set_option maxHeartbeats 2000000 in
theorem pstep {K O:Nat→Prop} (g:Nat) (F:List FactB) {n2 n3:Nat} {R2:RoleB→CredB→Prop} {R3:List UInt8→CredB→Prop} (c:CredB) (who:List UInt8) (w:World) (h:MS K O w g F n2 R2 n3 R3) (hc:isCred c=true) (hw:who.length≤9223372036854775807) (hn:F.length≤4000000) :
  Calls Tryz.prog 106 #[.pointer (some ⟨g,0,none⟩),.agg #[.int .i64 c.kind,.string ⟨c.head.1.toArray⟩,.string ⟨c.head.2.toArray⟩,.string ⟨c.who.toArray⟩,.string ⟨c.b.1.toArray⟩,.string ⟨c.b.2.toArray⟩,.string ⟨c.c.1.toArray⟩,.string ⟨c.c.2.toArray⟩,.string ⟨c.w2.toArray⟩],.string ⟨who.toArray⟩] w (StepPost F c who w):=by
 have hc1:=alc w (.cells #[.int .i64 c.kind,.string ⟨c.head.1.toArray⟩,.string ⟨c.head.2.toArray⟩,.string ⟨c.who.toArray⟩,.string ⟨c.b.1.toArray⟩,.string ⟨c.b.2.toArray⟩,.string ⟨c.c.1.toArray⟩,.string ⟨c.c.2.toArray⟩,.string ⟨c.w2.toArray⟩] 34)
 have hb1:(w.alloc (.cells #[.int .i64 c.kind,.string ⟨c.head.1.toArray⟩,.string ⟨c.head.2.toArray⟩,.string ⟨c.who.toArray⟩,.string ⟨c.b.1.toArray⟩,.string ⟨c.b.2.toArray⟩,.string ⟨c.c.1.toArray⟩,.string ⟨c.c.2.toArray⟩,.string ⟨c.w2.toArray⟩] 34)).heap[w.heap.size]? = some (.cells (credBox c) 34 (0,0)):=heap_alloc_new w _
 obtain⟨c0,c1,c2,c3,c4,c5,c6,c7,c8⟩:=cred_at_blk hb1
 simp only[Nat.zero_add]at c0 c1 c2 c3 c4 c5 c6 c7 c8
 have HA1:=hid (aI hb1 hc1)
 have HM:=hid (aI (h.quiet hc1) (aI hc (aI hw (aI hn h.lo))))
 have hkk:=isCred_kind hc
 clear hb1 hc1 h hc hw hn
 rcases hkk with hk|hk|hk|hk
 ·have d2:(c.kind==2)=false:=by rw[hk];rfl
  have d3:(c.kind==3)=false:=by rw[hk];rfl
  have d4:(c.kind==4)=false:=by rw[hk];rfl
  have HK:=hid hk
  clear hk
  go_enter Tryz.func106,Tryz.ntmps106
  go_wp2
  go_ret
  refine⟨none,0,[],rfl,FactsAt.nil _ _ _,HA1.out.2,fun f=>⟨fun h=>(by cases h),fun h=>?_⟩,by simp⟩
  have hk:=HK.out
  rcases h.2 with ⟨k,_⟩|⟨k,_⟩|⟨k,_⟩ <;> omega
 ·have d2:(c.kind==2)=true:=by rw[hk];rfl
  have HK:=hid hk
  clear hk
  go_enter Tryz.func106,Tryz.ntmps106
  go_wp2
  go_ret
  refine⟨some ⟨w.heap.size+1,0,none⟩,1,[(c.head,who)],rfl,?_,HA1.out.2.alloc _,fun f=>?_,by simp⟩
  ·have:=fact_new (w.alloc (.cells #[.int .i64 c.kind,.string ⟨c.head.1.toArray⟩,.string ⟨c.head.2.toArray⟩,.string ⟨c.who.toArray⟩,.string ⟨c.b.1.toArray⟩,.string ⟨c.b.2.toArray⟩,.string ⟨c.c.1.toArray⟩,.string ⟨c.c.2.toArray⟩,.string ⟨c.w2.toArray⟩] 34)) (c.head,who)
   have e:(w.alloc (.cells #[.int .i64 c.kind,.string ⟨c.head.1.toArray⟩,.string ⟨c.head.2.toArray⟩,.string ⟨c.who.toArray⟩,.string ⟨c.b.1.toArray⟩,.string ⟨c.b.2.toArray⟩,.string ⟨c.c.1.toArray⟩,.string ⟨c.c.2.toArray⟩,.string ⟨c.w2.toArray⟩] 34)).heap.size=w.heap.size+1:=by simp
   rw[e]at this
   intro i hi
   have:i=0:=by simp at hi;omega
   subst this
   exact⟨_,0,rfl,⟨by omega,by simp⟩,fact_at_blk (f:=(c.head,who)) (by rw[←e];exact heap_alloc_new (w.alloc (.cells #[.int .i64 c.kind,.string ⟨c.head.1.toArray⟩,.string ⟨c.head.2.toArray⟩,.string ⟨c.who.toArray⟩,.string ⟨c.b.1.toArray⟩,.string ⟨c.b.2.toArray⟩,.string ⟨c.c.1.toArray⟩,.string ⟨c.c.2.toArray⟩,.string ⟨c.w2.toArray⟩] 34)) _)⟩
  ·have hk:=HK.out
   obtain⟨f1,f2⟩:=f
   rw[List.mem_singleton,Prod.mk.injEq]
   constructor
   ·rintro ⟨h1,h2⟩
    exact⟨h1,.inl ⟨hk,h2⟩⟩
   ·rintro ⟨h1,h2⟩
    rcases h2 with ⟨_,h2⟩|⟨k,_⟩|⟨k,_⟩
    ·exact⟨h1,h2⟩
    ·omega
    ·omega
 ·have d2:(c.kind==2)=false:=by rw[hk];rfl
  have d3:(c.kind==3)=true:=by rw[hk];rfl
  have HK:=hid hk
  have hsh:=isCred_short HM.out.2.1
  unfold credShort at hsh
  obtain⟨⟨m,m2,m3,O1,O2,O3,h0,h1,_,_,dd1,_,_⟩,hgO,hlo1⟩:=HM.out.1
  obtain⟨y,xs,hxs,hxn,hxl,hxok,hyO,hl1,hl2⟩:=h1.row (t:=108) (e:=113) (t2:=113) (e2:=62) Tryz.underlying108 mZeroIn Tryz.underlying113 (a:=(who,c.w2)) ⟨HM.out.2.2.1,by simp only;omega⟩
  simp only[ktR]at hl1
  have x0:=bC h0 0
  simp only[lA,lZ]at x0
  have HX:=hid (aI x0 c8)
  have HL:=hid (aI hl1 hl2)
  have HXS:=hid (aI hxs (Nat.le_trans hxl HM.out.2.2.2.1))
  have HXS2:=hid (fun b (e:y=some b)=>(dd1 b (hyO b e)).1)
  have HO:=hid HM.out.2.2.2.2
  clear hk hsh h0 h1 dd1 hgO hlo1 hxs hxn hxl hxok hyO hl1 hl2 x0 HM
  go_enter Tryz.func106,Tryz.ntmps106
  go_wp2_with fail
  clear c0 c1 c2 c3 c4 c5 c6 c7 c8
  generalize (w.alloc (.cells #[.int .i64 c.kind,.string ⟨c.head.1.toArray⟩,.string ⟨c.head.2.toArray⟩,.string ⟨c.who.toArray⟩,.string ⟨c.b.1.toArray⟩,.string ⟨c.b.2.toArray⟩,.string ⟨c.c.1.toArray⟩,.string ⟨c.c.2.toArray⟩,.string ⟨c.w2.toArray⟩] 34))=w1 at *
  obtain⟨A,hAe⟩:∃A,w.heap.size=A:=⟨_,rfl⟩
  simp only[hAe]at HX ⊢
  have hA1:w1.heap[A]? = some (.cells (credBox c) 34 (0,0)):=by rw[←hAe];exact HA1.out.1
  have HC:=hid HA1.out.2
  have hAw:A<w1.heap.size:=lt_blk hA1
  have HA2:=hid (aI hA1 (aI hAw (by omega:w.heap.size≤A)))
  have HLO:=hid (Nat.le_refl w1.heap.size)
  have HAE:=hid hAe
  clear HA1 hAe hA1 hAw
  refine wp_region_specs (pstepSpecs g A m w1.heap.size c who y xs) [20,21,22,23,24,25,26,27,28,29] [0,2,4] (by kernel_rfl) (by kernel_rfl) (by rfl) (by kernel_rfl) ?start ?obs ?fin
  case start=>
   simp only[List.forall_mem_cons];exact⟨⟨_,rfl,rfl⟩,⟨_,rfl,rfl⟩,⟨_,rfl,rfl⟩,fun _ h=>by cases h⟩
  case obs=>
   clear HC HA2 HK HXS HXS2 HO HAE
   refine Obs.cons none (by kernel_rfl) ?_ ?_
   ·refine Ob.plain fun a w hR hk K k=>?_
    obtain⟨_,e0,f0⟩:=hk 0 (by decide)
    clear hk
    go_simp
    exact k _ _ R0 f0
   refine Obs.cons none (by kernel_rfl) ?_ ?_
   ·refine Ob.plain fun a w hR hk K k=>?_
    obtain⟨_,e20,rfl⟩:=hk 20 (by decide)
    clear hk
    go_simp
    exact k _ _ R0 rfl
   refine Obs.cons none (by kernel_rfl) ?_ ?_
   ·refine Ob.plain fun a w hR hk K k=>?_
    obtain⟨_,e21,rfl⟩:=hk 21 (by decide)
    clear hk
    go_simp
    exact k _ _ R0 rfl
   refine Obs.cons none (by kernel_rfl) ?_ ?_
   ·refine Ob.plain fun a w hR hk K k=>?_
    obtain⟨_,e22,rfl⟩:=hk 22 (by decide)
    clear hk
    have zz:=hR.cell HX.out.1 id
    go_simp
    exact k _ _ R0 rfl
   refine Obs.cons none (by kernel_rfl) ?_ ?_
   ·refine Ob.plain fun a w hR hk K k=>?_
    obtain⟨_,e2,f2⟩:=hk 2 (by decide)
    clear hk
    go_simp
    exact k _ _ R0 f2
   refine Obs.cons none (by kernel_rfl) ?_ ?_
   ·refine Ob.plain fun a w hR hk K k=>?_
    obtain⟨_,e4,rfl⟩:=hk 4 (by decide)
    clear hk
    go_simp
    exact k _ _ R0 rfl
   refine Obs.cons none (by kernel_rfl) ?_ ?_
   ·refine Ob.plain fun a w hR hk K k=>?_
    obtain⟨_,e25,rfl⟩:=hk 25 (by decide)
    clear hk
    have zz:=hR.cell HX.out.2 id
    go_simp
    exact k _ _ R0 rfl
   refine Obs.cons none (by kernel_rfl) ?_ ?_
   ·refine Ob.plain fun a w hR hk K k=>?_
    obtain⟨_,e24,rfl⟩:=hk 24 (by decide)
    obtain⟨_,e26,rfl⟩:=hk 26 (by decide)
    clear hk
    go_simp
    exact k _ _ R0 rfl
   refine Obs.cons none (by kernel_rfl) ?_ ?_
   ·refine Ob.plain fun a w hR hk K k=>?_
    obtain⟨_,e23,rfl⟩:=hk 23 (by decide)
    obtain⟨_,e27,rfl⟩:=hk 27 (by decide)
    clear hk
    have q:=HL.out.1 w hR
    go_simp
    exact k _ _ R0 rfl
   refine Obs.cons none (by kernel_rfl) ?_ ?_
   ·refine Ob.plain fun a w hR hk K k=>?_
    obtain⟨_,e28,rfl⟩:=hk 28 (by decide)
    clear hk
    obtain⟨w5,cnt,q1,q2,q3⟩:=HL.out.2 w hR
    have hsz:=Nat.le_trans HLO.out hR.size
    go_simp
    exact k _ _ q3 ⟨_,_,rfl,hsz,q2⟩
   exact Obs.nil
  case fin=>
   intro vals w9 hc9 hv
   obtain⟨r,cnt0,h29,hlo,hrg⟩:=hv 29 (by decide)
   simp only[putAll,List.setIfInBounds_toArray,List.set_cons_zero,List.set_cons_succ,h29]
   have HC9:=hid (HC.out.trans hc9 (fun _ _ h=>h))
   have HX9:=hid (bE HA2.out.1 hc9 id)
   have HRG:=hid (aI hlo hrg)
   clear hv h29 hc9 hlo hrg HX HL HC
   go_wp2
   go_loopw [7] (fun v wr=>∃(rest:List (List UInt8)) (cnt:Nat) (hs:List FactB),KRange ktS unitElem wr y r rest cnt∧Came w.heap.size (fun i=>O i∨i=r∨i=A) wr v hs∧Chg (fun _=>False) w wr∧(∀f:FactB,f∈hs↔f.1=c.head∧f.2∈xs∧f.2∉rest)∧hs.length+rest.length≤xs.length∧wr.heap[A]? = some (.cells (credBox c) 34 (0,0))∧r<wr.heap.size∧∀z∈rest,z∈xs) (fun _ wr=>krLeft wr y r)
   case atStart=>exact⟨xs,cnt0,[],HRG.out.2,Came.nil _ _ _,HC9.out,fun f=>⟨fun h=>(by cases h),fun h=>absurd h.2.1 h.2.2⟩,by simp,HX9.out,HRG.out.2.lt,fun _ h=>h⟩
   case round=>
    obtain⟨rest,cnt,hs,hrg,hcm,hch,hmem,hlen,hbA,hrl,hsub⟩:=hrel
    have HI:=hid (aI hcm (aI hch (aI hmem (aI hlen (aI hbA (aI hrl hsub))))))
    have HQ:=hid hrg
    clear hcm hch hmem hlen hbA hrl hsub
    go_wp2_with (at_next;refine wpList_next_k _ rfl (.tmp 29) rfl ktS unitElem y r rest cnt rfl HQ.out ?_ ?_)
    ·intro hrest
     have HE:=hid hrest
     clear hrest hrg
     go_wp2
     go_ret
     obtain⟨hcm,hch,hmem,hlen,_⟩:=HI.out
     refine StepPost.of hcm hch (fun f=>?_) (by have:=HXS.out.2;omega)
     rw[hmem f,HE.out,HXS.out.1 f.2]
     unfold StepOf
     have hk:=HK.out
     constructor
     ·rintro ⟨h1,h2,_⟩
      exact⟨h1,.inr (.inl ⟨hk,h2⟩)⟩
     ·rintro ⟨h1,h2⟩
      rcases h2 with ⟨k,_⟩|⟨_,h2⟩|⟨k,_⟩
      ·omega
      ·exact⟨h1,h2,by simp⟩
      ·omega
    ·intro x cv ya yb w5 cnt5 hx hcv hrg5 hlt5 hc5 hsz5 hent
     obtain⟨rfl,_⟩:=unitElem_inv hcv
     obtain⟨hcm,hch,hmem,hlen,hbA,hrl,hsub⟩:=HI.out
     have hrA:r≠A:=by have:=HRG.out.1;have:=HA2.out.2;omega
     have hrO:∀i,i=r→O i∨i=r∨i=A:=fun i h=>.inr (.inl h)
     have hcm5:Came w.heap.size (fun i=>O i∨i=r∨i=A) w5 u7 hs:=hcm.keep (hc5.mono (fun i _ h=>hrO i h)) (fun i hi=>.inl hi)
     have hwr:w.heap.size≤r:=by have:=HRG.out.1;have:=HA2.out.2;have:=HA2.out.2.2;omega
     have hch5:Chg (fun _=>False) w w5:=hch.trans hc5 (fun i hi e=>by omega)
     have hbA5:=bE hbA hc5 (fun e=>hrA e.symm)
     have z1:=bC hbA5 1
     have z2:=bC hbA5 2
     simp only[credBox,lA,lZ,lS]at z1 z2
     have HJ:=hid (aI hcm5 (aI hch5 (aI hbA5 (aI hrg5 (aI hlt5 (aI hx (aI hrl hsz5)))))))
     have hll:(rest.filter (fun z=>decide (z≠x))).length<rest.length:=by
      have h1:=List.length_filter_lt_length_iff_exists (p:=fun z=>decide (z≠x)) (l:=rest)
      exact h1.2 ⟨x,hx,by simp⟩
     have HLL:=hid hll
     simp only[ktS]at hent
     clear hrg hcm hch hmem hlen hbA hrl hsub hcm5 hch5 hbA5 hrg5 hlt5 hx hsz5 hc5 hrA hrO hwr hcv hll
     go_wp2_with (at_builtin;refine wpList_append_facts (O:=fun i=>O i∨i=r∨i=A) rfl (.tmp 34) (.tmp 39) rfl w.heap.size u7 hs rfl (HJ.out.1.quiet ((Chg.refl _ w5).alloc _)) (fun i hi=>?c0) (some ⟨w5.heap.size,0,none⟩) 1 [(c.head,x)] rfl (fact_new w5 (c.head,x)) (fun e=>by cases e) ?c1 ?c2 ?_)
     case c0=>
      have:=HJ.out.2.1.size
      rcases hi with hi|hi
      ·have:=HO.out i hi;simp;omega
      ·have:=HJ.out.2.2.2.2.2.2.1;have:=HJ.out.2.2.2.2.2.2.2;have:=lt_blk HJ.out.2.2.1;simp;omega
     case c1=>have:=HI.out.2.2.2.1;have:=HXS.out.2;simp;omega
     case c2=>have:=HJ.out.2.1.size;simp;omega
     intro v' w3 hown hc3
     have HY:=hid (aI hown hc3)
     clear hown hc3 z1 z2 hent
     go_wp2
     go_roundw
     case rel=>
      obtain⟨hcm5,hch5,hbA5,hrg5,hlt5,hx,hrl,hsz5⟩:=HJ.out
      obtain⟨_,_,hmem,hlen,_,_,hsub⟩:=HI.out
      have hwa:=alc w5 (.cells #[.string ⟨c.head.1.toArray⟩,.string ⟨c.head.2.toArray⟩,.string ⟨x.toArray⟩] 144)
      have hAw:=HA2.out
      have hwr:=HRG.out.1
      refine⟨_,cnt5,_,(hrg5.keep hwa (fun _ _=>id) id).keep HY.out.2 (fun b e h=>by have:=HXS2.out b e;simp [this]at h) (fun h=>by simp at h),HY.out.1,(hch5.trans hwa (fun _ _ h=>h)).trans HY.out.2 (fun i hi e=>by have:=e.1;omega),fun f=>?_,?_,bE (bE hbA5 hwa id) HY.out.2 (fun e=>by simp at e),?_,fun z hz=>hsub z (List.mem_filter.1 hz).1⟩
      ·rw[List.mem_append,List.mem_singleton,hmem f]
       obtain⟨f1,f2⟩:=f
       simp only[Prod.mk.injEq,List.mem_filter,Bool.not_eq_true',decide_eq_false_iff_not,not_and,Classical.not_not]
       constructor
       ·rintro (⟨h1,h2,h3⟩|⟨h1,h2⟩)
        ·exact⟨h1,h2,fun h=>absurd h h3⟩
        ·subst h2;exact⟨h1,hsub _ hx,fun _=>rfl⟩
       ·rintro ⟨h1,h2,h3⟩
        by_cases h4:f2∈rest
        ·exact .inr ⟨h1,h3 h4⟩
        ·exact .inl ⟨h1,h2,h4⟩
      ·have:=HLL.out
       simp only[ne_eq,decide_not]at this
       rw[List.length_append,List.length_singleton]
       omega
      ·have:=hwa.size;have:=HY.out.2.size;omega
     case measure=>
      obtain⟨hcm5,hch5,hbA5,hrg5,hlt5,hx,hrl,hsz5⟩:=HJ.out
      have hwa:=alc w5 (.cells #[.string ⟨c.head.1.toArray⟩,.string ⟨c.head.2.toArray⟩,.string ⟨x.toArray⟩] 144)
      have hnew:=(hrg5.keep hwa (fun _ _=>id) id).keep HY.out.2 (fun b e h=>by have:=HXS2.out b e;simp [this]at h) (fun h=>by simp at h)
      rw[hnew.left_eq,HQ.out.left_eq]
      exact hlt5
 ·have d2:(c.kind==2)=false:=by rw[hk];rfl
  have d3:(c.kind==3)=false:=by rw[hk];rfl
  have d4:(c.kind==4)=true:=by rw[hk];rfl
  have hsh:=isCred_short HM.out.2.1
  unfold credShort at hsh
  have HK:=hid hk
  clear hk
  by_cases e1:(c.b,who)∈F
  ·have q1:=pin g F c.b who (w.alloc (.cells #[.int .i64 c.kind,.string ⟨c.head.1.toArray⟩,.string ⟨c.head.2.toArray⟩,.string ⟨c.who.toArray⟩,.string ⟨c.b.1.toArray⟩,.string ⟨c.b.2.toArray⟩,.string ⟨c.c.1.toArray⟩,.string ⟨c.c.2.toArray⟩,.string ⟨c.w2.toArray⟩] 34)) HM.out.1 ⟨by omega,by omega⟩ HM.out.2.2.1
   simp only[e1,decide_true]at q1
   have HQ:=hid q1
   have HE1:=hid e1
   have HS:=hid hsh
   clear q1 e1 hsh
   go_enter Tryz.func106,Tryz.ntmps106
   go_wp2_with fail
   refine HQ.out.mono ?_
   rintro e w2 ⟨rfl,hc2⟩
   have hb2:=bE HA1.out.1 hc2 id
   obtain⟨b0,b1,b2,b3,b4,b5,b6,b7,b8⟩:=cred_at_blk hb2
   simp only[Nat.zero_add]at b0 b1 b2 b3 b4 b5 b6 b7 b8
   by_cases e2:(c.c,who)∈F
   ·have q2:=pin g F c.c who w2 (HM.out.1.quiet hc2) ⟨by have:=HS.out;omega,by have:=HS.out;omega⟩ HM.out.2.2.1
    simp only[e2,decide_true]at q2
    have HQ2:=hid q2
    have HE2:=hid e2
    have HC2:=hid hc2
    have HB2:=hid hb2
    clear q2 e2 hc2 HQ hb2 c0 c1 c2 c3 c4 c5 c6 c7 c8
    go_wp2_with fail
    refine HQ2.out.mono ?_
    rintro e w3 ⟨rfl,hc3⟩
    have hb3:=bE HB2.out hc3 id
    obtain⟨c0,c1,c2,c3,c4,c5,c6,c7,c8⟩:=cred_at_blk hb3
    simp only[Nat.zero_add]at c0 c1 c2 c3 c4 c5 c6 c7 c8
    have HC3:=hid (HC2.out.trans hc3 (fun _ _ h=>h))
    clear hb3 hc3 b0 b1 b2 b3 b4 b5 b6 b7 b8
    go_wp2
    go_ret
    refine⟨some ⟨w3.heap.size,0,none⟩,1,[(c.head,who)],rfl,?_,(HA1.out.2.trans HC3.out (fun _ _ h=>h)).alloc _,fun f=>?_,by simp⟩
    ·have hs1:=HA1.out.2.size
     have hs2:=HC3.out.size
     intro i hi
     have:i=0:=by simp at hi;omega
     subst this
     exact⟨_,0,rfl,⟨by omega,by simp⟩,fact_at_blk (f:=(c.head,who)) (heap_alloc_new w3 _)⟩
    ·have hk:=HK.out
     obtain⟨f1,f2⟩:=f
     rw[List.mem_singleton,Prod.mk.injEq]
     constructor
     ·rintro ⟨h1,h2⟩
      exact⟨h1,.inr (.inr ⟨hk,h2,HE1.out,HE2.out⟩)⟩
     ·rintro ⟨h1,h2⟩
      rcases h2 with ⟨k,_⟩|⟨k,_⟩|⟨_,h2,_⟩
      ·omega
      ·omega
      ·exact⟨h1,h2⟩
   ·have q2:=pin g F c.c who w2 (HM.out.1.quiet hc2) ⟨by have:=HS.out;omega,by have:=HS.out;omega⟩ HM.out.2.2.1
    simp only[e2,decide_false]at q2
    have HQ2:=hid q2
    have HE2:=hid e2
    have HC2:=hid hc2
    have HB2:=hid hb2
    clear q2 e2 hc2 HQ hb2 c0 c1 c2 c3 c4 c5 c6 c7 c8
    go_wp2_with fail
    refine HQ2.out.mono ?_
    rintro e w3 ⟨rfl,hc3⟩
    have HC3:=hid (HC2.out.trans hc3 (fun _ _ h=>h))
    clear hc3 b0 b1 b2 b3 b4 b5 b6 b7 b8
    go_wp2
    go_ret
    refine⟨none,0,[],rfl,FactsAt.nil _ _ _,HA1.out.2.trans HC3.out (fun _ _ h=>h),fun f=>⟨fun h=>(by cases h),fun h=>?_⟩,by simp⟩
    have hk:=HK.out
    rcases h.2 with ⟨k,_⟩|⟨k,_⟩|⟨_,_,_,h2⟩
    ·omega
    ·omega
    ·exact(HE2.out h2).elim
  ·have q1:=pin g F c.b who (w.alloc (.cells #[.int .i64 c.kind,.string ⟨c.head.1.toArray⟩,.string ⟨c.head.2.toArray⟩,.string ⟨c.who.toArray⟩,.string ⟨c.b.1.toArray⟩,.string ⟨c.b.2.toArray⟩,.string ⟨c.c.1.toArray⟩,.string ⟨c.c.2.toArray⟩,.string ⟨c.w2.toArray⟩] 34)) HM.out.1 ⟨by omega,by omega⟩ HM.out.2.2.1
   simp only[e1,decide_false]at q1
   have HQ:=hid q1
   have HE1:=hid e1
   clear q1 e1 hsh
   go_enter Tryz.func106,Tryz.ntmps106
   go_wp2_with fail
   refine HQ.out.mono ?_
   rintro e w2 ⟨rfl,hc2⟩
   have HC2:=hid hc2
   clear hc2 c0 c1 c2 c3 c4 c5 c6 c7 c8
   go_wp2
   go_ret
   refine⟨none,0,[],rfl,FactsAt.nil _ _ _,HA1.out.2.trans HC2.out (fun _ _ h=>h),fun f=>⟨fun h=>(by cases h),fun h=>?_⟩,by simp⟩
   have hk:=HK.out
   rcases h.2 with ⟨k,_⟩|⟨k,_⟩|⟨_,_,h2,_⟩
   ·omega
   ·omega
   ·exact(HE1.out h2).elim
end
section
open Go.RowKit
end
end Go.Proofs.YtkfinhpfdcjoeaaGreat
