/- Texts that the proof leans on, in one: NnIs, GgPlain, OpenB, RoleCells, CredOpen, KeyOpen2. -/
import Derived.Test.YtkfinhpfdcjoeaaGreatNa24
import Derived.Test.YtkfinhpfdcjoeaaGreatNa20
import Derived.Test.YtkfinhpfdcjoeaaGreatRows
import Derived.Test.YtkfinhpfdcjoeaaGreatNa1
import Derived.ProofKit
import Derived.OpenShut
import Derived.ShutString
import Derived.ChangeOld
import Derived.Deep.Slices
import Derived.Deep.Fields
import Derived.ChangeSame
import Derived.Test.YtkfinhpfdcjoeaaGreatNa11
/- Is, Both. -/
namespace Go.Proofs.YtkfinhpfdcjoeaaGreat
section
open Go.RowKit Go.Lib Go.Sort
theorem FmAt.more {D:Nat→Prop} {w:World} {b o:Nat} {f:FmB}:∀(k n:Nat),FmAt D w n b o f→FmAt D w (n+k) b o f
 | 0,_,h=>h
 | k+1,n,h=>by rw[Nat.add_succ];exact(FmAt.more k n h).up
theorem FmsAt.more {D:Nat→Prop} {w:World} {ao:Option Addr} {ls:List FmB} (k n:Nat) (h:FmsAt D w n ao ls):FmsAt D w (n+k) ao ls:=fun i hi=>by
 obtain⟨b,off,h1,h2,h3⟩:=h i hi
 exact⟨b,off,h1,h2,FmAt.more k n h3⟩
theorem fm_at_cells {D:Nat→Prop} {w:World} {n b o:Nat} {f:FmB} {ao:Option Addr} {cp:Nat} (hc:CellsF w b o (.mk f.op f.k f.r (.slice ao f.kids.length cp) [])) (hok:FmOk f) (hz:ao=none→cp=0) (hk:FmsAt D w n ao f.kids):FmAt D w (n+1) b o f:=
 ⟨hc.1,hc.2.1,hc.2.2.1,hc.2.2.2.1,hok,ao,cp,hc.2.2.2.2,hz,hk⟩
set_option maxRecDepth 100000 in
set_option maxHeartbeats 8000000 in
theorem pnBoth {D E:Nat→Prop} (f:FmB) (m:Nat) (ao:Option Addr) (cp:Nat) (g:FmB) (m2:Nat) (bo:Option Addr) (bp:Nat) (w:World) (h:FmsAt D w m ao f.kids) (hD:∀i,D i→i<w.heap.size) (hok:FmOk f) (hz:ao=none→cp=0) (h2:FmsAt E w m2 bo g.kids) (hE:∀i,E i→i<w.heap.size) (hok2:FmOk g) (hz2:bo=none→bp=0) (hN4:nodesF f+nodesF g≤3990) :
  Calls Tryz.prog 35 #[.agg #[.int .i64 f.op,.int .i64 f.k,.string ⟨f.r.1.toArray⟩,.string ⟨f.r.2.toArray⟩,.slice ao f.kids.length cp],.agg #[.int .i64 g.op,.int .i64 g.k,.string ⟨g.r.1.toArray⟩,.string ⟨g.r.2.toArray⟩,.slice bo g.kids.length bp]] w (OfPost (.mk 2 0 ([],[]) [f,g]) w):=by
 have k1:=(Chg.refl (fun _=>False) w).alloc (.cells #[.int .i64 f.op,.int .i64 f.k,.string ⟨f.r.1.toArray⟩,.string ⟨f.r.2.toArray⟩,.slice ao f.kids.length cp] 46)
 have k2:=k1.alloc (.cells #[.int .i64 g.op,.int .i64 g.k,.string ⟨g.r.1.toArray⟩,.string ⟨g.r.2.toArray⟩,.slice bo g.kids.length bp] 46)
 have k3:=k2.alloc (.cells #[.int .i64 0,.int .i64 0,.string ⟨#[]⟩,.string ⟨#[]⟩,.slice none 0 0] 46)
 have k4:=k3.alloc (.cells #[.int .i64 f.op,.int .i64 f.k,.string ⟨f.r.1.toArray⟩,.string ⟨f.r.2.toArray⟩,.slice ao f.kids.length cp,.int .i64 g.op,.int .i64 g.k,.string ⟨g.r.1.toArray⟩,.string ⟨g.r.2.toArray⟩,.slice bo g.kids.length bp] 46)
 have e1:(w.alloc (.cells #[.int .i64 f.op,.int .i64 f.k,.string ⟨f.r.1.toArray⟩,.string ⟨f.r.2.toArray⟩,.slice ao f.kids.length cp] 46)).heap.size=w.heap.size+1:=by simp
 have e2:((w.alloc (.cells #[.int .i64 f.op,.int .i64 f.k,.string ⟨f.r.1.toArray⟩,.string ⟨f.r.2.toArray⟩,.slice ao f.kids.length cp] 46)).alloc (.cells #[.int .i64 g.op,.int .i64 g.k,.string ⟨g.r.1.toArray⟩,.string ⟨g.r.2.toArray⟩,.slice bo g.kids.length bp] 46)).heap.size=w.heap.size+2:=by simp
 have e3:(((w.alloc (.cells #[.int .i64 f.op,.int .i64 f.k,.string ⟨f.r.1.toArray⟩,.string ⟨f.r.2.toArray⟩,.slice ao f.kids.length cp] 46)).alloc (.cells #[.int .i64 g.op,.int .i64 g.k,.string ⟨g.r.1.toArray⟩,.string ⟨g.r.2.toArray⟩,.slice bo g.kids.length bp] 46)).alloc (.cells #[.int .i64 0,.int .i64 0,.string ⟨#[]⟩,.string ⟨#[]⟩,.slice none 0 0] 46)).heap.size=w.heap.size+3:=by simp
 have e4:((((w.alloc (.cells #[.int .i64 f.op,.int .i64 f.k,.string ⟨f.r.1.toArray⟩,.string ⟨f.r.2.toArray⟩,.slice ao f.kids.length cp] 46)).alloc (.cells #[.int .i64 g.op,.int .i64 g.k,.string ⟨g.r.1.toArray⟩,.string ⟨g.r.2.toArray⟩,.slice bo g.kids.length bp] 46)).alloc (.cells #[.int .i64 0,.int .i64 0,.string ⟨#[]⟩,.string ⟨#[]⟩,.slice none 0 0] 46)).alloc (.cells #[.int .i64 f.op,.int .i64 f.k,.string ⟨f.r.1.toArray⟩,.string ⟨f.r.2.toArray⟩,.slice ao f.kids.length cp,.int .i64 g.op,.int .i64 g.k,.string ⟨g.r.1.toArray⟩,.string ⟨g.r.2.toArray⟩,.slice bo g.kids.length bp] 46)).heap.size=w.heap.size+4:=by simp
 have hfb:=bE (heap_alloc_new w (.cells #[.int .i64 f.op,.int .i64 f.k,.string ⟨f.r.1.toArray⟩,.string ⟨f.r.2.toArray⟩,.slice ao f.kids.length cp] 46)) (((Chg.refl (fun _=>False) (w.alloc (.cells #[.int .i64 f.op,.int .i64 f.k,.string ⟨f.r.1.toArray⟩,.string ⟨f.r.2.toArray⟩,.slice ao f.kids.length cp] 46))).alloc (.cells #[.int .i64 g.op,.int .i64 g.k,.string ⟨g.r.1.toArray⟩,.string ⟨g.r.2.toArray⟩,.slice bo g.kids.length bp] 46)).alloc (.cells #[.int .i64 0,.int .i64 0,.string ⟨#[]⟩,.string ⟨#[]⟩,.slice none 0 0] 46)) id
 have hgb:=bE (heap_alloc_new (w.alloc (.cells #[.int .i64 f.op,.int .i64 f.k,.string ⟨f.r.1.toArray⟩,.string ⟨f.r.2.toArray⟩,.slice ao f.kids.length cp] 46)) (.cells #[.int .i64 g.op,.int .i64 g.k,.string ⟨g.r.1.toArray⟩,.string ⟨g.r.2.toArray⟩,.slice bo g.kids.length bp] 46)) ((Chg.refl (fun _=>False) ((w.alloc (.cells #[.int .i64 f.op,.int .i64 f.k,.string ⟨f.r.1.toArray⟩,.string ⟨f.r.2.toArray⟩,.slice ao f.kids.length cp] 46)).alloc (.cells #[.int .i64 g.op,.int .i64 g.k,.string ⟨g.r.1.toArray⟩,.string ⟨g.r.2.toArray⟩,.slice bo g.kids.length bp] 46))).alloc (.cells #[.int .i64 0,.int .i64 0,.string ⟨#[]⟩,.string ⟨#[]⟩,.slice none 0 0] 46)) id
 have hzb:=bE (heap_alloc_new ((w.alloc (.cells #[.int .i64 f.op,.int .i64 f.k,.string ⟨f.r.1.toArray⟩,.string ⟨f.r.2.toArray⟩,.slice ao f.kids.length cp] 46)).alloc (.cells #[.int .i64 g.op,.int .i64 g.k,.string ⟨g.r.1.toArray⟩,.string ⟨g.r.2.toArray⟩,.slice bo g.kids.length bp] 46)) (.cells #[.int .i64 0,.int .i64 0,.string ⟨#[]⟩,.string ⟨#[]⟩,.slice none 0 0] 46)) ((Chg.refl (fun _=>False) (((w.alloc (.cells #[.int .i64 f.op,.int .i64 f.k,.string ⟨f.r.1.toArray⟩,.string ⟨f.r.2.toArray⟩,.slice ao f.kids.length cp] 46)).alloc (.cells #[.int .i64 g.op,.int .i64 g.k,.string ⟨g.r.1.toArray⟩,.string ⟨g.r.2.toArray⟩,.slice bo g.kids.length bp] 46)).alloc (.cells #[.int .i64 0,.int .i64 0,.string ⟨#[]⟩,.string ⟨#[]⟩,.slice none 0 0] 46))).alloc (.cells #[.int .i64 f.op,.int .i64 f.k,.string ⟨f.r.1.toArray⟩,.string ⟨f.r.2.toArray⟩,.slice ao f.kids.length cp,.int .i64 g.op,.int .i64 g.k,.string ⟨g.r.1.toArray⟩,.string ⟨g.r.2.toArray⟩,.slice bo g.kids.length bp] 46)) id
 have hkb:=heap_alloc_new (((w.alloc (.cells #[.int .i64 f.op,.int .i64 f.k,.string ⟨f.r.1.toArray⟩,.string ⟨f.r.2.toArray⟩,.slice ao f.kids.length cp] 46)).alloc (.cells #[.int .i64 g.op,.int .i64 g.k,.string ⟨g.r.1.toArray⟩,.string ⟨g.r.2.toArray⟩,.slice bo g.kids.length bp] 46)).alloc (.cells #[.int .i64 0,.int .i64 0,.string ⟨#[]⟩,.string ⟨#[]⟩,.slice none 0 0] 46)) (.cells #[.int .i64 f.op,.int .i64 f.k,.string ⟨f.r.1.toArray⟩,.string ⟨f.r.2.toArray⟩,.slice ao f.kids.length cp,.int .i64 g.op,.int .i64 g.k,.string ⟨g.r.1.toArray⟩,.string ⟨g.r.2.toArray⟩,.slice bo g.kids.length bp] 46)
 rw[e1]at hgb
 rw[e2]at hzb
 rw[e3]at hkb
 have s0:=bC hfb 0
 have s1:=bC hfb 1
 have s2:=bC hfb 2
 have s3:=bC hfb 3
 have s4:=bC hfb 4
 have t0:=bC hgb 0
 have t1:=bC hgb 1
 have t2:=bC hgb 2
 have t3:=bC hgb 3
 have t4:=bC hgb 4
 simp only[lA,lZ,lS]at s0 s1 s2 s3 s4 t0 t1 t2 t3 t4
 have hfms:FmsAt (fun i=>D i∨E i∨i=w.heap.size+3) ((((w.alloc (.cells #[.int .i64 f.op,.int .i64 f.k,.string ⟨f.r.1.toArray⟩,.string ⟨f.r.2.toArray⟩,.slice ao f.kids.length cp] 46)).alloc (.cells #[.int .i64 g.op,.int .i64 g.k,.string ⟨g.r.1.toArray⟩,.string ⟨g.r.2.toArray⟩,.slice bo g.kids.length bp] 46)).alloc (.cells #[.int .i64 0,.int .i64 0,.string ⟨#[]⟩,.string ⟨#[]⟩,.slice none 0 0] 46)).alloc (.cells #[.int .i64 f.op,.int .i64 f.k,.string ⟨f.r.1.toArray⟩,.string ⟨f.r.2.toArray⟩,.slice ao f.kids.length cp,.int .i64 g.op,.int .i64 g.k,.string ⟨g.r.1.toArray⟩,.string ⟨g.r.2.toArray⟩,.slice bo g.kids.length bp] 46)) (m+m2+1) (some ⟨w.heap.size+3,0,none⟩) [f,g]:=by
  intro i hi
  refine⟨_,_,rfl,.inr (.inr rfl),?_⟩
  rcases (show i=0∨i=1 by simp at hi;omega) with rfl|rfl
  ·exact fm_at_cells (f:=f) (ao:=ao) (cp:=cp) ⟨bC hkb 0,bC hkb 1,bC hkb 2,bC hkb 3,bC hkb 4⟩ hok hz (((h.keep k4 (fun _ _=>id)).mono (fun i h=>.inl h)).more m2 m)
  ·have:=(((h2.keep k4 (fun _ _=>id)).mono (E:=fun i=>D i∨E i∨i=w.heap.size+3) (fun i h=>.inr (.inl h))).more m m2)
   rw[Nat.add_comm m2 m]at this
   exact fm_at_cells (f:=g) (ao:=bo) (cp:=bp) ⟨bC hkb 5,bC hkb 6,bC hkb 7,bC hkb 8,bC hkb 9⟩ hok2 hz2 this
 have HO:=hid (pnOf (.mk 2 0 ([],[]) [f,g]) _ (some ⟨w.heap.size+3,0,none⟩) 2 _ hfms (fun i hi=>hi.elim (fun hi=>by have:=hD i hi;omega) (fun hi=>hi.elim (fun hi=>by have:=hE i hi;omega) (fun hi=>by omega))) ⟨by simp [FmB.r],by simp [FmB.r]⟩ (by simp [nodesF,nodesL];omega))
 have HX:=hid (aI hzb (aI k4 e4))
 clear h hD hok hz h2 hE hok2 hz2 hN4 k1 k2 k3 k4 e1 e2 e3 e4 hfb hgb hzb hkb hfms
 go_enter Tryz.func35,Tryz.ntmps35
 go_wp2_with fail
 refine HO.out.mono ?_
 rintro e w2 ⟨x,k,rfl,g1,g2,g3,hcase⟩
 obtain⟨xo,xc,x1,x5,x2,x3,x4⟩:=own_val g1
 have hfm:fmV x = .agg #[.int .i64 (eraseA x).op,.int .i64 (eraseA x).k,.string ⟨(eraseA x).r.1.toArray⟩,.string ⟨(eraseA x).r.2.toArray⟩,.slice xo (eraseA x).kids.length xc]:=by rw[←x1];rfl
 rw[hfm]
 have hz2:=bE HX.out.1 g3 id
 have hcw:=HX.out.2.1.trans g3 (fun _ _ h=>h)
 have hxl:=ownA_lt x g1
 have r0:=bC hz2 0
 have r1:=bC hz2 1
 have r2:=bC hz2 2
 have r3:=bC hz2 3
 have r4:=bC hz2 4
 have f0:=froz_blk hz2 0
 have f1:=froz_blk hz2 1
 have f2:=froz_blk hz2 2
 have f3:=froz_blk hz2 3
 have f4:=froz_blk hz2 4
 simp only[lA,lZ,lS]at r0 r1 r2 r3 r4
 have HZ:=hid (aI hz2 (aI hcw (aI g1 (aI g2 (aI hcase (aI hfm (show ∀b∈blksA x,w.heap.size+4≤b from fun b hb=>by have:=(hxl b hb).1;have:=HX.out.2.2;omega)))))))
 clear x1 x2 x3 x4 x5 hfm hz2 hcw g1 g2 g3 hcase hxl HO s0 s1 s2 s3 s4 t0 t1 t2 t3 t4
 go_wp2
 obtain⟨hend,hcz⟩:=store5n HZ.out.1 (.int .i64 (eraseA x).op) (.int .i64 (eraseA x).k) (.string ⟨(eraseA x).r.1.toArray⟩) (.string ⟨(eraseA x).r.2.toArray⟩) (.slice xo (eraseA x).kids.length xc)
 refine bodyPost_ret (results_fmn rfl _ _ (w.heap.size+2) rfl hend) rfl ?_
 have hlo:=HZ.out.2.2.2.2.2.2
 exact⟨x,k,by rw[HZ.out.2.2.2.2.2.1];rfl,ownA_keep hcz x (ownA_low (by have:=HX.out.2.2;omega) x HZ.out.2.2.1) (fun b hb e=>by have:=hlo b hb;have e:b=w.heap.size+2:=e;omega),HZ.out.2.2.2.1,HZ.out.2.1.trans hcz (fun i hi e=>by have:i=w.heap.size+2:=e;omega),HZ.out.2.2.2.2.1⟩
end
section
open Go.RowKit
/-- The Acks whose Closures have it, in order. -/
def locksB (p:PartyB) (c:CredB):List AkB:=p.acks.filter fun a=>decide (c∈a.clo)
theorem acksB_locks (p:PartyB) (c:CredB):acksB p c=(locksB p c).map (·.role):=rfl
theorem locks_in {p:PartyB} {c:CredB} {a:AkB} (h:a∈locksB p c):a∈p.acks∧c∈a.clo:=by
 obtain⟨h1,h2⟩:=List.mem_filter.1 h
 exact⟨h1,of_decide_eq_true h2⟩
theorem locks_len (p:PartyB) (c:CredB):(locksB p c).length≤p.acks.length:=List.length_filter_le ..
def locksTo (p:PartyB) (c:CredB) (k:Nat):List AkB:=(p.acks.take k).filter fun a=>decide (c∈a.clo)
theorem locksTo_yes {p:PartyB} {c:CredB} {k:Nat} (h:k<p.acks.length) (hc:c∈(p.acks[k]).clo):locksTo p c (k+1)=locksTo p c k++[p.acks[k]]:=by
 unfold locksTo
 rw[List.take_succ_eq_append_getElem h,List.filter_append]
 simp [hc]
theorem locksTo_no {p:PartyB} {c:CredB} {k:Nat} (h:k<p.acks.length) (hc:¬c∈(p.acks[k]).clo):locksTo p c (k+1)=locksTo p c k:=by
 unfold locksTo
 rw[List.take_succ_eq_append_getElem h,List.filter_append]
 simp [hc]
theorem locksTo_len (p:PartyB) (c:CredB) (k:Nat):(locksTo p c k).length≤p.acks.length:=
 Nat.le_trans (List.length_filter_le ..) (by rw[List.length_take];omega)
theorem locksTo_all (p:PartyB) (c:CredB):locksTo p c p.acks.length=locksB p c:=by unfold locksTo locksB;rw[List.take_length]
theorem FoldR.of_locks {c:CredB}:∀ {aks:List AkB} {k k':Int} {f f':FmB},FoldR c (aks.filter fun a=>decide (c∈a.clo)) k f k' f'→FoldR c aks k f k' f'
 | [],_,_,_,_,h=>h
 | a::aks,k,_,_,_,h=>by
  by_cases hc:c∈a.clo
  ·rw[List.filter_cons_of_pos (by simp [hc])]at h
   unfold FoldR at h ⊢
   by_cases hk:k=0∧c∈a.clo
   ·rw[if_pos hk]at h ⊢
    obtain⟨k1,f1,h1,h2⟩:=h
    exact⟨k1,f1,h1,FoldR.of_locks h2⟩
   ·rw[if_neg hk]at h ⊢
    exact FoldR.of_locks h
  ·rw[List.filter_cons_of_neg (by simp [hc])]at h
   unfold FoldR
   rw[if_neg (fun h=>hc h.2)]
   exact FoldR.of_locks h
/-- What is left of the locks tells what all of them do. -/
def FoldTo (c:CredB) (L:List AkB) (j:Nat) (k0:Int) (f0:FmB) (k:Int) (f:FmB):Prop:=∀k' f',FoldR c (L.drop j) k f k' f'→FoldR c L k0 f0 k' f'
theorem FoldTo.start (c:CredB) (L:List AkB) (k:Int) (f:FmB):FoldTo c L 0 k f k f:=fun _ _ h=>h
theorem FoldTo.step {c:CredB} {L:List AkB} {j:Nat} {k0 k1:Int} {f0 f f1:FmB} (h:FoldTo c L j k0 f0 0 f) (hj:j<L.length) (hc:c∈(L[j]).clo) (hn:NormR (.mk 2 0 ([],[]) [f,(L[j]).rel]) k1 f1):FoldTo c L (j+1) k0 f0 k1 f1:=fun k' f' h1=>by
 refine h k' f' ?_
 rw[List.drop_eq_getElem_cons hj]
 unfold FoldR
 rw[if_pos ⟨rfl,hc⟩]
 exact⟨k1,f1,hn,h1⟩
theorem FoldTo.bad {c:CredB} {L:List AkB} {j:Nat} {k0 k:Int} {f0 f:FmB} (h:FoldTo c L j k0 f0 k f) (hk:k≠0):FoldR c L k0 f0 k f:=h k f (FoldR.bad_of hk)
theorem FoldTo.done {c:CredB} {L:List AkB} {k0 k:Int} {f0 f:FmB} (h:FoldTo c L L.length k0 f0 k f):FoldR c L k0 f0 k f:=h k f (by rw[List.drop_length];exact⟨rfl,rfl⟩)
theorem guard_of {x:GdB} {p:PartyB} {k0 k:Int} {f0 f:FmB} (hn:NormR x.rel k0 f0) (h:FoldR x.cred (locksB p x.cred) k0 f0 k f):GuardR x p.acks k f:=⟨k0,f0,hn,h.of_locks⟩
theorem of_post {f:FmB} {w w':World} {e:Ending} (h:OfPost f w e w'):∃(x:AT) (k:Int),e = .returned (.tuple #[fmV x,.int .i64 k])∧OwnA w.heap.size w' x∧(blksA x).Nodup∧Chg (fun _=>False) w w'∧NormR f k (eraseA x):=by
 obtain⟨x,k,h1,h2,h3,h4,h5⟩:=h
 refine⟨x,k,h1,h2,h3,h4,?_⟩
 rcases h5 with ⟨a,b,d⟩|⟨a,y,b,⟨d,e,g⟩|⟨d,e,g⟩⟩
 ·exact .inl ⟨a,b,d⟩
 ·exact .inr ⟨a,y,b,.inl ⟨d,e,g⟩⟩
 ·exact .inr ⟨a,y,b,.inr ⟨d,e,g⟩⟩
/-- What a normal form has of nodes. -/
theorem NormR.few {f y:FmB} {k:Int} (h:NormR f k y):nodesF y≤64:=by
 rcases h with ⟨_,rfl,_⟩|⟨_,x,_,⟨h,rfl,_⟩|⟨_,rfl,_⟩⟩
 ·decide
 ·exact(isF_parts.1 h).1
 ·decide
theorem FoldR.few {c:CredB}:∀ {aks:List AkB} {k k':Int} {f f':FmB},FoldR c aks k f k' f'→nodesF f≤64→nodesF f'≤64
 | [],_,_,_,_,⟨_,h⟩,hf=>by rw[h];exact hf
 | a::aks,k,_,_,_,h,hf=>by
  unfold FoldR at h
  split at h
  ·obtain⟨k1,f1,h1,h2⟩:=h
   exact FoldR.few h2 h1.few
  ·exact FoldR.few h hf
theorem GuardR.few {x:GdB} {aks:List AkB} {k:Int} {y:FmB} (h:GuardR x aks k y):nodesF y≤64:=by
 obtain⟨k1,f1,n1,h⟩:=h
 exact h.few n1.few
theorem GuardR.det {x:GdB} {aks:List AkB} {k k':Int} {y y':FmB} (h:GuardR x aks k y) (h':GuardR x aks k' y'):k=k'∧y=y':=by
 obtain⟨k1,f1,n1,h⟩:=h
 obtain⟨k2,f2,n2,h'⟩:=h'
 obtain⟨rfl,rfl⟩:=n1.det n2
 exact h.det h'
theorem of_first {p:PartyB} {i:Nat} (hi:i<p.creds.length) {c:CredB} (hc:(p.creds[i]).cred=c) (hno:∀j (hj:j<i),(p.creds[j]).cred≠c) (k:Int) (y:FmB):OfR p c k y↔GuardR (p.creds[i]) p.acks k y:=by
 have e:p.creds.find? (fun x=>decide (x.cred=c))=some p.creds[i]:=by
  rw[List.find?_eq_some_iff_getElem]
  refine⟨decide_eq_true hc,i,hi,rfl,fun j hj=>?_⟩
  simp only[Bool.not_eq_true',decide_eq_false_iff_not]
  exact hno j hj
 unfold OfR
 rw[e]
theorem of_none {p:PartyB} {c:CredB} (hno:∀j (hj:j<p.creds.length),(p.creds[j]).cred≠c):OfR p c 42 noFm:=by
 have e:p.creds.find? (fun x=>decide (x.cred=c))=none:=by
  rw[List.find?_eq_none]
  intro x hx
  obtain⟨j,hj,rfl⟩:=List.getElem_of_mem hx
  simpa using hno j hj
 unfold OfR
 rw[e]
 exact⟨rfl,rfl⟩
/-- With each credential once, each is the first of its kind. -/
theorem of_self {p:PartyB} (hr:RisingG ltC (p.creds.map (·.cred))) {i:Nat} (hi:i<p.creds.length) (k:Int) (y:FmB):OfR p (p.creds[i]).cred k y↔GuardR (p.creds[i]) p.acks k y:=by
 refine of_first hi rfl (fun j hj e=>?_) k y
 have hnd:=hr.nodup ltC_ord
 have:=List.pairwise_iff_getElem.1 hnd j i (by rw[List.length_map];omega) (by rw[List.length_map];exact hi) hj
 rw[List.getElem_map,List.getElem_map]at this
 exact this e
/-- What is free among the first k. -/
def FreeTo (T:RoleB→Bool) (p:PartyB) (k:Nat) (fr:List CredB):Prop:=
 fr.length≤k∧∀c,c∈fr↔(∃i,∃h:i<p.creds.length,i<k∧(p.creds[i]).cred=c)∧∃y,OfR p c 0 y∧holdsF T y=true
/-- What was met among the first k. -/
def MetTo (p:PartyB) (k:Nat) (mt:List CredB):Prop:=mt.length≤k∧∀c,c∈mt↔∃i,∃h:i<p.creds.length,i<k∧(p.creds[i]).cred=c
theorem FreeTo.nil (T:RoleB→Bool) (p:PartyB):FreeTo T p 0 []:=⟨Nat.le_refl _,fun c=>⟨fun h=>(by cases h),fun h=>by obtain⟨⟨i,_,h,_⟩,_⟩:=h;omega⟩⟩
theorem MetTo.nil (p:PartyB):MetTo p 0 []:=⟨Nat.le_refl _,fun c=>⟨fun h=>(by cases h),fun h=>by obtain⟨i,_,h,_⟩:=h;omega⟩⟩
theorem upto_succ {p:PartyB} {k:Nat} (hk:k<p.creds.length) (c:CredB):(∃i,∃h:i<p.creds.length,i<k+1∧(p.creds[i]).cred=c)↔(∃i,∃h:i<p.creds.length,i<k∧(p.creds[i]).cred=c)∨(p.creds[k]).cred=c:=by
 constructor
 ·rintro ⟨i,h,h1,h2⟩
  by_cases e:i=k
  ·subst e;exact .inr h2
  ·exact .inl ⟨i,h,by omega,h2⟩
 ·rintro (⟨i,h,h1,h2⟩|h)
  ·exact⟨i,h,by omega,h2⟩
  ·exact⟨k,hk,by omega,h⟩
theorem MetTo.new {p:PartyB} {k:Nat} {mt:List CredB} (h:MetTo p k mt) (hk:k<p.creds.length):MetTo p (k+1) (mt++[(p.creds[k]).cred]):=by
 refine⟨by have:=h.1;simp;omega,fun c=>?_⟩
 rw[upto_succ hk,List.mem_append,h.2 c,List.mem_singleton,eq_comm (a:=c)]
theorem MetTo.old {p:PartyB} {k:Nat} {mt:List CredB} (h:MetTo p k mt) (hk:k<p.creds.length) (hm:(p.creds[k]).cred∈mt):MetTo p (k+1) mt:=by
 refine⟨by have:=h.1;omega,fun c=>?_⟩
 rw[upto_succ hk,h.2 c]
 constructor
 ·exact .inl
 ·rintro (h1|h1)
  ·exact h1
  ·rw[←h1];exact(h.2 _).1 hm
theorem FreeTo.old {T:RoleB→Bool} {p:PartyB} {k:Nat} {mt fr:List CredB} (hf:FreeTo T p k fr) (h:MetTo p k mt) (hk:k<p.creds.length) (hm:(p.creds[k]).cred∈mt):FreeTo T p (k+1) fr:=by
 refine⟨by have:=hf.1;omega,fun c=>?_⟩
 rw[hf.2 c,upto_succ hk]
 constructor
 ·rintro ⟨h1,h2⟩;exact⟨.inl h1,h2⟩
 ·rintro ⟨h1|h1,h2⟩
  ·exact⟨h1,h2⟩
  ·exact⟨by rw[←h1];exact(h.2 _).1 hm,h2⟩
theorem met_first {p:PartyB} {k:Nat} {mt:List CredB} (h:MetTo p k mt) (hk:k<p.creds.length) (hm:(p.creds[k]).cred∉mt) (e:Int) (y:FmB):OfR p (p.creds[k]).cred e y↔GuardR (p.creds[k]) p.acks e y:=
 of_first hk rfl (fun j hj e=>hm ((h.2 _).2 ⟨j,by omega,hj,e⟩)) e y
theorem FreeTo.yes {T:RoleB→Bool} {p:PartyB} {k:Nat} {fr:List CredB} (hf:FreeTo T p k fr) (hk:k<p.creds.length) {y:FmB} (hy:OfR p (p.creds[k]).cred 0 y) (hT:holdsF T y=true):FreeTo T p (k+1) (fr++[(p.creds[k]).cred]):=by
 refine⟨by have:=hf.1;simp;omega,fun c=>?_⟩
 rw[List.mem_append,hf.2 c,upto_succ hk,List.mem_singleton]
 constructor
 ·rintro (⟨h1,h2⟩|rfl)
  ·exact⟨.inl h1,h2⟩
  ·exact⟨.inr rfl,y,hy,hT⟩
 ·rintro ⟨h1|h1,h2⟩
  ·exact .inl ⟨h1,h2⟩
  ·exact .inr h1.symm
theorem FreeTo.no {T:RoleB→Bool} {p:PartyB} {k:Nat} {fr:List CredB} (hf:FreeTo T p k fr) (hk:k<p.creds.length) {e:Int} {y:FmB} (hy:OfR p (p.creds[k]).cred e y) (hT:¬(e=0∧holdsF T y=true)):FreeTo T p (k+1) fr:=by
 refine⟨by have:=hf.1;omega,fun c=>?_⟩
 rw[hf.2 c,upto_succ hk]
 constructor
 ·rintro ⟨h1,h2⟩;exact⟨.inl h1,h2⟩
 ·rintro ⟨h1|h1,y2,h2,h3⟩
  ·exact⟨h1,y2,h2,h3⟩
  ·rw[←h1]at h2
   obtain⟨rfl,rfl⟩:=hy.det h2
   exact absurd ⟨rfl,h3⟩ hT
theorem FreeTo.set {T:RoleB→Bool} {p:PartyB} {fr zs:List CredB} (hf:FreeTo T p p.creds.length fr) (hz:SetC fr zs):FreeR T p zs:=by
 refine⟨hz.1,fun c=>?_⟩
 rw[hz.2 c,hf.2 c]
 constructor
 ·rintro ⟨⟨⟨i,h,_,h1⟩,h2⟩,h3⟩
  exact⟨h3,⟨_,List.getElem_mem h,h1⟩,h2⟩
 ·rintro ⟨h1,⟨x,hx,h2⟩,h3⟩
  obtain⟨i,hi,rfl⟩:=List.getElem_of_mem hx
  exact⟨⟨⟨i,hi,hi,h2⟩,h3⟩,h1⟩
end
section
open Go.ChangeShapes Go.WideShapes Go.ChangeAt Go.RowKit Go.Deep
theorem Tryz.own:ownKnob Tryz.prog.godebug=none:=by kernel_rfl
theorem Tryz.laidOut:laidOutB Tryz.prog=true:=by kernel_rfl
theorem spot_none {w:World} {a:Addr} {v:Value} (h:w.cell? a=some v):a=⟨a.block,a.off,none⟩:=by
 obtain⟨b,o,s⟩:=a
 cases s with
 | none=>rfl
 | some x=>
  simp only[World.cell?]at h
  split at h
  ·simp at h
  ·cases h
theorem add_zero (a:Addr):a.add 0=a:=by
 unfold Addr.add
 simp
theorem wf_u8 {n:Int} (h:(Lit.int .u8 n).wf=true):0≤n∧n≤255:=by
 have hmin:IntKind.u8.min=0:=rfl
 have hmax:IntKind.u8.max=255:=rfl
 simp only[Lit.wf,Bool.and_eq_true,decide_eq_true_eq]at h
 omega
section
variable {H:Type} {enc:TypeId×Value→H} {w:World} {base:Nat} {held:Bool} {fuel:Nat}
theorem open_bytes {cs:List Value} {x:DataW H×List MemPlace} (h:DataW.trod enc Tryz.prog w base (fun _=>true) held fuel 41 cs=some x) :
  ∃(ao:Option Addr) (cap:Nat) (l:List UInt8),cs=[.slice ao l.length cap]∧l.length≤9223372036854775807∧BytesAt (fun k=>k<w.heap.size) w (.slice ao l.length cap) l:=by
 rcases open_ints Tryz.underlying41 Tryz.underlying5 (by kernel_rfl) h with ⟨rfl,_⟩|⟨a,len,cap,zs,rfl,_,hl,hm,hz,_,hcell,hwz⟩
 ·exact⟨none,0,[],rfl,by simp,BytesAt.nil _ _⟩
 ·simp only[if_true]at hz
  have hlen:((zs.take len).map fun n=>UInt8.ofNat n.toNat).length=len:=by simp;omega
  refine⟨some a,cap,(zs.take len).map fun n=>UInt8.ofNat n.toNat,by rw[hlen],by rw[hlen];unfold maxLen at hm;omega,?_⟩
  rw[hlen]
  by_cases h0:len=0
  ·subst h0
   exact .inl ⟨some a,cap,rfl,by simp,fun h=>by cases h⟩
  ·have h1:=hcell 0 (by omega)
   rw[add_zero]at h1
   have ha:=spot_none h1
   have hlt:=World.block_lt_of_cell? w _ h1
   refine .inr ⟨a.block,a.off,cap,by rw[hlen];exact congrArg (fun z=>Value.slice (some z) len cap) ha,by rw[hlen];exact hl,hm,hlt,fun i hi=>?_⟩
   rw[hlen]at hi
   have h2:=hcell i (by omega)
   rw[ha,add_off]at h2
   rw[h2]
   have hget:zs.getD i 0=zs[i]'(by omega):=by simp [List.getD,show i<zs.length by omega]
   have hb:=wf_u8 (hwz _ (List.getElem_mem (show i<zs.length by omega)))
   rw[hget]
   congr 2
   simp only[List.getElem_map,List.getElem_take]
   rw[ofNat_u8 _ (by omega)]
   omega
end
end
section
open Go.ChangeShapes Go.WideShapes Go.ChangeAt Go.RowKit Go.Deep
theorem choose_roles {α:Type} (n:Nat) (p:Nat→α→Prop) (h:∀i,i<n→∃x,p i x):∃l:List α,l.length=n∧∀i (hi:i<l.length),p i l[i]:=by
 induction n with
 | zero=>exact⟨[],rfl,fun i hi=>by simp at hi⟩
 | succ n ih=>
  obtain⟨l,hl,hp⟩:=ih (fun i hi=>h i (by omega))
  obtain⟨x,hx⟩:=h n (by omega)
  refine⟨l++[x],by simp [hl],fun i hi=>?_⟩
  by_cases hin:i<l.length
  ·rw[List.getElem_append_left hin]
   exact hp i hin
  ·have:i=n:=by simp [hl]at hi;omega
   subst this
   rw[List.getElem_append_right (by omega)]
   simpa [hl] using hx
section
variable {H:Type} {enc:TypeId×Value→H} {w:World} {base:Nat} {held:Bool} {fuel:Nat}
set_option maxRecDepth 100000 in
/-- Two cells that are read as a role. -/
theorem open_role_cells {spare:Nat→Bool} {cs:List Value} {x:DataW H×List MemPlace} (h:DataW.trod enc Tryz.prog w base spare held fuel 32 cs=some x) :
  ∃r:RoleB,cs=roleCells r∧r.1.length≤9223372036854775807∧r.2.length≤9223372036854775807∧1+r.1.length+r.2.length≤Rows.uptoBulk x.1:=by
 obtain⟨y0,y1,n,rfl,hl,h0,h1⟩:=trod_struct2 Tryz.underlying32 h
 have hc:Tryz.prog.cellsOf 32=2:=by kernel_rfl
 rw[hc]at hl
 match cs,hl with
 | [c0,c1],_=>
  have e0:DataW.trod enc Tryz.prog w base spare held n 9 [c0]=some y0:=h0
  have e1:DataW.trod enc Tryz.prog w base spare held n 9 [c1]=some y1:=h1
  obtain⟨s0,hs0,rfl,hm0⟩:=DataW.trod_string Tryz.underlying9 e0
  obtain⟨s1,hs1,rfl,hm1⟩:=DataW.trod_string Tryz.underlying9 e1
  simp only[List.cons.injEq,and_true]at hs0 hs1
  subst hs0
  subst hs1
  unfold maxLen at hm0 hm1
  refine⟨(s0.data.toList,s1.data.toList),rfl,hm0,hm1,?_⟩
  simp [Rows.uptoBulk,Rows.uptoBulkAll]
  omega
end
end
section
open Go.ChangeShapes Go.WideShapes Go.ChangeAt Go.RowKit Go.Deep
theorem cred_at_cells' {w:World} {g o:Nat} {c:CredB} (h:∀j,j<9→w.cell? ⟨g,o+j,none⟩=(credCells c)[j]?):CredAt w g o c:=
 ⟨h 0 (by omega),h 1 (by omega),h 2 (by omega),h 3 (by omega),h 4 (by omega),h 5 (by omega),h 6 (by omega),h 7 (by omega),h 8 (by omega)⟩
section
variable {H:Type} {enc:TypeId×Value→H} {w:World} {base:Nat} {held:Bool} {fuel:Nat}
set_option maxRecDepth 100000 in
/-- Nine cells that are read as a credential. -/
theorem open_cred_cells {spare:Nat→Bool} {cs:List Value} {x:DataW H×List MemPlace} (h:DataW.trod enc Tryz.prog w base spare held fuel 34 cs=some x) :
  ∃c:CredB,cs=credCells c∧credShort c 9223372036854775807∧sizeC c≤3*Rows.uptoBulk x.1:=by
 obtain⟨xs,n,_,rfl,hl,hlen,hf⟩:=DataW.trod_struct Tryz.underlying34 h
 have hc:Tryz.prog.cellsOf 34=9:=by kernel_rfl
 have hr:Tryz.prog.cellsOf 32=2:=by kernel_rfl
 rw[hc]at hl
 match cs,hl,xs,hlen with
 | [c0,c1,c2,c3,c4,c5,c6,c7,c8],_,[y0,y1,y2,y3,y4,y5],_=>
  have e0:DataW.trod enc Tryz.prog w base spare held n 3 [c0]=some y0:=hf 0 _ rfl
  have e1:DataW.trod enc Tryz.prog w base spare held n 32 [c1,c2]=some y1:=hf 1 _ rfl
  have e2:DataW.trod enc Tryz.prog w base spare held n 9 [c3]=some y2:=hf 2 _ rfl
  have e3:DataW.trod enc Tryz.prog w base spare held n 32 [c4,c5]=some y3:=hf 3 _ rfl
  have e4:DataW.trod enc Tryz.prog w base spare held n 32 [c6,c7]=some y4:=hf 4 _ rfl
  have e5:DataW.trod enc Tryz.prog w base spare held n 9 [c8]=some y5:=hf 5 _ rfl
  obtain⟨k,hk,rfl,_⟩:=DataW.trod_int Tryz.underlying3 e0
  obtain⟨hd,h1,a1,a2,a3⟩:=open_role_cells e1
  obtain⟨s2,hs2,rfl,hm2⟩:=DataW.trod_string Tryz.underlying9 e2
  obtain⟨b,h3,b1,b2,b3⟩:=open_role_cells e3
  obtain⟨c,h4,d1,d2,d3⟩:=open_role_cells e4
  obtain⟨s5,hs5,rfl,hm5⟩:=DataW.trod_string Tryz.underlying9 e5
  simp only[roleCells,List.cons.injEq,and_true]at hk h1 hs2 h3 h4 hs5
  obtain⟨h1a,h1b⟩:=h1
  obtain⟨h3a,h3b⟩:=h3
  obtain⟨h4a,h4b⟩:=h4
  subst hk h1a h1b hs2 h3a h3b h4a h4b hs5
  unfold maxLen at hm2 hm5
  refine⟨⟨k,hd,s2.data.toList,b,c,s5.data.toList⟩,rfl,⟨a1,a2,hm2,b1,b2,d1,d2,hm5⟩,?_⟩
  simp only[sizeC,Rows.uptoBulk,Rows.uptoBulkAll,List.map_cons,List.map_nil]
  omega
theorem bulk_creds (D:Nat→DataW H):∀(l:List CredB),(∀i (h:i<l.length),sizeC l[i]≤3*Rows.uptoBulk (D i))→totalC l≤3*Rows.uptoBulkAll ((List.range l.length).map D)
 | [],_=>Nat.zero_le _
 | x::l,h=>by
  have ih:=bulk_creds (fun i=>D (i+1)) l (fun i hi=>h (i+1) (by simp only[List.length_cons];omega))
  rw[List.length_cons,List.range_succ_eq_map,List.map_cons,List.map_map]
  simp only[totalC,Rows.uptoBulkAll]
  have h0:=h 0 (by simp)
  simp only[List.getElem_cons_zero]at h0
  have e:(List.range l.length).map (D∘Nat.succ)=(List.range l.length).map (fun i=>D (i+1)):=rfl
  rw[e]
  omega
set_option maxRecDepth 100000 in
/-- A list of credentials that came in. -/
theorem open_creds {cs:List Value} {x:DataW H×List MemPlace} (h:DataW.trod enc Tryz.prog w base (fun _=>true) held fuel 26 cs=some x) :
  ∃(ao:Option Addr) (cap:Nat) (ls:List CredB),cs=[.slice ao ls.length cap]∧CredsAt (fun k=>k<w.heap.size) w ao ls∧totalC ls≤3*Rows.uptoBulk x.1∧(ao=none→cap=0):=by
 rcases open_slice Tryz.underlying26 h with ⟨rfl,rfl⟩|⟨a,len,cap,m,n,D,Pl,rfl,_,hl,hm,hmm,rfl,hi⟩
 ·exact⟨none,0,[],rfl,CredsAt.nil _ _ _,Nat.zero_le _,fun _=>rfl⟩
 ·simp only[if_true]at hmm
  have hc9:Tryz.prog.cellsOf 34=9:=by kernel_rfl
  have each:∀i,i<len→∃y:CredB,(∃b off,some a=some ⟨b,off,none⟩∧b<w.heap.size∧CredAt w b (off+i*9) y∧credShort y 9223372036854775807)∧sizeC y≤3*Rows.uptoBulk (D i):=by
   intro i hil
   obtain⟨cs',hcs,ht⟩:=hi i (by omega)
   rw[hc9]at hcs
   obtain⟨r,hr,h1,h2⟩:=open_cred_cells ht
   subst hr
   obtain⟨_,_,hat⟩:=World.cells?_some hcs
   have hs:a=⟨a.block,a.off,none⟩:=by
    obtain⟨cs'',hcs'',ht''⟩:=hi 0 (by omega)
    rw[hc9]at hcs''
    obtain⟨r'',hr'',_⟩:=open_cred_cells ht''
    subst hr''
    obtain⟨_,_,hat''⟩:=World.cells?_some hcs''
    have q:=hat'' 0 (by decide)
    rw[Nat.zero_mul,add_zero,add_zero]at q
    exact spot_none q
   have hall:∀j,j<9→w.cell? ⟨a.block,a.off+i*9+j,none⟩=(credCells r)[j]?:=fun j hj=>by
    have q:=hat j (by simpa [credCells] using hj)
    rw[hs,add_off,add_off]at q
    exact q
   have hat9:=cred_at_cells' hall
   exact⟨r,⟨a.block,a.off,congrArg some hs,World.block_lt_of_cell? w ⟨a.block,a.off+i*9,none⟩ hat9.k0,hat9,h1⟩,h2⟩
  obtain⟨xs,hlen,hp⟩:=choose_roles len _ each
  subst hlen
  refine⟨some a,cap,xs,rfl,fun i hi=>(hp i hi).1,?_,fun e=>by cases e⟩
  have:=bulk_creds D xs (fun i hi=>(hp i hi).2)
  simp only[Rows.uptoBulk]
  omega
end
end
section
open Go.ChangeShapes Go.WideShapes Go.ChangeAt Go.RowKit Go.Deep
section
variable {H:Type} {enc:TypeId×Value→H} {w:World} {base:Nat} {held:Bool} {fuel:Nat}
theorem bulk_lits (k:IntKind):∀zs:List Int,Rows.uptoBulkAll (lits (H:=H) k zs)=zs.length
 | []=>rfl
 | z::r=>by
  have ih:=bulk_lits k r
  show Rows.uptoBulk (DataW.lit (.int k z))+Rows.uptoBulkAll (lits (H:=H) k r)=_
  rw[ih,List.length_cons]
  simp only[Rows.uptoBulk]
  omega
theorem open_bytesB {cs:List Value} {x:DataW H×List MemPlace} (h:DataW.trod enc Tryz.prog w base (fun _=>true) held fuel 41 cs=some x) :
  ∃(ao:Option Addr) (cap:Nat) (l:List UInt8),cs=[.slice ao l.length cap]∧l.length≤9223372036854775807∧BytesAt (fun k=>k<w.heap.size) w (.slice ao l.length cap) l∧l.length<Rows.uptoBulk x.1:=by
 obtain⟨ao,cap,l,h1,h2,h3⟩:=open_bytes h
 refine⟨ao,cap,l,h1,h2,h3,?_⟩
 rcases open_ints Tryz.underlying41 Tryz.underlying5 (by kernel_rfl) h with ⟨e,rfl⟩|⟨a,len,cap',zs,e,_,hl,_,hz,rfl,_⟩
 ·rw[h1]at e
  simp only[List.cons.injEq,and_true,Value.slice.injEq]at e
  rw[e.2.1]
  simp only[Rows.uptoBulk]
  omega
 ·rw[h1]at e
  simp only[List.cons.injEq,and_true,Value.slice.injEq]at e
  simp only[if_true]at hz
  rw[e.2.1]
  simp only[Rows.uptoBulk,bulk_lits,List.length_take,List.length_drop]
  omega
set_option maxRecDepth 100000 in
/-- Ten cells that are read as a signed credential. -/
theorem open_sign_cells {cs:List Value} {x:DataW H×List MemPlace} (h:DataW.trod enc Tryz.prog w base (fun _=>true) held fuel 43 cs=some x) :
  ∃(s:SignB) (ta:Option Addr) (cap:Nat),cs=credCells s.c++[.slice ta s.tag.length cap]∧BytesAt (fun i=>i<w.heap.size) w (.slice ta s.tag.length cap) s.tag∧credShort s.c 9223372036854775807∧s.tag.length≤9223372036854775807∧sizeS s≤3*Rows.uptoBulk x.1:=by
 obtain⟨xs,n,_,rfl,hl,hlen,hf⟩:=DataW.trod_struct Tryz.underlying43 h
 have hc:Tryz.prog.cellsOf 43=10:=by kernel_rfl
 have hr:Tryz.prog.cellsOf 34=9:=by kernel_rfl
 rw[hc]at hl
 match cs,hl,xs,hlen with
 | [c0,c1,c2,c3,c4,c5,c6,c7,c8,c9],_,[y0,y1],_=>
  have e0:DataW.trod enc Tryz.prog w base (fun _=>true) held n 34 [c0,c1,c2,c3,c4,c5,c6,c7,c8]=some y0:=hf 0 _ rfl
  have e1:DataW.trod enc Tryz.prog w base (fun _=>true) held n 41 [c9]=some y1:=hf 1 _ rfl
  obtain⟨c,hcc,hsh,hsz⟩:=open_cred_cells e0
  obtain⟨ta,cap,ys,hcs,hln,hby,hbu⟩:=open_bytesB e1
  simp only[credCells,List.cons.injEq,and_true]at hcc hcs
  obtain⟨rfl,rfl,rfl,rfl,rfl,rfl,rfl,rfl,rfl⟩:=hcc
  subst hcs
  refine⟨⟨c,ys⟩,ta,cap,rfl,hby,hsh,hln,?_⟩
  simp only[sizeS,Rows.uptoBulk,Rows.uptoBulkAll,List.map_cons,List.map_nil]
  omega
end
end
end Go.Proofs.YtkfinhpfdcjoeaaGreat
