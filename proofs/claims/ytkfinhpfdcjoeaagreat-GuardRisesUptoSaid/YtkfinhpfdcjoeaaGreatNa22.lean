/- All or Some, joined. -/
import Derived.Test.YtkfinhpfdcjoeaaGreatNa21
namespace Go.Proofs.YtkfinhpfdcjoeaaGreat
open Go.RowKit Go.Lib Go.Sort
/-- A formula is stored. -/
theorem store5n {w:World} {Z:Nat} {x0 x1 x2 x3 x4:Value} {T:TypeId} (hz:w.heap[Z]? = some (.cells #[x0,x1,x2,x3,x4] T (0,0))) (a0 a1 a2 a3 a4:Value) :
  (((((w.setCell ⟨Z,0,none⟩ a0).setCell ⟨Z,1,none⟩ a1).setCell ⟨Z,2,none⟩ a2).setCell ⟨Z,3,none⟩ a3).setCell ⟨Z,4,none⟩ a4).heap[Z]? = some (.cells #[a0,a1,a2,a3,a4] T (0,0))∧
  Chg (· = Z) w (((((w.setCell ⟨Z,0,none⟩ a0).setCell ⟨Z,1,none⟩ a1).setCell ⟨Z,2,none⟩ a2).setCell ⟨Z,3,none⟩ a3).setCell ⟨Z,4,none⟩ a4):=by
 refine⟨?_,((((setCell_chg w Z 0 a0).trans (setCell_chg _ Z 1 a1) (fun _ _ h=>h)).trans (setCell_chg _ Z 2 a2) (fun _ _ h=>h)).trans (setCell_chg _ Z 3 a3) (fun _ _ h=>h)).trans (setCell_chg _ Z 4 a4) (fun _ _ h=>h)⟩
 have h0:=set_blk hz 0 a0
 have h1:=set_blk h0 1 a1
 have h2:=set_blk h1 2 a2
 have h3:=set_blk h2 3 a3
 have h4:=set_blk h3 4 a4
 simpa using h4
theorem OwnRw.cells {B:Nat} {w:World} {ao:Option Addr} {n cp:Nat} {ks:List AT} (h:OwnRw B w (.slice ao n cp) ks) (hn:n=ks.length) {j:Nat} (hj:j<ks.length):∃g,ao=some ⟨g,0,none⟩∧g<w.heap.size∧CellsF w g (j*5) ks[j]:=by
 subst hn
 rcases h.row.2 with ⟨he,h0⟩|⟨g,cap',cur,he,hg,hh,h1,h2,h3,h4⟩
 ·omega
 ·cases he
  have:=h.hold.1.fm (j:=j) (by simpa using hj)
  refine⟨g,rfl,lt_blk hh,?_⟩
  simpa [hj] using this
theorem blksL_app (a b:List AT):blksL (a++b)=blksL a++blksL b:=by rw[blksL_flat,blksL_flat,blksL_flat,List.flatMap_append]
theorem blksL_one (t:AT):blksL [t]=blksA t:=by rw[blksL,blksL,List.append_nil]
theorem flat_takeN (op:Int) (ks:List FmB) (j:Nat) (h:j<ks.length):flatN op (ks.take (j+1))=flatN op (ks.take j)++(if ks[j].op=op then ks[j].kids else [ks[j]]):=by
 unfold flatN
 rw[List.take_succ_eq_append_getElem h,List.flatMap_append]
 simp
theorem eraseA_op (t:AT):(eraseA t).op=t.op:=by rw[eraseA_eq];rfl
theorem eraseA_kids (t:AT):(eraseA t).kids=t.kids.map eraseA:=by rw[eraseA_eq,←eraseL_map];rfl
/-- Within the loop over Kids, behind the first j: those that are joined, in a row of their own. -/
structure JoinIn (B:Nat) (w:World) (op:Int) (ks:List AT) (j:Nat) (v:Value) (ls:List AT) (wr:World):Prop where
 row:wr.ownsRow (w.heap.size+1) 46 5 v ls.length (rowA ls)
 own:OwnL B w ls
 sub:(blksL ls).Sublist (blksL (ks.take j))
 eq:ls.map eraseA=flatN op ((ks.take j).map eraseA)
 no:∀k∈(ks.take j).map eraseA,k.op≠op→isC k=false
 z:wr.heap[w.heap.size]? = some (.cells #[.int .i64 0,.int .i64 0,.string ⟨#[]⟩,.string ⟨#[]⟩,.slice none 0 0] 46 (0,0))
 chg:Chg (fun _=>False) w wr
theorem JoinIn.start (B:Nat) (w:World) (op:Int) (ks:List AT):JoinIn B w op ks 0 (.slice none 0 0) [] (w.alloc (.cells #[.int .i64 0,.int .i64 0,.string ⟨#[]⟩,.string ⟨#[]⟩,.slice none 0 0] 46)):=
 ⟨World.ownsRow_nil _ _ _ _,trivial,by simp [blksL],rfl,fun _ h=>(by cases h),heap_alloc_new w _,(Chg.refl _ w).alloc _⟩
theorem JoinIn.keep {B:Nat} {w:World} {op:Int} {ks:List AT} {j:Nat} {v:Value} {ls:List AT} {wr w1:World} (h:JoinIn B w op ks j v ls wr) (hc:Chg (fun _=>False) wr w1):JoinIn B w op ks j v ls w1:=
 ⟨ownsRow_keep h.row hc (fun _ _=>id),h.own,h.sub,h.eq,h.no,bE h.z hc id,h.chg.trans hc (fun _ _ h=>h)⟩
theorem JoinIn.step {B:Nat} {w:World} {op:Int} {ks:List AT} {j:Nat} {v v':Value} {ls us:List AT} {w1 w':World} (h:JoinIn B w op ks j v ls w1) (hj:j<ks.length) (hus:OwnL B w us) (hsub:(blksL us).Sublist (blksA ks[j]))
  (heq:us.map eraseA=if (eraseA ks[j]).op=op then (eraseA ks[j]).kids else [eraseA ks[j]]) (hno:(eraseA ks[j]).op≠op→isC (eraseA ks[j])=false)
  (hrow:w'.ownsRow (w.heap.size+1) 46 5 v' (ls++us).length (rowA (ls++us))) (hc:Chg (fun k=>v.ownBlock=some k) w1 w'):JoinIn B w op ks (j+1) v' (ls++us) w':=by
 have e1:ks.take (j+1)=ks.take j++[ks[j]]:=List.take_succ_eq_append_getElem hj
 have hv:∀k,v.ownBlock=some k→w.heap.size+1≤k:=fun k hk=>(h.row.lt k hk).1
 refine⟨hrow,(ownL_all _ _ _).2 fun t ht=>(List.mem_append.1 ht).elim ((ownL_all _ _ _).1 h.own t) ((ownL_all _ _ _).1 hus t),?_,?_,?_,bE h.z hc (fun e=>by have:=hv _ e;omega),h.chg.trans hc (fun i hi e=>by have:=hv _ e;omega)⟩
 ·rw[e1,blksL_app,blksL_app,blksL_one]
  exact h.sub.append hsub
 ·have hj2:j<(ks.map eraseA).length:=by simpa using hj
  have:=flat_takeN op (ks.map eraseA) j hj2
  rw[List.map_append,h.eq,heq,List.map_take,List.map_take,this]
  simp
 ·intro k hk
  rw[e1,List.map_append,List.mem_append]at hk
  rcases hk with hk|hk
  ·exact h.no k hk
  ·have:k=eraseA ks[j]:=by simpa using hk
   subst this
   exact hno
theorem JoinIn.nodes {B:Nat} {w:World} {op:Int} {ks:List AT} {j:Nat} {v:Value} {ls:List AT} {wr:World} (h:JoinIn B w op ks j v ls wr):nodesL (ls.map eraseA)≤nodesL (eraseL ks):=by
 have h1:=nodes_flat op ((ks.take j).map eraseA)
 have h2:=nodesL_take (ks.map eraseA) j
 rw[h.eq,eraseL_map]
 rw[←List.map_take]at h2
 omega
theorem JoinIn.rw {B:Nat} {w:World} {op:Int} {ks:List AT} {j:Nat} {v:Value} {ls:List AT} {wr:World} (h:JoinIn B w op ks j v ls wr) (hB:B≤w.heap.size) (hnd:(blksL ks).Nodup) (_:OwnL B w ks):OwnRw B wr v ls:=by
 have h1:=(blksL_sub (List.take_sublist j ks))
 refine⟨ownsRow_lowK h.row (by omega),ownL_keep h.chg h.own (fun _ _=>id),List.nodup_append.2 ⟨by cases v.ownBlock <;> simp,(h.sub.trans h1).nodup hnd,fun a ha b hb e=>?_⟩⟩
 subst e
 have:=(h.row.lt a (by simpa using ha)).1
 have:=(ownL_lt h.own a hb).2
 omega
/-- What a function hands back that brings formulas into shape. -/
def ShapePost (B:Nat) (w:World) (bs:List Nat) (R:FmB→Prop) (e:Ending) (w':World):Prop:=
 ∃x:AT,e = .returned (fmV x)∧OwnA B w' x∧(blksA x).Nodup∧(∀b∈blksA x,b∈bs∨w.heap.size≤b)∧R (eraseA x)∧Chg (fun _=>False) w w'
theorem mem_len1 {α:Type} {l:List α} (h:1=l.length):∃x,l=[x]:=List.length_eq_one_iff.1 h.symm
set_option maxRecDepth 100000 in
set_option maxHeartbeats 8000000 in
theorem pjoined {B:Nat} (op:Int) (hop:op=2∨op=3) (ao:Option Addr) (n cp:Nat) (ks:List AT) (w:World) (hn:n=ks.length) (h:OwnRw B w (.slice ao n cp) ks) (hB:B≤w.heap.size) (hN:nodesL (eraseL ks)≤4000) :
  Calls Tryz.prog 85 #[.int .i64 op,.slice ao n cp] w (ShapePost B w (blksL ks) (JoinR op (ks.map eraseA))):=by
 have H:=hid (aI hn (aI h (aI hB hN)))
 have hnb:n<4611686018427387904:=(by have:=nodesL_len (eraseL ks);rw[eraseL_len]at this;omega)
 clear h hB hN hn
 go_enter Tryz.func85,Tryz.ntmps85
 go_wp2
 go_loopw [5,10] (fun v i wr=>∃(j:Nat) (ls:List AT) (lo:Option Addr) (ln lc:Nat),j≤n∧i = .int .i64 j∧v = .slice lo ln lc∧Hid (ln=ls.length∧JoinIn B w op ks j (.slice lo ln lc) ls wr)) (fun _ i _=>n-(intOf i).toNat)
 case atStart=>exact⟨0,[],none,0,0,Nat.zero_le _,rfl,rfl,hid ⟨rfl,JoinIn.start B w op ks⟩⟩
 case round=>
  obtain⟨j,ls,lo,ln,lc,hj,rfl,rfl,hrel⟩:=hrel
  by_cases hlt:j<n
  ·have hjk:j<ks.length:=by rw[←H.out.1];exact hlt
   obtain⟨g,rfl,hgl,hcl⟩:=H.out.2.1.cells H.out.1 hjk
   have hcl1:=hcl.keep hrel.out.2.chg id
   have hox:=(ownL_all _ _ _).1 H.out.2.1.own _ (List.getElem_mem hjk)
   have hmx:eraseA ks[j]∈ks.map eraseA:=List.mem_map.2 ⟨_,List.getElem_mem hjk,rfl⟩
   have hbx:∀b∈blksA ks[j],b∈blksL ks:=fun b hb=>by rw[blksL_flat];exact List.mem_flatMap.2 ⟨_,List.getElem_mem hjk,hb⟩
   have hndx:(blksA ks[j]).Nodup:=by
    have:=(blksL_sub (List.singleton_sublist.2 (List.getElem_mem hjk))).nodup (List.nodup_append.1 H.out.2.1.nd).2.1
    rwa [blksL_one]at this
   have hST:=fun(v':Value) (us:List AT) (w1 w':World) (h1:Chg (fun _=>False) wr w1) a b c d e f=>(hrel.out.2.keep h1).step (v':=v') (us:=us) (w':=w') hjk a b c d e f
   have hnl:ls.length≤4000:=by
    have h1:=hrel.out.2.nodes
    have h2:=nodesL_len (ls.map eraseA)
    rw[List.length_map]at h2
    have:=H.out.2.2.2
    omega
   have hnk:nodesF (eraseA ks[j])≤4000:=by
    have:=nodesL_mem hmx
    rw[←eraseL_map]at this
    have:=H.out.2.2.2
    omega
   have HN2:=hid (aI hlt hjk)
   generalize ks[j]=x at *
   obtain⟨xo,xc,hv,_⟩:=own_fms hox
   have hkn:x.kids.length≤4000:=by
    have:=nodesL_len (eraseA x).kids
    have:=nodesF_eq (eraseA x)
    rw[eraseA_kids,List.length_map]at *
    omega
   obtain⟨xop,xk,xr,xv,xkids⟩:=x
   simp only[AT.v,AT.kids]at hv hkn
   obtain⟨xn,hxn⟩:∃xn,xn=xkids.length:=⟨_,rfl⟩
   rw[←hxn]at hv
   subst hv
   obtain⟨a0,a1,a2,a3,a4⟩:=hcl1
   simp only[AT.op,AT.k,AT.r,AT.v]at a0 a1 a2 a3 a4
   have hcA:=alc wr (.cells #[.int .i64 xop,.int .i64 xk,.string ⟨xr.1.toArray⟩,.string ⟨xr.2.toArray⟩,.slice xo xn xc] 46)
   have hyb:=heap_alloc_new wr (.cells #[.int .i64 xop,.int .i64 xk,.string ⟨xr.1.toArray⟩,.string ⟨xr.2.toArray⟩,.slice xo xn xc] 46)
   by_cases heq:xop=op
   ·subst heq
    have hsz1:wr.heap.size≤(wr.alloc (.cells #[.int .i64 xop,.int .i64 xk,.string ⟨xr.1.toArray⟩,.string ⟨xr.2.toArray⟩,.slice xo xn xc] 46)).heap.size:=hcA.size
    have hwz:=lt_blk hrel.out.2.z
    have hsrc:=kids_src (ownA_keep (hrel.out.2.chg.trans hcA (fun _ _ h=>h)) _ hox (fun _ _=>id))
    have hone:=rowA_one (w:=w) (us:=xkids) (B:=B) (by rw[ownA_eq]at hox;exact hox.2.2)
    simp only[AT.v,AT.kids]at hsrc
    rw[←hxn]at hsrc
    obtain⟨v',w5,hap,hrow5,hc5⟩:=runKids 44 (hrel.out.2.keep hcA).row (.slice xo xn xc) (by rw[←hxn];exact hsrc) hone (by omega) (by omega)
    have hj5:=hST v' xkids _ w5 hcA (by rw[ownA_eq]at hox;exact hox.2.2) (by rw[blksA_eq];exact List.sublist_append_right _ _) (by rw[if_pos (by rw[eraseA_op];rfl),eraseA_kids];rfl) (fun e=>absurd (by rw[eraseA_op];rfl) e) hrow5 hc5
    obtain⟨lo5,lc5,hv5,_⟩:=rowV_shape hrow5
    subst hv5
    obtain⟨ln5,hln5⟩:∃ln5,ln5=(ls++xkids).length:=⟨_,rfl⟩
    rw[←hln5]at hap hj5
    have y0:=bC hyb 0
    have y4:=bC hyb 4
    simp only[lA,lZ,lS]at y0 y4
    have HEND:=hid (aI hln5 hj5)
    clear hcl hox hmx hbx hndx hST hnl hnk hkn hsz1 hwz hsrc hone hrow5 hc5 hj5 hln5 hrel hyb hcA hj hjk hxn
    go_wp2_with (at_builtin;refine wpList_append_runb rfl (.tmp 23) (.tmp 25) 44 rfl rfl rfl hap ?_)
    clear hap y0 y4 a0 a1 a2 a3 a4
    go_wp2
    go_roundw
    case rel=>exact⟨j+1,_,lo5,ln5,lc5,hlt,by go_num,rfl,HEND⟩
    case measure=>simp [intOf];omega
   ·have zop:(xop==op)=false:=by simpa using heq
    have HCI:=hid (pisConst xop xk xr xo xn xc (wr.alloc (.cells #[.int .i64 xop,.int .i64 xk,.string ⟨xr.1.toArray⟩,.string ⟨xr.2.toArray⟩,.slice xo xn xc] 46)))
    have hci:(decide (xop≠1)&&decide (xn=0))=isC (eraseA (.mk xop xk xr (.slice xo xn xc) xkids)):=by
     unfold isC
     rw[eraseA_op,eraseA_kids,hxn,Bool.eq_iff_iff]
     simp [AT.op,AT.kids]
    rw[hci]at HCI
    have y0:=bC hyb 0
    have y1:=bC hyb 1
    have y2:=bC hyb 2
    have y3:=bC hyb 3
    have y4:=bC hyb 4
    simp only[lA,lZ,lS]at y0 y1 y2 y3 y4
    have hhe:isC (eraseA (.mk xop xk xr (.slice xo xn xc) xkids))=true→JoinR op (ks.map eraseA) (eraseA (.mk xop xk xr (.slice xo xn xc) xkids)):=fun e=>.inl ⟨_,hmx,by rw[eraseA_op];exact heq,e,rfl⟩
    generalize hbc:isC (eraseA (.mk xop xk xr (.slice xo xn xc) xkids))=bc at *
    have HX:=hid (aI hrel.out (aI hcA (aI hox (aI hbx (aI hndx (aI hyb (aI hnl hxn)))))))
    have HST:=hid hST
    have HE:=hid hhe
    have HB:=hid hbc
    clear hST hcl hox hmx hbx hndx hnl hnk hkn hrel hcA hyb hhe hci hbc hxn
    go_wp2_with fail
    refine HCI.out.mono ?_
    rintro e w2 ⟨rfl,hc2⟩
    have hyb:=HX.out.2.2.2.2.2.1
    have hyb2:=bE hyb hc2 id
    have y0:=bC hyb2 0
    have y1:=bC hyb2 1
    have y2:=bC hyb2 2
    have y3:=bC hyb2 3
    have y4:=bC hyb2 4
    simp only[lA,lZ,lS]at y0 y1 y2 y3 y4
    have hcB:=HX.out.2.1.trans hc2 (fun _ _ h=>h)
    have hj2:=HX.out.1.2.keep hcB
    cases bc with
    | true=>
     have r0:=bC hj2.z 0
     have r1:=bC hj2.z 1
     have r2:=bC hj2.z 2
     have r3:=bC hj2.z 3
     have r4:=bC hj2.z 4
     have g0:=froz_blk hj2.z 0
     have g1:=froz_blk hj2.z 1
     have g2:=froz_blk hj2.z 2
     have g3:=froz_blk hj2.z 3
     have g4:=froz_blk hj2.z 4
     simp only[lA,lZ,lS]at r0 r1 r2 r3 r4
     have HJ:=hid hj2
     clear hj2 hyb hyb2 hc2 hcB HCI a0 a1 a2 a3 a4
     go_wp2
     obtain⟨hend,hcz⟩:=store5n HJ.out.z (.int .i64 xop) (.int .i64 xk) (.string ⟨xr.1.toArray⟩) (.string ⟨xr.2.toArray⟩) (.slice xo xn xc)
     refine bodyPost_ret (results_cell_row (P:=Tryz.prog) rfl _ _ w.heap.size 46 _ (0,0) _ rfl hend Tryz.underlying46 rfl (by kernel_rfl)) rfl ?_
     have hcz2:=HJ.out.chg.trans hcz (fun i hi e=>by have:i=w.heap.size:=e;omega)
     exact⟨_,rfl,ownA_keep hcz2 _ HX.out.2.2.1 (fun _ _=>id),HX.out.2.2.2.2.1,fun b hb=>.inl (HX.out.2.2.2.1 b hb),(HE.out (by first|rfl|trivial)),hcz2⟩
    | false=>
     have hcC:=alc w2 (.cells #[.int .i64 xop,.int .i64 xk,.string ⟨xr.1.toArray⟩,.string ⟨xr.2.toArray⟩,.slice xo xn xc] 46)
     have hnb:=heap_alloc_new w2 (.cells #[.int .i64 xop,.int .i64 xk,.string ⟨xr.1.toArray⟩,.string ⟨xr.2.toArray⟩,.slice xo xn xc] 46)
     have hwz:=lt_blk hj2.z
     have hwz2:=hcC.size
     have hnl:=HX.out.2.2.2.2.2.2.1
     have hol:OwnL B w [.mk xop xk xr (.slice xo xn xc) xkids]:=⟨HX.out.2.2.1,trivial⟩
     obtain⟨v',w5,hap,hrow5,hc5⟩:=runKids 44 (us:=[.mk xop xk xr (.slice xo xn xc) xkids]) (hj2.keep hcC).row (.slice (some ⟨w2.heap.size,0,none⟩) 1 1) (.inr ⟨_,1,rfl,fun i u hi=>by
      rw[add_off,Nat.zero_add,bC hnb]
      simpa [rowA,cellsA,AT.op,AT.k,AT.r,AT.v] using hi⟩) (rowA_one hol) (by simp;omega) (by omega)
     have hj5:=HST.out v' [.mk xop xk xr (.slice xo xn xc) xkids] _ w5 (hcB.trans hcC (fun _ _ h=>h)) hol (by rw[blksL_one];exact List.Sublist.refl _) (by rw[if_neg (by rw[eraseA_op];exact heq)];rfl) (fun _=>by first|rfl|exact HB.out) hrow5 hc5
     obtain⟨lo5,lc5,hv5,_⟩:=rowV_shape hrow5
     subst hv5
     obtain⟨ln5,hln5⟩:∃ln5,ln5=(ls++[AT.mk xop xk xr (.slice xo xn xc) xkids]).length:=⟨_,rfl⟩
     rw[←hln5]at hap hj5
     have HEND:=hid (aI hln5 hj5)
     clear hj2 hyb hyb2 hc2 hcB HCI a0 a1 a2 a3 a4 hcC hnb hwz hwz2 hnl hol hrow5 hc5 hj5 hln5 HST HX HE
     go_wp2_with (at_builtin;refine wpList_append_runb rfl (.tmp 14) (.tmp 16) 44 rfl rfl rfl hap ?_)
     clear hap
     go_wp2
     go_roundw
     case rel=>exact⟨j+1,_,lo5,ln5,lc5,HN2.out.1,by go_num,rfl,HEND⟩
     case measure=>simp [intOf];omega
  ·have hje:j=n:=by omega
   subst hje
   obtain⟨hln,hji⟩:=hrel.out
   subst hln
   have hrw:=hji.rw H.out.2.2.1 (List.nodup_append.1 H.out.2.1.nd).2.1 H.out.2.1.own
   have hnodes:=hji.nodes
   have hN4:=H.out.2.2.2
   have hNs:∀t∈ls,nodesF (eraseA t)≤4000:=fun t ht=>by
    have:=nodesL_mem (List.mem_map.2 ⟨t,ht,rfl⟩:eraseA t∈ls.map eraseA)
    omega
   have hll:ls.length≤4000:=by
    have h2:=nodesL_len (ls.map eraseA)
    rw[List.length_map]at h2
    omega
   have HS:=hid (psort_fm hrw (fun t ht=>Nat.le_trans (hNs t ht) (by omega)) (by omega))
   have HX:=hid (aI hji (aI hNs (aI hll hrw)))
   clear hrel hji hrw hnodes hN4 hNs hll hj
   go_wp2_with fail
   refine HS.out.mono ?_
   rintro e w2 ⟨rfl,⟨us,hperm,hso,hrw2⟩,hc2⟩
   have hul:us.length=ls.length:=hperm.length_eq
   have hz2:=bE HX.out.1.z hc2 (fun e=>by have:=(HX.out.1.row.lt _ e).1;omega)
   have hcmp:=pcompact_fm hrw2 (fun t ht=>Nat.le_trans (HX.out.2.1 t (hperm.mem_iff.1 ht)) (by omega)) (by have:=HX.out.2.2.1;omega)
   rw[hul]at hcmp
   have HC:=hid hcmp
   have HY:=hid (aI hperm (aI hso (aI hz2 (HX.out.1.chg.trans hc2 (fun i hi e=>by have:=(HX.out.1.row.lt _ e).1;omega)))))
   clear hperm hso hrw2 hc2 hul hz2 hcmp HS
   go_wp2_with fail
   refine HC.out.mono ?_
   rintro e w3 ⟨⟨us2,c2,rfl,he2,hsub2,hrw3⟩,hc3⟩
   have hlo:∀k,Value.ownBlock (.slice lo ls.length lc)=some k→w.heap.size+1≤k:=fun k hk=>(HX.out.1.row.lt k hk).1
   have hz3:=bE HY.out.2.2.1 hc3 (fun e=>by have:=hlo _ e;omega)
   have hcw3:=HY.out.2.2.2.trans hc3 (fun i hi e=>by have:=hlo _ e;omega)
   have hjr:JoinR op (ks.map eraseA) (oneN op (us2.map eraseA)):=.inr ⟨by
     have:=HX.out.1.no
     rw[H.out.1,List.take_length]at this
     exact this,us.map eraseA,by
     have h1:=HY.out.1.map eraseA
     have h2:=HX.out.1.eq
     rw[H.out.1,List.take_length]at h2
     rw[h2]at h1
     exact h1,HY.out.2.1,by rw[he2]⟩
   have hbl:∀b∈blksL us2,b∈blksL ks:=fun b hb=>by
    have h1:=(blksL_sub hsub2).subset hb
    rw[blksL_flat]at h1
    obtain⟨t,ht,h1⟩:=List.mem_flatMap.1 h1
    have h2:b∈blksL ls:=by rw[blksL_flat];exact List.mem_flatMap.2 ⟨t,HY.out.1.mem_iff.1 ht,h1⟩
    exact(blksL_sub (List.take_sublist j ks)).subset (HX.out.1.sub.subset h2)
   have r0:=bC hz3 0
   have r1:=bC hz3 1
   have r2:=bC hz3 2
   have r3:=bC hz3 3
   have r4:=bC hz3 4
   have g0:=froz_blk hz3 0
   have g1:=froz_blk hz3 1
   have g2:=froz_blk hz3 2
   have g3:=froz_blk hz3 3
   have g4:=froz_blk hz3 4
   simp only[lA,lZ,lS]at r0 r1 r2 r3 r4
   obtain⟨m,hm⟩:∃m,m=us2.length:=⟨_,rfl⟩
   rw[←hm]at hrw3
   have HZ:=hid (aI hz3 (aI hcw3 (aI hjr (aI hbl (aI hrw3 (aI hlo hm))))))
   rw[←hm]
   clear he2 hsub2 hc3 hz3 hcw3 hjr hbl hlo HC HY HX
   by_cases h1:m=1
   ·subst h1
    obtain⟨x,hx⟩:=mem_len1 hm
    obtain⟨g,rfl,_,hcl⟩:=hrw3.cells hm (j:=0) (by omega)
    have hox:=(ownL_all _ _ _).1 hrw3.own x (by rw[hx];simp)
    have hndx:(blksA x).Nodup:=by
     have:=(List.nodup_append.1 hrw3.nd).2.1
     rwa [hx,blksL_one]at this
    have hbx:∀b∈blksA x,b∈blksL us2:=fun b hb=>by rw[hx,blksL_one];exact hb
    have hxe:oneN op (us2.map eraseA)=eraseA x:=by rw[hx];rfl
    have hcl2:CellsF w3 g 0 x:=by
     have:us2[0]'(by omega)=x:=by simp [hx]
     rw[this,Nat.zero_mul]at hcl
     exact hcl
    obtain⟨xo,xc,hv,_⟩:=own_fms hox
    obtain⟨xn,hxn⟩:∃xn,xn=x.kids.length:=⟨_,rfl⟩
    rw[←hxn]at hv
    obtain⟨xop,xk,xr,xv,xkids⟩:=x
    simp only[AT.v,AT.kids]at hv hxn
    subst hv
    obtain⟨a0,a1,a2,a3,a4⟩:=hcl2
    simp only[AT.op,AT.k,AT.r,AT.v]at a0 a1 a2 a3 a4
    have HQ:=hid (aI hox (aI hndx (aI hbx hxe)))
    clear hox hndx hbx hxe hcl hrw3 hx hm hxn
    go_wp2
    obtain⟨hend,hcz⟩:=store5n HZ.out.1 (.int .i64 xop) (.int .i64 xk) (.string ⟨xr.1.toArray⟩) (.string ⟨xr.2.toArray⟩) (.slice xo xn xc)
    refine bodyPost_ret (results_cell_row (P:=Tryz.prog) rfl _ _ w.heap.size 46 _ (0,0) _ rfl hend Tryz.underlying46 rfl (by kernel_rfl)) rfl ?_
    have hbk:∀b∈blksA (.mk xop xk xr (.slice xo xn xc) xkids),b∈blksL ks:=fun b hb=>HZ.out.2.2.2.1 b (HQ.out.2.2.1 b hb)
    have hkl:=ownL_lt H.out.2.1.own
    exact⟨_,rfl,ownA_keep hcz _ HQ.out.1 (fun b hb e=>by have:=(hkl b (hbk b hb)).2;have e:b=w.heap.size:=e;omega),HQ.out.2.1,fun b hb=>.inl (hbk b hb),by rw[←HQ.out.2.2.2];exact HZ.out.2.2.1,HZ.out.2.1.trans hcz (fun i hi e=>by have:i=w.heap.size:=e;omega)⟩
   ·have z1:((m:Int)==1)=false:=by simp;omega
    clear hrw3 hm
    go_wp2
    obtain⟨hend,hcz⟩:=store5n HZ.out.1 (.int .i64 op) (.int .i64 0) (.string ⟨#[]⟩) (.string ⟨#[]⟩) (.slice lo m c2)
    refine bodyPost_ret (results_cell_row (P:=Tryz.prog) rfl _ _ w.heap.size 46 _ (0,0) _ rfl hend Tryz.underlying46 rfl (by kernel_rfl)) rfl ?_
    obtain⟨hz3,hcw3,hjr,hbl,hrw3,hlo,hm⟩:=HZ.out
    obtain⟨f1,f2⟩:=hrw3.fm op 0
    have hkl:=ownL_lt H.out.2.1.own
    have hlo2:∀b∈(Value.ownBlock (.slice lo m c2)).toList,w.heap.size+1≤b:=fun b hb=>hlo b (by
     cases lo with
     | none=>simp [Value.ownBlock]at hb
     | some a=>
      have hb:b=a.block:=by simpa [Value.ownBlock] using hb
      rw[hb];rfl)
    have hbs:∀b∈blksA (.mk op 0 ([],[]) (.slice lo m c2) us2),b∈blksL ks∨w.heap.size+1≤b:=fun b hb=>by
     rw[blksA_eq,List.mem_append]at hb
     exact hb.elim (fun hb=>.inr (hlo2 b hb)) (fun hb=>.inl (hbl b hb))
    refine⟨_,rfl,ownA_keep hcz _ f1 (fun b hb e=>?_),f2,fun b hb=>(hbs b hb).imp id (by omega),?_,hcw3.trans hcz (fun i hi e=>by have:i=w.heap.size:=e;omega)⟩
    ·have e:b=w.heap.size:=e
     rcases hbs b hb with h|h
     ·have:=(hkl b h).2;omega
     ·omega
    ·rcases one_cases op (us2.map eraseA) with ⟨z,e1,_⟩|⟨_,e2⟩
     ·have:=congrArg List.length e1
      rw[List.length_map,←hm]at this
      exact absurd this h1
     ·rw[e2]at hjr
      rw[eraseA_eq,eraseL_map]
      exact hjr
end Go.Proofs.YtkfinhpfdcjoeaaGreat
