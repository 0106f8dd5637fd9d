/- AtK, brought into shape. -/
import Derived.Test.YtkfinhpfdcjoeaaGreatNa22
namespace Go.Proofs.YtkfinhpfdcjoeaaGreat
open Go.RowKit Go.Lib Go.Sort
theorem rest_take (ks:List FmB) (j:Nat) (h:j<ks.length):restN (ks.take (j+1))=restN (ks.take j)++(if isC ks[j] then [] else [ks[j]]):=by
 unfold restN
 rw[List.take_succ_eq_append_getElem h,List.filter_append]
 by_cases e:isC ks[j]=true
 ·rw[if_pos e];simp [e]
 ·rw[if_neg e];simp [e]
theorem trues_take (ks:List FmB) (j:Nat) (h:j<ks.length):truesN (ks.take (j+1))=truesN (ks.take j)+(if isC ks[j]=true∧ks[j].op=2 then 1 else 0):=by
 unfold truesN
 rw[List.take_succ_eq_append_getElem h,List.filter_append,List.length_append]
 by_cases e:isC ks[j]=true∧ks[j].op=2
 ·rw[if_pos e];simp [e]
 ·rw[if_neg e]
  have:(isC ks[j]&&decide (ks[j].op=2))=false:=by
   rw[Bool.eq_false_iff]
   intro h
   simp at h
   exact e h
  simp [this]
structure LeastIn (B:Nat) (w:World) (k:Int) (ks:List AT) (j:Nat) (q:Int) (v:Value) (ls:List AT) (wr:World):Prop where
 row:wr.ownsRow (w.heap.size+1) 46 5 v ls.length (rowA ls)
 own:OwnL B w ls
 sub:(blksL ls).Sublist (blksL (ks.take j))
 eq:ls.map eraseA=restN ((ks.take j).map eraseA)
 kk:q=k-truesN ((ks.take j).map eraseA)
 z:wr.heap[w.heap.size]? = some (.cells #[.int .i64 0,.int .i64 0,.string ⟨#[]⟩,.string ⟨#[]⟩,.slice none 0 0] 46 (0,0))
 chg:Chg (fun _=>False) w wr
theorem LeastIn.start (B:Nat) (w:World) (k:Int) (ks:List AT):LeastIn B w k ks 0 k (.slice none 0 0) [] (w.alloc (.cells #[.int .i64 0,.int .i64 0,.string ⟨#[]⟩,.string ⟨#[]⟩,.slice none 0 0] 46)):=
 ⟨World.ownsRow_nil _ _ _ _,trivial,by simp [blksL],rfl,by simp [truesN],heap_alloc_new w _,(Chg.refl _ w).alloc _⟩
theorem LeastIn.keep {B:Nat} {w:World} {k:Int} {ks:List AT} {j:Nat} {q:Int} {v:Value} {ls:List AT} {wr w1:World} (h:LeastIn B w k ks j q v ls wr) (hc:Chg (fun _=>False) wr w1):LeastIn B w k ks j q v ls w1:=
 ⟨ownsRow_keep h.row hc (fun _ _=>id),h.own,h.sub,h.eq,h.kk,bE h.z hc id,h.chg.trans hc (fun _ _ h=>h)⟩
theorem LeastIn.step {B:Nat} {w:World} {k:Int} {ks:List AT} {j:Nat} {q q':Int} {v v':Value} {ls us:List AT} {w1 w':World} (h:LeastIn B w k ks j q v ls w1) (hj:j<ks.length) (hus:OwnL B w us) (hsub:(blksL us).Sublist (blksA ks[j]))
  (heq:us.map eraseA=if isC (eraseA ks[j]) then [] else [eraseA ks[j]]) (hq:q'=q-(if isC (eraseA ks[j])=true∧(eraseA ks[j]).op=2 then 1 else 0))
  (hrow:w'.ownsRow (w.heap.size+1) 46 5 v' (ls++us).length (rowA (ls++us))) (hc:Chg (fun k=>v.ownBlock=some k) w1 w'):LeastIn B w k ks (j+1) q' v' (ls++us) w':=by
 have e1:ks.take (j+1)=ks.take j++[ks[j]]:=List.take_succ_eq_append_getElem hj
 have hv:∀k,v.ownBlock=some k→w.heap.size+1≤k:=fun k hk=>(h.row.lt k hk).1
 have hj2:j<(ks.map eraseA).length:=by simpa using hj
 refine⟨hrow,(ownL_all _ _ _).2 fun t ht=>(List.mem_append.1 ht).elim ((ownL_all _ _ _).1 h.own t) ((ownL_all _ _ _).1 hus t),?_,?_,?_,bE h.z hc (fun e=>by have:=hv _ e;omega),h.chg.trans hc (fun i hi e=>by have:=hv _ e;omega)⟩
 ·rw[e1,blksL_app,blksL_app,blksL_one]
  exact h.sub.append hsub
 ·have:=rest_take (ks.map eraseA) j hj2
  rw[List.map_append,h.eq,heq,List.map_take,List.map_take,this]
  simp
 ·have:=trues_take (ks.map eraseA) j hj2
  have h1:=h.kk
  rw[List.map_take]at h1 ⊢
  rw[this,hq,h1]
  simp only[List.getElem_map]
  split <;> omega
theorem LeastIn.nodes {B:Nat} {w:World} {k:Int} {ks:List AT} {j:Nat} {q:Int} {v:Value} {ls:List AT} {wr:World} (h:LeastIn B w k ks j q v ls wr):nodesL (ls.map eraseA)≤nodesL (eraseL ks):=by
 have h1:=nodes_rest ((ks.take j).map eraseA)
 have h2:=nodesL_take (ks.map eraseA) j
 rw[h.eq,eraseL_map]
 rw[←List.map_take]at h2
 omega
theorem LeastIn.rw {B:Nat} {w:World} {k:Int} {ks:List AT} {j:Nat} {q:Int} {v:Value} {ls:List AT} {wr:World} (h:LeastIn B w k ks j q v ls wr) (hB:B≤w.heap.size) (hnd:(blksL ks).Nodup):OwnRw B wr v ls:=by
 have h1:=(blksL_sub (List.take_sublist j ks))
 refine⟨ownsRow_lowK h.row (by omega),ownL_keep h.chg h.own (fun _ _=>id),List.nodup_append.2 ⟨by cases v.ownBlock <;> simp,(h.sub.trans h1).nodup hnd,fun a ha b hb e=>?_⟩⟩
 subst e
 have:=(h.row.lt a (by simpa using ha)).1
 have:=(ownL_lt h.own a hb).2
 omega
theorem trues_len (ks:List FmB):truesN ks≤ks.length:=List.length_filter_le _ _
set_option maxRecDepth 100000 in
set_option maxHeartbeats 8000000 in
theorem patLeast {B:Nat} (k:Int) (hk:0≤k∧k≤4000) (ao:Option Addr) (n cp:Nat) (ks:List AT) (w:World) (hn:n=ks.length) (h:OwnRw B w (.slice ao n cp) ks) (hB:B≤w.heap.size) (hN:nodesL (eraseL ks)≤4000) :
  Calls Tryz.prog 84 #[.int .i64 k,.slice ao n cp] w (ShapePost B w (blksL ks) (AtR k (ks.map eraseA))):=by
 have H:=hid (aI hn (aI h (aI hB (aI hN hk))))
 have hnb:n≤4000:=(by have:=nodesL_len (eraseL ks);rw[eraseL_len]at this;omega)
 clear h hB hN hn
 go_enter Tryz.func84,Tryz.ntmps84
 go_wp2
 go_loopw [0,5,10] (fun kv v i wr=>∃(j:Nat) (q:Int) (ls:List AT) (lo:Option Addr) (ln lc:Nat),j≤n∧i = .int .i64 j∧v = .slice lo ln lc∧kv = .int .i64 q∧(-4000≤q∧q≤4000)∧Hid (ln=ls.length∧LeastIn B w k ks j q (.slice lo ln lc) ls wr)) (fun _ _ i _=>n-(intOf i).toNat)
 case atStart=>exact⟨0,k,[],none,0,0,Nat.zero_le _,rfl,rfl,rfl,⟨by omega,by omega⟩,hid ⟨rfl,LeastIn.start B w k ks⟩⟩
 case round=>
  obtain⟨j,q,ls,lo,ln,lc,hj,rfl,rfl,rfl,hqb,hrel⟩:=hrel
  by_cases hlt:j<n
  ·have hjk:j<ks.length:=by rw[←H.out.1];exact hlt
   obtain⟨g,rfl,hgl,hcl⟩:=H.out.2.1.cells H.out.1 hjk
   have hcl1:=hcl.keep hrel.out.2.chg id
   have hox:=(ownL_all _ _ _).1 H.out.2.1.own _ (List.getElem_mem hjk)
   have hST:=fun(q':Int) (v':Value) (us:List AT) (w1 w':World) (h1:Chg (fun _=>False) wr w1) a b c d e f=>(hrel.out.2.keep h1).step (q':=q') (v':=v') (us:=us) (w':=w') hjk a b c d e f
   have hnl:ls.length≤4000:=by
    have h1:=hrel.out.2.nodes
    have h2:=nodesL_len (ls.map eraseA)
    rw[List.length_map]at h2
    have:=H.out.2.2.2.1
    omega
   have hqn:∀q':Int,LeastIn B w k ks (j+1) q' (.slice lo ln lc) ls wr∨True→True:=fun _ _=>trivial
   have htr:(truesN ((ks.take (j+1)).map eraseA):Int)≤4000:=by
    have h1:=trues_len ((ks.take (j+1)).map eraseA)
    rw[List.length_map,List.length_take]at h1
    omega
   generalize ks[j]=x at *
   obtain⟨xo,xc,hv,_⟩:=own_fms hox
   obtain⟨xop,xk,xr,xv,xkids⟩:=x
   simp only[AT.v,AT.kids]at hv
   obtain⟨xn,hxn⟩:∃xn,xn=xkids.length:=⟨_,rfl⟩
   rw[←hxn]at hv
   subst hv
   obtain⟨a0,a1,a2,a3,a4⟩:=hcl1
   simp only[AT.op,AT.k,AT.r,AT.v]at a0 a1 a2 a3 a4
   have hcA:=alc wr (.cells #[.int .i64 xop,.int .i64 xk,.string ⟨xr.1.toArray⟩,.string ⟨xr.2.toArray⟩,.slice xo xn xc] 46)
   have hyb:=heap_alloc_new wr (.cells #[.int .i64 xop,.int .i64 xk,.string ⟨xr.1.toArray⟩,.string ⟨xr.2.toArray⟩,.slice xo xn xc] 46)
   have HCI:=hid (pisConst xop xk xr xo xn xc (wr.alloc (.cells #[.int .i64 xop,.int .i64 xk,.string ⟨xr.1.toArray⟩,.string ⟨xr.2.toArray⟩,.slice xo xn xc] 46)))
   have hci:(decide (xop≠1)&&decide (xn=0))=isC (eraseA (.mk xop xk xr (.slice xo xn xc) xkids)):=by
    unfold isC
    rw[eraseA_op,eraseA_kids,hxn,Bool.eq_iff_iff]
    simp [AT.op,AT.kids]
   rw[hci]at HCI
   have y0:=bC hyb 0
   have y1:=bC hyb 1
   have y2:=bC hyb 2
   have y3:=bC hyb 3
   have y4:=bC hyb 4
   simp only[lA,lZ,lS]at y0 y1 y2 y3 y4
   have heo:(eraseA (.mk xop xk xr (.slice xo xn xc) xkids)).op=xop:=by rw[eraseA_op];rfl
   rw[heo]at hST
   generalize hbc:isC (eraseA (.mk xop xk xr (.slice xo xn xc) xkids))=bc at *
   have HX:=hid (aI hrel.out (aI hcA (aI hox (aI hyb (aI hnl (aI hxn (aI htr H.out.2.2.2.2)))))))
   have HST:=hid hST
   clear hST hcl hox hnl hrel hcA hyb hci hbc hxn hqn heo htr
   go_wp2_with fail
   refine HCI.out.mono ?_
   rintro e w2 ⟨rfl,hc2⟩
   have hyb2:=bE HX.out.2.2.2.1 hc2 id
   have y0:=bC hyb2 0
   have y1:=bC hyb2 1
   have y2:=bC hyb2 2
   have y3:=bC hyb2 3
   have y4:=bC hyb2 4
   simp only[lA,lZ,lS]at y0 y1 y2 y3 y4
   have hcB:=HX.out.2.1.trans hc2 (fun _ _ h=>h)
   have hj2:=HX.out.1.2.keep hcB
   cases bc with
   | true=>
    have hrow2:w2.ownsRow (w.heap.size+1) 46 5 (.slice lo ln lc) (ls++[]).length (rowA (ls++[])):=by rw[List.append_nil];exact hj2.row
    by_cases hx2:xop=2
    ·have hj5:=HST.out (q-1) (.slice lo ln lc) [] w2 w2 hcB trivial (by simp [blksL]) (by rfl) (by rw[if_pos ⟨by first|rfl|trivial,hx2⟩]) hrow2 R0
     rw[List.append_nil]at hj5
     have hqb2:-4000≤q-1∧q-1≤4000:=by
      have h1:=hj5.kk
      have:=HX.out.2.2.2.2.2.2.1
      have:=HX.out.2.2.2.2.2.2.2.1
      exact⟨by omega,by omega⟩
     have HEND:=hid (aI HX.out.1.1 hj5)
     clear hyb2 hc2 hcB hj2 hrow2 hj5 HST HX HCI a0 a1 a2 a3 a4
     subst hx2
     go_wp2
     go_roundw
     case rel=>exact⟨j+1,q-1,ls,lo,ln,lc,hlt,by go_num,rfl,by go_num,hqb2,HEND⟩
     case measure=>simp [intOf];omega
    ·have hj5:=HST.out q (.slice lo ln lc) [] w2 w2 hcB trivial (by simp [blksL]) (by rfl) (by rw[if_neg (fun e=>hx2 e.2)];omega) hrow2 R0
     rw[List.append_nil]at hj5
     have z2:(xop==2)=false:=by simpa using hx2
     have HEND:=hid (aI HX.out.1.1 hj5)
     clear hyb2 hc2 hcB hj2 hrow2 hj5 HST HX HCI a0 a1 a2 a3 a4
     go_wp2
     go_roundw
     case rel=>exact⟨j+1,q,ls,lo,ln,lc,hlt,by go_num,rfl,rfl,hqb,HEND⟩
     case measure=>simp [intOf];omega
   | false=>
    have hcC:=alc w2 (.cells #[.int .i64 xop,.int .i64 xk,.string ⟨xr.1.toArray⟩,.string ⟨xr.2.toArray⟩,.slice xo xn xc] 46)
    have hnb2:=heap_alloc_new w2 (.cells #[.int .i64 xop,.int .i64 xk,.string ⟨xr.1.toArray⟩,.string ⟨xr.2.toArray⟩,.slice xo xn xc] 46)
    have hwz:=lt_blk hj2.z
    have hwz2:=hcC.size
    have hnl:=HX.out.2.2.2.2.1
    have hol:OwnL B w [.mk xop xk xr (.slice xo xn xc) xkids]:=⟨HX.out.2.2.1,trivial⟩
    obtain⟨v',w5,hap,hrow5,hc5⟩:=runKids 44 (us:=[.mk xop xk xr (.slice xo xn xc) xkids]) (hj2.keep hcC).row (.slice (some ⟨w2.heap.size,0,none⟩) 1 1) (.inr ⟨_,1,rfl,fun i u hi=>by
     rw[add_off,Nat.zero_add,bC hnb2]
     simpa [rowA,cellsA,AT.op,AT.k,AT.r,AT.v] using hi⟩) (rowA_one hol) (by simp;omega) (by omega)
    have hj5:=HST.out q v' [.mk xop xk xr (.slice xo xn xc) xkids] _ w5 (hcB.trans hcC (fun _ _ h=>h)) hol (by rw[blksL_one];exact List.Sublist.refl _) (by rfl) (by rw[if_neg (fun e=>by first|(exact e.1.elim)|(cases e.1))];omega) hrow5 hc5
    obtain⟨lo5,lc5,hv5,_⟩:=rowV_shape hrow5
    subst hv5
    obtain⟨ln5,hln5⟩:∃ln5,ln5=(ls++[AT.mk xop xk xr (.slice xo xn xc) xkids]).length:=⟨_,rfl⟩
    rw[←hln5]at hap hj5
    have HEND:=hid (aI hln5 hj5)
    clear hj2 hyb2 hc2 hcB HCI a0 a1 a2 a3 a4 hcC hnb2 hwz hwz2 hnl hol hrow5 hc5 hj5 hln5 HST HX
    go_wp2_with (at_builtin;refine wpList_append_runb rfl (.tmp 17) (.tmp 19) 44 rfl rfl rfl hap ?_)
    clear hap
    go_wp2
    go_roundw
    case rel=>exact⟨j+1,q,_,lo5,ln5,lc5,hlt,by go_num,rfl,rfl,hqb,HEND⟩
    case measure=>simp [intOf];omega
  ·have hje:j=n:=by omega
   subst hje
   obtain⟨hln,hji⟩:=hrel.out
   have hrw:=hji.rw H.out.2.2.1 (List.nodup_append.1 H.out.2.1.nd).2.1
   have hnodes:=hji.nodes
   have hN4:=H.out.2.2.2.1
   have hNs:∀t∈ls,nodesF (eraseA t)≤4000:=fun t ht=>by
    have:=nodesL_mem (List.mem_map.2 ⟨t,ht,rfl⟩:eraseA t∈ls.map eraseA)
    omega
   have hll:ln≤4000:=by
    have h2:=nodesL_len (ls.map eraseA)
    rw[List.length_map]at h2
    omega
   have e1:=hji.eq
   have e2:=hji.kk
   rw[H.out.1,List.take_length]at e1 e2
   have hlr:(restN (ks.map eraseA)).length=ln:=by rw[←e1,List.length_map,hln]
   have hbl:∀b∈blksL ls,b∈blksL ks:=fun b hb=>(blksL_sub (List.take_sublist j ks)).subset (hji.sub.subset hb)
   have hlo:∀k,Value.ownBlock (.slice lo ln lc)=some k→w.heap.size+1≤k:=fun k hk=>(hji.row.lt k hk).1
   have hkl:=ownL_lt H.out.2.1.own
   have hwz:=lt_blk hji.z
   have hin:∀(op:Int) (R:FmB→Prop),(∀x,JoinR op (restN (ks.map eraseA)) x→R x)→∀(x:AT) (w2:World),OwnA B w2 x→(blksA x).Nodup→(∀b∈blksA x,b∈blksL ls∨wr.heap.size≤b)→JoinR op (ls.map eraseA) (eraseA x)→Chg (fun _=>False) wr w2→
     w2.heap[w.heap.size]? = some (.cells #[.int .i64 0,.int .i64 0,.string ⟨#[]⟩,.string ⟨#[]⟩,.slice none 0 0] 46 (0,0))∧∀w3,Chg (fun k=>k=w.heap.size) w2 w3→OwnA B w3 x∧(blksA x).Nodup∧(∀b∈blksA x,b∈blksL ks∨w.heap.size≤b)∧R (eraseA x)∧Chg (fun _=>False) w w3:=
    fun op R hR x w2 g1 g2 g3 g4 g5=>⟨bE hji.z g5 id,fun w3 hw3=>⟨ownA_keep hw3 _ g1 (fun b hb e=>by
     rcases g3 b hb with h|h
     ·have:=(hkl b (hbl b h)).2;omega
     ·omega),g2,fun b hb=>(g3 b hb).imp (hbl b) (fun h=>by omega),hR _ (by rw[←e1];exact g4),(hji.chg.trans g5 (fun _ _ h=>h)).trans hw3 (fun i hi e=>by have:i=w.heap.size:=e;omega)⟩⟩
   have r0:=bC hji.z 0
   have r1:=bC hji.z 1
   have r2:=bC hji.z 2
   have r3:=bC hji.z 3
   have r4:=bC hji.z 4
   have g0:=froz_blk hji.z 0
   have g1:=froz_blk hji.z 1
   have g2:=froz_blk hji.z 2
   have g3:=froz_blk hji.z 3
   have g4:=froz_blk hji.z 4
   simp only[lA,lZ,lS]at r0 r1 r2 r3 r4
   have HIN:=hid hin
   have HX:=hid (aI hji (aI hrw (aI hnodes (aI hN4 (aI hNs (aI hln (aI e1 (aI e2 (aI hlr (aI hbl (aI hlo hkl)))))))))))
   clear hin hji hrw hnodes hN4 hNs hln e1 e2 hlr hbl hlo hkl hrel hwz hj
   by_cases q0:q≤0
   ·have HA:=hid (palways wr)
    have zq:decide (q≤0)=true:=decide_eq_true q0
    go_wp2_with fail
    refine HA.out.mono ?_
    rintro e w2 ⟨rfl,hc2⟩
    have hz2:=bE HX.out.1.z hc2 id
    have r0:=bC hz2 0
    have r1:=bC hz2 1
    have r2:=bC hz2 2
    have r3:=bC hz2 3
    have r4:=bC hz2 4
    have g0:=froz_blk hz2 0
    have g1:=froz_blk hz2 1
    have g2:=froz_blk hz2 2
    have g3:=froz_blk hz2 3
    have g4:=froz_blk hz2 4
    simp only[lA,lZ,lS]at r0 r1 r2 r3 r4
    have HZ:=hid (aI hz2 (HX.out.1.chg.trans hc2 (fun _ _ h=>h)))
    clear hz2 hc2 HA
    go_wp2
    obtain⟨hend,hcz⟩:=store5n HZ.out.1 (.int .i64 2) (.int .i64 0) (.string ⟨#[]⟩) (.string ⟨#[]⟩) (.slice none 0 0)
    refine bodyPost_ret (results_cell_row (P:=Tryz.prog) rfl _ _ w.heap.size 46 _ (0,0) _ rfl hend Tryz.underlying46 rfl (by kernel_rfl)) rfl ?_
    refine⟨.mk 2 0 ([],[]) (.slice none 0 0) [],rfl,?_,by simp [blksA,blksL,Value.ownBlock],fun b hb=>by simp [blksA,blksL,Value.ownBlock]at hb,.inl ⟨by have:=HX.out.2.2.2.2.2.2.2.1;omega,rfl⟩,HZ.out.2.trans hcz (fun i hi e=>by have:i=w.heap.size:=e;omega)⟩
    rw[ownA_eq]
    exact⟨⟨by simp [AT.r],by simp [AT.r]⟩,World.ownsRow_nil _ _ _ _,trivial⟩
   ·have zq:decide (q≤0)=false:=decide_eq_false q0
    by_cases q1:(ln:Int)<q
    ·have HA:=hid (pnever wr)
     have zq1:decide ((ln:Int)<q)=true:=decide_eq_true q1
     go_wp2_with fail
     refine HA.out.mono ?_
     rintro e w2 ⟨rfl,hc2⟩
     have hz2:=bE HX.out.1.z hc2 id
     have r0:=bC hz2 0
     have r1:=bC hz2 1
     have r2:=bC hz2 2
     have r3:=bC hz2 3
     have r4:=bC hz2 4
     have g0:=froz_blk hz2 0
     have g1:=froz_blk hz2 1
     have g2:=froz_blk hz2 2
     have g3:=froz_blk hz2 3
     have g4:=froz_blk hz2 4
     simp only[lA,lZ,lS]at r0 r1 r2 r3 r4
     have HZ:=hid (aI hz2 (HX.out.1.chg.trans hc2 (fun _ _ h=>h)))
     clear hz2 hc2 HA
     go_wp2
     obtain⟨hend,hcz⟩:=store5n HZ.out.1 (.int .i64 3) (.int .i64 0) (.string ⟨#[]⟩) (.string ⟨#[]⟩) (.slice none 0 0)
     refine bodyPost_ret (results_cell_row (P:=Tryz.prog) rfl _ _ w.heap.size 46 _ (0,0) _ rfl hend Tryz.underlying46 rfl (by kernel_rfl)) rfl ?_
     refine⟨.mk 3 0 ([],[]) (.slice none 0 0) [],rfl,?_,by simp [blksA,blksL,Value.ownBlock],fun b hb=>by simp [blksA,blksL,Value.ownBlock]at hb,.inr (.inl ⟨by have:=HX.out.2.2.2.2.2.2.2.1;omega,by have:=HX.out.2.2.2.2.2.2.2.1;have:=HX.out.2.2.2.2.2.2.2.2.1;omega,rfl⟩),HZ.out.2.trans hcz (fun i hi e=>by have:i=w.heap.size:=e;omega)⟩
     rw[ownA_eq]
     exact⟨⟨by simp [AT.r],by simp [AT.r]⟩,World.ownsRow_nil _ _ _ _,trivial⟩
    ·have zq1:decide ((ln:Int)<q)=false:=decide_eq_false q1
     by_cases q2:q=ln
     ·have hpj:=pjoined (B:=B) 2 (.inl rfl) lo ln lc ls wr HX.out.2.2.2.2.2.1 HX.out.2.1 (by have:=HX.out.1.chg.size;have:=H.out.2.2.1;omega) (by have:=HX.out.2.2.1;have:=HX.out.2.2.2.1;rw[eraseL_map];omega)
      have HA:=hid hpj
      have HR:Hid (∀x,JoinR 2 (restN (ks.map eraseA)) x→AtR k (ks.map eraseA) x):=hid fun x hx=>.inr (.inr (.inl ⟨by have:=HX.out.2.2.2.2.2.2.2.1;omega,by have:=HX.out.2.2.2.2.2.2.2.1;have:=HX.out.2.2.2.2.2.2.2.2.1;omega,hx⟩))
      subst q2
      clear hpj
      go_wp2_with fail
      refine HA.out.mono ?_
      rintro e w2 ⟨x,rfl,g1,g2,g3,g4,g5⟩
      obtain⟨hz2,hfin⟩:=HIN.out 2 _ HR.out x w2 g1 g2 g3 g4 g5
      obtain⟨xo,xc,hv,_⟩:=own_fms g1
      obtain⟨xn,hxn⟩:∃xn,xn=x.kids.length:=⟨_,rfl⟩
      rw[←hxn]at hv
      obtain⟨xop,xk,xr,xv,xkids⟩:=x
      simp only[AT.v]at hv
      subst hv
      have r0:=bC hz2 0
      have r1:=bC hz2 1
      have r2:=bC hz2 2
      have r3:=bC hz2 3
      have r4:=bC hz2 4
      have f0:=froz_blk hz2 0
      have f1:=froz_blk hz2 1
      have f2:=froz_blk hz2 2
      have f3:=froz_blk hz2 3
      have f4:=froz_blk hz2 4
      simp only[lA,lZ,lS]at r0 r1 r2 r3 r4
      have HZ:=hid (aI hz2 hfin)
      clear hz2 hfin g1 g2 g3 g4 g5 hxn HA HR
      unfold fmV
      simp only[AT.op,AT.k,AT.r,AT.v]
      go_wp2
      obtain⟨hend,hcz⟩:=store5n HZ.out.1 (.int .i64 xop) (.int .i64 xk) (.string ⟨xr.1.toArray⟩) (.string ⟨xr.2.toArray⟩) (.slice xo xn xc)
      refine bodyPost_ret (results_cell_row (P:=Tryz.prog) rfl _ _ w.heap.size 46 _ (0,0) _ rfl hend Tryz.underlying46 rfl (by kernel_rfl)) rfl ?_
      exact⟨_,rfl,HZ.out.2 _ hcz⟩
     ·have zq2:(q==(ln:Int))=false:=by simpa using q2
      by_cases q3:q=1
      ·have hpj:=pjoined (B:=B) 3 (.inr rfl) lo ln lc ls wr HX.out.2.2.2.2.2.1 HX.out.2.1 (by have:=HX.out.1.chg.size;have:=H.out.2.2.1;omega) (by have:=HX.out.2.2.1;have:=HX.out.2.2.2.1;rw[eraseL_map];omega)
       have HA:=hid hpj
       have HR:Hid (∀x,JoinR 3 (restN (ks.map eraseA)) x→AtR k (ks.map eraseA) x):=hid fun x hx=>.inr (.inr (.inr (.inl ⟨by have:=HX.out.2.2.2.2.2.2.2.1;omega,by have:=HX.out.2.2.2.2.2.2.2.1;have:=HX.out.2.2.2.2.2.2.2.2.1;omega,by have:=HX.out.2.2.2.2.2.2.2.1;omega,hx⟩)))
       subst q3
       clear hpj
       go_wp2_with fail
       refine HA.out.mono ?_
       rintro e w2 ⟨x,rfl,g1,g2,g3,g4,g5⟩
       obtain⟨hz2,hfin⟩:=HIN.out 3 _ HR.out x w2 g1 g2 g3 g4 g5
       obtain⟨xo,xc,hv,_⟩:=own_fms g1
       obtain⟨xn,hxn⟩:∃xn,xn=x.kids.length:=⟨_,rfl⟩
       rw[←hxn]at hv
       obtain⟨xop,xk,xr,xv,xkids⟩:=x
       simp only[AT.v]at hv
       subst hv
       have r0:=bC hz2 0
       have r1:=bC hz2 1
       have r2:=bC hz2 2
       have r3:=bC hz2 3
       have r4:=bC hz2 4
       have f0:=froz_blk hz2 0
       have f1:=froz_blk hz2 1
       have f2:=froz_blk hz2 2
       have f3:=froz_blk hz2 3
       have f4:=froz_blk hz2 4
       simp only[lA,lZ,lS]at r0 r1 r2 r3 r4
       have HZ:=hid (aI hz2 hfin)
       clear hz2 hfin g1 g2 g3 g4 g5 hxn HA HR
       unfold fmV
       simp only[AT.op,AT.k,AT.r,AT.v]
       go_wp2
       obtain⟨hend,hcz⟩:=store5n HZ.out.1 (.int .i64 xop) (.int .i64 xk) (.string ⟨xr.1.toArray⟩) (.string ⟨xr.2.toArray⟩) (.slice xo xn xc)
       refine bodyPost_ret (results_cell_row (P:=Tryz.prog) rfl _ _ w.heap.size 46 _ (0,0) _ rfl hend Tryz.underlying46 rfl (by kernel_rfl)) rfl ?_
       exact⟨_,rfl,HZ.out.2 _ hcz⟩
      ·have zq3:(q==1)=false:=by simpa using q3
       have hS:=psort_fm (B:=B) (w:=wr) (ao:=lo) (cap:=lc) (ts:=ls) (by rw[←HX.out.2.2.2.2.2.1];exact HX.out.2.1) (fun t ht=>Nat.le_trans (HX.out.2.2.2.2.1 t ht) (by omega)) (by have:=HX.out.2.2.2.2.2.1;omega)
       rw[←HX.out.2.2.2.2.2.1]at hS
       have HS:=hid hS
       have HQ:Hid (1<q∧q<ln):=hid ⟨by omega,by omega⟩
       clear hS
       go_wp2_with fail
       refine HS.out.mono ?_
       rintro e w2 ⟨rfl,⟨us,hperm,hso,hrw2⟩,hc2⟩
       have hul:us.length=ln:=by rw[hperm.length_eq];exact HX.out.2.2.2.2.2.1.symm
       rw[hul]at hrw2
       have hlo:=HX.out.2.2.2.2.2.2.2.2.2.2.1
       have hz2:=bE HX.out.1.z hc2 (fun e=>by have:=hlo _ e;omega)
       have hcw2:=HX.out.1.chg.trans hc2 (fun i hi e=>by have:=hlo _ e;omega)
       have r0:=bC hz2 0
       have r1:=bC hz2 1
       have r2:=bC hz2 2
       have r3:=bC hz2 3
       have r4:=bC hz2 4
       have f0:=froz_blk hz2 0
       have f1:=froz_blk hz2 1
       have f2:=froz_blk hz2 2
       have f3:=froz_blk hz2 3
       have f4:=froz_blk hz2 4
       simp only[lA,lZ,lS]at r0 r1 r2 r3 r4
       have HZ:=hid (aI hz2 (aI hcw2 (aI hperm (aI hso hrw2))))
       clear hz2 hcw2 hperm hso hrw2 hc2 hul hlo HS
       go_wp2
       obtain⟨hend,hcz⟩:=store5n HZ.out.1 (.int .i64 4) (.int .i64 q) (.string ⟨#[]⟩) (.string ⟨#[]⟩) (.slice lo ln lc)
       refine bodyPost_ret (results_cell_row (P:=Tryz.prog) rfl _ _ w.heap.size 46 _ (0,0) _ rfl hend Tryz.underlying46 rfl (by kernel_rfl)) rfl ?_
       obtain⟨hz3,hcw3,hperm,hso,hrw3⟩:=HZ.out
       obtain⟨f1,f2⟩:=hrw3.fm 4 q
       have hkl:=HX.out.2.2.2.2.2.2.2.2.2.2.2
       have hlo:=HX.out.2.2.2.2.2.2.2.2.2.2.1
       have hlo2:∀b∈(Value.ownBlock (.slice lo ln lc)).toList,w.heap.size+1≤b:=fun b hb=>hlo b (by
        cases lo with
        | none=>simp [Value.ownBlock]at hb
        | some a=>
         have hb:b=a.block:=by simpa [Value.ownBlock] using hb
         rw[hb];rfl)
       have hbs:∀b∈blksA (.mk 4 q ([],[]) (.slice lo ln lc) us),b∈blksL ks∨w.heap.size+1≤b:=fun b hb=>by
        rw[blksA_eq,List.mem_append]at hb
        refine hb.elim (fun hb=>.inr (hlo2 b hb)) (fun hb=>.inl (HX.out.2.2.2.2.2.2.2.2.2.1 b ?_))
        have hb:b∈blksL us:=hb
        rw[blksL_flat]at hb
        obtain⟨t,ht,h1⟩:=List.mem_flatMap.1 hb
        rw[blksL_flat]
        exact List.mem_flatMap.2 ⟨t,hperm.mem_iff.1 ht,h1⟩
       refine⟨_,rfl,ownA_keep hcz _ f1 (fun b hb e=>?_),f2,fun b hb=>(hbs b hb).imp id (by omega),?_,hcw3.trans hcz (fun i hi e=>by have:i=w.heap.size:=e;omega)⟩
       ·have e:b=w.heap.size:=e
        rcases hbs b hb with h|h
        ·have:=(hkl b h).2;omega
        ·omega
       ·have e1:=HX.out.2.2.2.2.2.2.1
        have e2:=HX.out.2.2.2.2.2.2.2.1
        have hlr:=HX.out.2.2.2.2.2.2.2.2.1
        have hq:=HQ.out
        refine .inr (.inr (.inr (.inr ⟨by omega,by omega,us.map eraseA,?_,hso,?_⟩)))
        ·rw[←e1];exact hperm.map eraseA
        ·rw[eraseA_eq,eraseL_map,←e2];rfl
end Go.Proofs.YtkfinhpfdcjoeaaGreat
