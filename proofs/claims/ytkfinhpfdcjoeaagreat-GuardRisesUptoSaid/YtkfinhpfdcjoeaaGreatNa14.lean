/- Texts that the proof leans on, in one: FmPut, FmPutW, PcCmp. -/
import Derived.Test.YtkfinhpfdcjoeaaGreatNa9
import Derived.Test.YtkfinhpfdcjoeaaGreatNa6
import Derived.Test.YtkfinhpfdcjoeaaGreatNa1
import Derived.Test.YtkfinhpfdcjoeaaGreatNa7
import Derived.Lib.Bytealg
/- Put of a formula. -/
namespace Go.Proofs.YtkfinhpfdcjoeaaGreat
section
open Go.RowKit
set_option maxRecDepth 100000 in
set_option maxHeartbeats 8000000 in
theorem fm_put {D:Nat→Prop}:∀(n:Nat) (f:FmB) (ao:Option Addr) (cp B P pcap:Nat) (pao:Option Addr) (xs:List UInt8) (w:World),FmsAt D w n ao f.kids→FmOk f→rightF f=true→xs.length+40*nodesF f≤900000→PenAt B w P pao pcap xs→B≤w.heap.size→P<B→(∀i,D i→i<B∧i≠P)→
  Calls Tryz.prog 146 #[.pointer (some ⟨P,0,none⟩),.agg #[.int .i64 f.op,.int .i64 f.k,.string ⟨f.r.1.toArray⟩,.string ⟨f.r.2.toArray⟩,.slice ao f.kids.length cp]] w fun e w'=>e = .returned (.bool true)∧PenPost B P pao (xs++encF f) w w':=by
 intro n
 induction n using Nat.strongRecOn with
 | _ n ih=>
 intro f ao cp B P pcap pao xs w h hok hr hN hp hB hPB hD
 have hnl:=nodesL_len f.kids
 have hnf:=nodesF_eq f
 obtain⟨op,k,r,kids⟩:=f
 simp only[FmB.op,FmB.k,FmB.r,FmB.kids]at *
 rw[rightF,Bool.and_eq_true]at hr
 have HIN:=hid ih
 have HRL:=hid (rightL_mem hr.1)
 have HRK:=hid hr.1
 have HD:=hid hD
 have hcA:=alc w (.cells #[.int .i64 op,.int .i64 k,.string ⟨r.1.toArray⟩,.string ⟨r.2.toArray⟩,.slice ao kids.length cp] 46)
 have hb:=heap_alloc_new w (.cells #[.int .i64 op,.int .i64 k,.string ⟨r.1.toArray⟩,.string ⟨r.2.toArray⟩,.slice ao kids.length cp] 46)
 have s0:=bC hb 0
 have s1:=bC hb 1
 have s2:=bC hb 2
 have s3:=bC hb 3
 have s4:=bC hb 4
 simp only[lA,lZ,lS]at s0 s1 s2 s3 s4
 have hrl:=hp.rowlt
 have hPl:=lt_blk hp.cell
 have HBK:Hid (∀wj ys,PenPost B P pao ys (w.alloc (.cells #[.int .i64 op,.int .i64 k,.string ⟨r.1.toArray⟩,.string ⟨r.2.toArray⟩,.slice ao kids.length cp] 46)) wj→wj.heap[w.heap.size]? = some (.cells #[.int .i64 op,.int .i64 k,.string ⟨r.1.toArray⟩,.string ⟨r.2.toArray⟩,.slice ao kids.length cp] 46 (0,0))∧FmsAt D wj n ao kids∧B≤wj.heap.size):=hid (fun wj ys hj=>⟨bE hb hj.chg (fun e=>e.elim (fun e=>by omega) (fun e=>by have:=(hrl _ e).2;omega)),(h.keep hcA (fun _ _=>id)).keep hj.chg (fun i hi e=>e.elim (fun e=>(hD i hi).2 e) (fun e=>by have:=(hrl _ e).1;have:=(hD i hi).1;omega)),by have:=hj.chg.size;have:=hcA.size;omega⟩)
 have HC0:=hid hcA
 have HP0:=hid (PenPost.start (hp.keep hcA id (fun _ _=>id)))
 have hBw:B≤(w.alloc (.cells #[.int .i64 op,.int .i64 k,.string ⟨r.1.toArray⟩,.string ⟨r.2.toArray⟩,.slice ao kids.length cp] 46)).heap.size:=by have:=hcA.size;omega
 have hcase:=rightN_op hr.2
 clear h ih hcA hb hp hrl hD hok hr
 go_enter Tryz.func146,Tryz.ntmps146
 rcases hcase with ⟨h1,h2,h3,h4⟩|⟨h1,h2,h3,h4⟩|⟨h1,h2,h3,h4,h5,h6⟩
 ·subst h1
  have hz:kids=[]:=List.eq_nil_of_length_eq_zero h3
  subst h4 hz
  clear h3
  simp only[List.length_nil]at *
  obtain⟨ao2,cap2,hp2,hnx2⟩:=HP0.out.next
  have HNX2:=hid hnx2
  have HNUM2:Hid (Calls Tryz.prog 65 #[.pointer (some ⟨P,0,none⟩),.int .i64 1] (w.alloc (.cells #[.int .i64 1,.int .i64 0,.string ⟨r.1.toArray⟩,.string ⟨r.2.toArray⟩,.slice ao 0 cp] 46)) fun e w'=>e = .returned (.bool true)∧PenPost B P ao2 (xs++enc 1) (w.alloc (.cells #[.int .i64 1,.int .i64 0,.string ⟨r.1.toArray⟩,.string ⟨r.2.toArray⟩,.slice ao 0 cp] 46)) w'):=hid (by
   have e8:((1:Nat):Int)=1:=rfl
   have e9:=enc_small (show 1<128 by omega)
   have q:=pnum_any B P cap2 1 ao2 (xs) (w.alloc (.cells #[.int .i64 1,.int .i64 0,.string ⟨r.1.toArray⟩,.string ⟨r.2.toArray⟩,.slice ao 0 cp] 46)) (by omega) hp2 hBw hPB (by rw[e9];simp only[List.length_cons,List.length_nil];omega)
   rw[e8]at q
   exact q)
  clear hp2 hnx2
  go_wp2_with fail
  refine HNUM2.out.mono ?_
  rintro e w2 ⟨rfl,hps⟩
  have HP2:=hid (HNX2.out _ _ hps)
  obtain⟨hb,_⟩:=HBK.out _ _ HP2.out
  clear hps HNUM2 HNX2 s0 s1 s2 s3 s4
  have s0:=bC hb 0
  have s1:=bC hb 1
  have s2:=bC hb 2
  have s3:=bC hb 3
  have s4:=bC hb 4
  simp only[lA,lZ,lS]at s0 s1 s2 s3 s4
  clear hb
  obtain⟨ao3,cap3,hp3,hnx3⟩:=HP2.out.next
  have HRP:=hid (pput_yes B P cap3 ao3 (xs++enc 1) r w2 hp3 (HBK.out _ _ HP2.out).2.2 hPB (by rw[enc_small (by omega)];simp only[List.length_append,List.length_cons,List.length_nil];omega) h2)
  have HNX3:=hid hnx3
  clear hp3 hnx3
  go_wp2_with fail
  refine HRP.out.mono ?_
  rintro e w3 ⟨rfl,hps⟩
  have HP3:=hid (HNX3.out _ _ hps)
  clear hps HRP HNX3 s0 s1 s2 s3 s4
  go_wp2
  go_ret
  refine⟨rfl,PenPost.from_ HC0.out ?_⟩
  have:=HP3.out
  simpa only[encF,if_pos,List.append_assoc,show (1:Int).toNat=1 from rfl] using this
 ·have HO1:=hid (show ¬op=1 by omega)
  have HO4:=hid (show ¬op=4 by omega)
  have ho:0≤op∧op≤4:=by omega
  have z1:(op==1)=false:=by have:=HO1.out;simpa using this
  have z4:(op==4)=false:=by have:=HO4.out;simpa using this
  have y1:=HO1.out
  have y4:=HO4.out
  clear h1 h2 h4
  obtain⟨ao2,cap2,hp2,hnx2⟩:=HP0.out.next
  have HNX2:=hid hnx2
  have HNUM2:Hid (Calls Tryz.prog 65 #[.pointer (some ⟨P,0,none⟩),.int .i64 op] (w.alloc (.cells #[.int .i64 op,.int .i64 k,.string ⟨r.1.toArray⟩,.string ⟨r.2.toArray⟩,.slice ao kids.length cp] 46)) fun e w'=>e = .returned (.bool true)∧PenPost B P ao2 (xs++enc op.toNat) (w.alloc (.cells #[.int .i64 op,.int .i64 k,.string ⟨r.1.toArray⟩,.string ⟨r.2.toArray⟩,.slice ao kids.length cp] 46)) w'):=hid (by
   have e8:((op.toNat:Nat):Int)=op:=Int.toNat_of_nonneg (by omega)
   have e9:=enc_small (show op.toNat<128 by omega)
   have q:=pnum_any B P cap2 op.toNat ao2 (xs) (w.alloc (.cells #[.int .i64 op,.int .i64 k,.string ⟨r.1.toArray⟩,.string ⟨r.2.toArray⟩,.slice ao kids.length cp] 46)) (by omega) hp2 hBw hPB (by rw[e9];simp only[List.length_cons,List.length_nil];omega)
   rw[e8]at q
   exact q)
  clear hp2 hnx2
  go_wp2_with fail
  refine HNUM2.out.mono ?_
  rintro e w2 ⟨rfl,hps⟩
  have HP2:=hid (HNX2.out _ _ hps)
  obtain⟨hb,_⟩:=HBK.out _ _ HP2.out
  clear hps HNUM2 HNX2 s0 s1 s2 s3 s4
  have s0:=bC hb 0
  have s1:=bC hb 1
  have s2:=bC hb 2
  have s3:=bC hb 3
  have s4:=bC hb 4
  simp only[lA,lZ,lS]at s0 s1 s2 s3 s4
  clear hb
  obtain⟨ao5,cap5,hp5,hnx5⟩:=HP2.out.next
  have HNX5:=hid hnx5
  have HNUM5:Hid (Calls Tryz.prog 65 #[.pointer (some ⟨P,0,none⟩),.int .i64 (kids.length:Nat)] w2 fun e w'=>e = .returned (.bool true)∧PenPost B P ao5 (xs++enc op.toNat++enc kids.length) w2 w'):=hid (by
   have e8:((kids.length:Nat):Int)=(kids.length:Nat):=rfl
   have e9:=enc_small (show kids.length<128 by omega)
   have q:=pnum_any B P cap5 kids.length ao5 (xs++enc op.toNat) w2 (by omega) hp5 (HBK.out _ _ HP2.out).2.2 hPB (by rw[e9];simp only[List.length_append,List.length_cons,List.length_nil];rw[enc_small (show op.toNat<128 by omega)];simp only[List.length_cons,List.length_nil];omega)
   rw[e8]at q
   exact q)
  clear hp5 hnx5
  go_wp2_with fail
  refine HNUM5.out.mono ?_
  rintro e w5 ⟨rfl,hps⟩
  have HP5:=hid (HNX5.out _ _ hps)
  obtain⟨hb,_⟩:=HBK.out _ _ HP5.out
  clear hps HNUM5 HNX5 s0 s1 s2 s3 s4
  have s0:=bC hb 0
  have s1:=bC hb 1
  have s2:=bC hb 2
  have s3:=bC hb 3
  have s4:=bC hb 4
  simp only[lA,lZ,lS]at s0 s1 s2 s3 s4
  clear hb
  go_wp2
  obtain⟨Y,hY⟩:∃Y,Y=xs++enc op.toNat++enc kids.length:=⟨_,rfl⟩
  have HYL:Hid (Y.length≤xs.length+3):=hid (by rw[hY];simp only[List.length_append];rw[enc_small (show op.toNat<128 by omega)];rw[enc_small (show kids.length<128 by omega)];simp only[List.length_cons,List.length_nil];omega)
  rw[←hY]at HP5
  have HYE:=hid hY
  clear hY
  go_loopw [34] (fun i wr=>∃j:Nat,j≤kids.length∧i = .int .i64 j∧Hid (PenPost B P pao (Y++encFs (kids.take j)) (w.alloc (.cells #[.int .i64 op,.int .i64 k,.string ⟨r.1.toArray⟩,.string ⟨r.2.toArray⟩,.slice ao kids.length cp] 46)) wr)) (fun i _=>kids.length-(intOf i).toNat)
  case atStart=>exact⟨0,Nat.zero_le _,rfl,hid (by
   have e:Y++encFs (kids.take 0)=Y:=by simp [encFs]
   rw[e]
   exact HP5.out)⟩
  case round=>
   obtain⟨j,hj,rfl,hrel⟩:=hrel
   by_cases hlt:j<kids.length
   ·obtain⟨_,hfs,hBw⟩:=HBK.out _ _ hrel.out
    obtain⟨b,off,hao,hDb,hat⟩:=hfs j hlt
    obtain⟨d,ao2,cp2,hd2,⟨a0,a1,a2,a3,a4⟩,hok2,hz2,hkids⟩:=hat.open_
    have hen:=encFs_snoc (kids.take j) kids[j]
    rw[←List.take_succ_eq_append_getElem hlt]at hen
    have hrg:=HRL.out kids[j] (List.getElem_mem hlt)
    have hle:=nodesL_get kids j hlt
    have hle2:=nodesL_take kids (j+1)
    have hle3:=encFs_len _ (rightL_take HRK.out j)
    generalize kids[j]=g at *
    have HEN:=hid hen
    have hcB:=alc wr (.cells #[.int .i64 g.op,.int .i64 g.k,.string ⟨g.r.1.toArray⟩,.string ⟨g.r.2.toArray⟩,.slice ao2 g.kids.length cp2] 46)
    have hnb:=heap_alloc_new wr (.cells #[.int .i64 g.op,.int .i64 g.k,.string ⟨g.r.1.toArray⟩,.string ⟨g.r.2.toArray⟩,.slice ao2 g.kids.length cp2] 46)
    have t0:=bC hnb 0
    have t1:=bC hnb 1
    have t2:=bC hnb 2
    have t3:=bC hnb 3
    have t4:=bC hnb 4
    simp only[lA,lZ,lS]at t0 t1 t2 t3 t4
    obtain⟨aoj,capj,hpj,hnxj⟩:=(hrel.out.quiet hcB).next
    have HNXJ:=hid hnxj
    have hyl:=HYL.out
    have HIH:=hid (HIN.out d hd2 g ao2 cp2 B P capj aoj (Y++encFs (kids.take j)) (wr.alloc (.cells #[.int .i64 g.op,.int .i64 g.k,.string ⟨g.r.1.toArray⟩,.string ⟨g.r.2.toArray⟩,.slice ao2 g.kids.length cp2] 46)) (hkids.keep hcB (fun _ _=>id)) hok2 hrg (by rw[List.length_append];omega) hpj (by have:=hcB.size;omega) hPB HD.out)
    have HLT:=hid hlt
    clear hcB hnb hrel hkids hat hfs hok2 hd2 hen hrg hle hle2 hle3 hpj hnxj hyl s0 s1 s2 s3 s4 hBw hDb
    subst hao
    go_wp2_with fail
    refine HIH.out.mono ?_
    rintro e w9 ⟨rfl,hps⟩
    have HP9:Hid (PenPost B P pao (Y++encFs (kids.take (j+1))) (w.alloc (.cells #[.int .i64 op,.int .i64 k,.string ⟨r.1.toArray⟩,.string ⟨r.2.toArray⟩,.slice (some ⟨b,off,none⟩) kids.length cp] 46)) w9):=hid (by
     have:=HNXJ.out _ _ hps
     rw[HEN.out,←List.append_assoc]
     exact this)
    clear HIH HNXJ hps a0 a1 a2 a3 a4 t0 t1 t2 t3 t4
    go_wp2
    go_roundw
    case rel=>exact⟨j+1,HLT.out,by go_num,HP9⟩
    case measure=>have:=HLT.out;simp [intOf];omega
   ·have hje:j=kids.length:=by omega
    have hr:=hrel.out
    rw[hje,List.take_length]at hr
    have HR:=hid hr
    clear hr hrel hje s0 s1 s2 s3 s4
    go_wp2
    go_ret
    refine⟨rfl,PenPost.from_ HC0.out ?_⟩
    have:=HR.out
    rw[HYE.out]at this
    simpa only[encF,if_neg HO1.out,if_neg HO4.out,List.append_assoc,List.nil_append] using this
 ·have HO1:=hid (show ¬op=1 by omega)
  have HO4:=hid h1
  have ho:0≤op∧op≤4:=by omega
  have z1:(op==1)=false:=by have:=HO1.out;simpa using this
  have z4:(op==4)=true:=by have:=HO4.out;simpa using this
  have y1:=HO1.out
  clear h1 h2
  obtain⟨ao2,cap2,hp2,hnx2⟩:=HP0.out.next
  have HNX2:=hid hnx2
  have HNUM2:Hid (Calls Tryz.prog 65 #[.pointer (some ⟨P,0,none⟩),.int .i64 op] (w.alloc (.cells #[.int .i64 op,.int .i64 k,.string ⟨r.1.toArray⟩,.string ⟨r.2.toArray⟩,.slice ao kids.length cp] 46)) fun e w'=>e = .returned (.bool true)∧PenPost B P ao2 (xs++enc op.toNat) (w.alloc (.cells #[.int .i64 op,.int .i64 k,.string ⟨r.1.toArray⟩,.string ⟨r.2.toArray⟩,.slice ao kids.length cp] 46)) w'):=hid (by
   have e8:((op.toNat:Nat):Int)=op:=Int.toNat_of_nonneg (by omega)
   have e9:=enc_small (show op.toNat<128 by omega)
   have q:=pnum_any B P cap2 op.toNat ao2 (xs) (w.alloc (.cells #[.int .i64 op,.int .i64 k,.string ⟨r.1.toArray⟩,.string ⟨r.2.toArray⟩,.slice ao kids.length cp] 46)) (by omega) hp2 hBw hPB (by rw[e9];simp only[List.length_cons,List.length_nil];omega)
   rw[e8]at q
   exact q)
  clear hp2 hnx2
  go_wp2_with fail
  refine HNUM2.out.mono ?_
  rintro e w2 ⟨rfl,hps⟩
  have HP2:=hid (HNX2.out _ _ hps)
  obtain⟨hb,_⟩:=HBK.out _ _ HP2.out
  clear hps HNUM2 HNX2 s0 s1 s2 s3 s4
  have s0:=bC hb 0
  have s1:=bC hb 1
  have s2:=bC hb 2
  have s3:=bC hb 3
  have s4:=bC hb 4
  simp only[lA,lZ,lS]at s0 s1 s2 s3 s4
  clear hb
  obtain⟨ao3,cap3,hp3,hnx3⟩:=HP2.out.next
  have HNX3:=hid hnx3
  have HNUM3:Hid (Calls Tryz.prog 65 #[.pointer (some ⟨P,0,none⟩),.int .i64 k] w2 fun e w'=>e = .returned (.bool true)∧PenPost B P ao3 (xs++enc op.toNat++enc k.toNat) w2 w'):=hid (by
   have e8:((k.toNat:Nat):Int)=k:=Int.toNat_of_nonneg (by omega)
   have e9:=enc_small (show k.toNat<128 by omega)
   have q:=pnum_any B P cap3 k.toNat ao3 (xs++enc op.toNat) w2 (by omega) hp3 (HBK.out _ _ HP2.out).2.2 hPB (by rw[e9];simp only[List.length_append,List.length_cons,List.length_nil];rw[enc_small (show op.toNat<128 by omega)];simp only[List.length_cons,List.length_nil];omega)
   rw[e8]at q
   exact q)
  clear hp3 hnx3
  go_wp2_with fail
  refine HNUM3.out.mono ?_
  rintro e w3 ⟨rfl,hps⟩
  have HP3:=hid (HNX3.out _ _ hps)
  obtain⟨hb,_⟩:=HBK.out _ _ HP3.out
  clear hps HNUM3 HNX3 s0 s1 s2 s3 s4
  have s0:=bC hb 0
  have s1:=bC hb 1
  have s2:=bC hb 2
  have s3:=bC hb 3
  have s4:=bC hb 4
  simp only[lA,lZ,lS]at s0 s1 s2 s3 s4
  clear hb
  obtain⟨ao5,cap5,hp5,hnx5⟩:=HP3.out.next
  have HNX5:=hid hnx5
  have HNUM5:Hid (Calls Tryz.prog 65 #[.pointer (some ⟨P,0,none⟩),.int .i64 (kids.length:Nat)] w3 fun e w'=>e = .returned (.bool true)∧PenPost B P ao5 (xs++enc op.toNat++enc k.toNat++enc kids.length) w3 w'):=hid (by
   have e8:((kids.length:Nat):Int)=(kids.length:Nat):=rfl
   have e9:=enc_small (show kids.length<128 by omega)
   have q:=pnum_any B P cap5 kids.length ao5 (xs++enc op.toNat++enc k.toNat) w3 (by omega) hp5 (HBK.out _ _ HP3.out).2.2 hPB (by rw[e9];simp only[List.length_append,List.length_cons,List.length_nil];rw[enc_small (show op.toNat<128 by omega)];rw[enc_small (show k.toNat<128 by omega)];simp only[List.length_cons,List.length_nil];omega)
   rw[e8]at q
   exact q)
  clear hp5 hnx5
  go_wp2_with fail
  refine HNUM5.out.mono ?_
  rintro e w5 ⟨rfl,hps⟩
  have HP5:=hid (HNX5.out _ _ hps)
  obtain⟨hb,_⟩:=HBK.out _ _ HP5.out
  clear hps HNUM5 HNX5 s0 s1 s2 s3 s4
  have s0:=bC hb 0
  have s1:=bC hb 1
  have s2:=bC hb 2
  have s3:=bC hb 3
  have s4:=bC hb 4
  simp only[lA,lZ,lS]at s0 s1 s2 s3 s4
  clear hb
  go_wp2
  obtain⟨Y,hY⟩:∃Y,Y=xs++enc op.toNat++enc k.toNat++enc kids.length:=⟨_,rfl⟩
  have HYL:Hid (Y.length≤xs.length+3):=hid (by rw[hY];simp only[List.length_append];rw[enc_small (show op.toNat<128 by omega)];rw[enc_small (show k.toNat<128 by omega)];rw[enc_small (show kids.length<128 by omega)];simp only[List.length_cons,List.length_nil];omega)
  rw[←hY]at HP5
  have HYE:=hid hY
  clear hY
  go_loopw [34] (fun i wr=>∃j:Nat,j≤kids.length∧i = .int .i64 j∧Hid (PenPost B P pao (Y++encFs (kids.take j)) (w.alloc (.cells #[.int .i64 op,.int .i64 k,.string ⟨r.1.toArray⟩,.string ⟨r.2.toArray⟩,.slice ao kids.length cp] 46)) wr)) (fun i _=>kids.length-(intOf i).toNat)
  case atStart=>exact⟨0,Nat.zero_le _,rfl,hid (by
   have e:Y++encFs (kids.take 0)=Y:=by simp [encFs]
   rw[e]
   exact HP5.out)⟩
  case round=>
   obtain⟨j,hj,rfl,hrel⟩:=hrel
   by_cases hlt:j<kids.length
   ·obtain⟨_,hfs,hBw⟩:=HBK.out _ _ hrel.out
    obtain⟨b,off,hao,hDb,hat⟩:=hfs j hlt
    obtain⟨d,ao2,cp2,hd2,⟨a0,a1,a2,a3,a4⟩,hok2,hz2,hkids⟩:=hat.open_
    have hen:=encFs_snoc (kids.take j) kids[j]
    rw[←List.take_succ_eq_append_getElem hlt]at hen
    have hrg:=HRL.out kids[j] (List.getElem_mem hlt)
    have hle:=nodesL_get kids j hlt
    have hle2:=nodesL_take kids (j+1)
    have hle3:=encFs_len _ (rightL_take HRK.out j)
    generalize kids[j]=g at *
    have HEN:=hid hen
    have hcB:=alc wr (.cells #[.int .i64 g.op,.int .i64 g.k,.string ⟨g.r.1.toArray⟩,.string ⟨g.r.2.toArray⟩,.slice ao2 g.kids.length cp2] 46)
    have hnb:=heap_alloc_new wr (.cells #[.int .i64 g.op,.int .i64 g.k,.string ⟨g.r.1.toArray⟩,.string ⟨g.r.2.toArray⟩,.slice ao2 g.kids.length cp2] 46)
    have t0:=bC hnb 0
    have t1:=bC hnb 1
    have t2:=bC hnb 2
    have t3:=bC hnb 3
    have t4:=bC hnb 4
    simp only[lA,lZ,lS]at t0 t1 t2 t3 t4
    obtain⟨aoj,capj,hpj,hnxj⟩:=(hrel.out.quiet hcB).next
    have HNXJ:=hid hnxj
    have hyl:=HYL.out
    have HIH:=hid (HIN.out d hd2 g ao2 cp2 B P capj aoj (Y++encFs (kids.take j)) (wr.alloc (.cells #[.int .i64 g.op,.int .i64 g.k,.string ⟨g.r.1.toArray⟩,.string ⟨g.r.2.toArray⟩,.slice ao2 g.kids.length cp2] 46)) (hkids.keep hcB (fun _ _=>id)) hok2 hrg (by rw[List.length_append];omega) hpj (by have:=hcB.size;omega) hPB HD.out)
    have HLT:=hid hlt
    clear hcB hnb hrel hkids hat hfs hok2 hd2 hen hrg hle hle2 hle3 hpj hnxj hyl s0 s1 s2 s3 s4 hBw hDb
    subst hao
    go_wp2_with fail
    refine HIH.out.mono ?_
    rintro e w9 ⟨rfl,hps⟩
    have HP9:Hid (PenPost B P pao (Y++encFs (kids.take (j+1))) (w.alloc (.cells #[.int .i64 op,.int .i64 k,.string ⟨r.1.toArray⟩,.string ⟨r.2.toArray⟩,.slice (some ⟨b,off,none⟩) kids.length cp] 46)) w9):=hid (by
     have:=HNXJ.out _ _ hps
     rw[HEN.out,←List.append_assoc]
     exact this)
    clear HIH HNXJ hps a0 a1 a2 a3 a4 t0 t1 t2 t3 t4
    go_wp2
    go_roundw
    case rel=>exact⟨j+1,HLT.out,by go_num,HP9⟩
    case measure=>have:=HLT.out;simp [intOf];omega
   ·have hje:j=kids.length:=by omega
    have hr:=hrel.out
    rw[hje,List.take_length]at hr
    have HR:=hid hr
    clear hr hrel hje s0 s1 s2 s3 s4
    go_wp2
    go_ret
    refine⟨rfl,PenPost.from_ HC0.out ?_⟩
    have:=HR.out
    rw[HYE.out]at this
    simpa only[encF,if_neg HO1.out,if_pos HO4.out,List.append_assoc,List.nil_append] using this
end
section
open Go.RowKit
theorem isF_right {f:FmB} (h:isF f=true):nodesF f≤64∧deepF f≤6∧rightF f=true:=by
 simpa [isF] using h
set_option maxRecDepth 100000 in
set_option maxHeartbeats 4000000 in
theorem fm_putno {D:Nat→Prop} (p:Value) (n:Nat) (f:FmB) (ao:Option Addr) (cp:Nat) (w:World) (h:FmsAt D w n ao f.kids) (hD:∀i,D i→i<w.heap.size) (hok:FmOk f) (hN:nodesF f≤4096) (hno:isF f=false) :
  Calls Tryz.prog 140 #[p,.agg #[.int .i64 f.op,.int .i64 f.k,.string ⟨f.r.1.toArray⟩,.string ⟨f.r.2.toArray⟩,.slice ao f.kids.length cp]] w fun e w'=>e = .returned (.bool false)∧Chg (fun _=>False) w w':=by
 have hcA:=alc w (.cells #[.int .i64 f.op,.int .i64 f.k,.string ⟨f.r.1.toArray⟩,.string ⟨f.r.2.toArray⟩,.slice ao f.kids.length cp] 46)
 have hb:=heap_alloc_new w (.cells #[.int .i64 f.op,.int .i64 f.k,.string ⟨f.r.1.toArray⟩,.string ⟨f.r.2.toArray⟩,.slice ao f.kids.length cp] 46)
 have s0:=bC hb 0
 have s1:=bC hb 1
 have s2:=bC hb 2
 have s3:=bC hb 3
 have s4:=bC hb 4
 simp only[lA,lZ,lS]at s0 s1 s2 s3 s4
 have HRT:=hid (fm_right n f ao cp (w.alloc (.cells #[.int .i64 f.op,.int .i64 f.k,.string ⟨f.r.1.toArray⟩,.string ⟨f.r.2.toArray⟩,.slice ao f.kids.length cp] 46)) (h.keep hcA (fun _ _=>id)) (fun i hi=>Nat.lt_of_lt_of_le (hD i hi) hcA.size) hok hN)
 rw[hno]at HRT
 have HC0:=hid hcA
 clear hcA hb h hD hok hno
 go_enter Tryz.func140,Tryz.ntmps140
 go_wp2_with fail
 refine HRT.out.mono ?_
 rintro e w2 ⟨rfl,hc2⟩
 have HC2:=hid (HC0.out.trans hc2 (fun _ _ h=>h))
 clear hc2 HRT HC0
 go_wp2
 go_ret
 exact⟨rfl,HC2.out⟩
set_option maxRecDepth 100000 in
set_option maxHeartbeats 4000000 in
theorem fm_putyes {D:Nat→Prop} (n:Nat) (f:FmB) (ao:Option Addr) (cp B P pcap:Nat) (pao:Option Addr) (xs:List UInt8) (w:World) (h:FmsAt D w n ao f.kids) (hok:FmOk f) (hyes:isF f=true) (hx:xs.length≤800000) (hp:PenAt B w P pao pcap xs) (hB:B≤w.heap.size) (hPB:P<B) (hD:∀i,D i→i<B∧i≠P) :
  Calls Tryz.prog 140 #[.pointer (some ⟨P,0,none⟩),.agg #[.int .i64 f.op,.int .i64 f.k,.string ⟨f.r.1.toArray⟩,.string ⟨f.r.2.toArray⟩,.slice ao f.kids.length cp]] w fun e w'=>e = .returned (.bool true)∧PenPost B P pao (xs++encF f) w w':=by
 have hr:=isF_right hyes
 have hcA:=alc w (.cells #[.int .i64 f.op,.int .i64 f.k,.string ⟨f.r.1.toArray⟩,.string ⟨f.r.2.toArray⟩,.slice ao f.kids.length cp] 46)
 have hb:=heap_alloc_new w (.cells #[.int .i64 f.op,.int .i64 f.k,.string ⟨f.r.1.toArray⟩,.string ⟨f.r.2.toArray⟩,.slice ao f.kids.length cp] 46)
 have s0:=bC hb 0
 have s1:=bC hb 1
 have s2:=bC hb 2
 have s3:=bC hb 3
 have s4:=bC hb 4
 simp only[lA,lZ,lS]at s0 s1 s2 s3 s4
 have HRT:=hid (fm_right n f ao cp (w.alloc (.cells #[.int .i64 f.op,.int .i64 f.k,.string ⟨f.r.1.toArray⟩,.string ⟨f.r.2.toArray⟩,.slice ao f.kids.length cp] 46)) (h.keep hcA (fun _ _=>id)) (fun i hi=>by have:=(hD i hi).1;have:=hcA.size;omega) hok (by omega))
 rw[hyes]at HRT
 have HPU:=hid (fun w2 (hc:Chg (fun _=>False) (w.alloc (.cells #[.int .i64 f.op,.int .i64 f.k,.string ⟨f.r.1.toArray⟩,.string ⟨f.r.2.toArray⟩,.slice ao f.kids.length cp] 46)) w2)=>fm_put n f ao cp B P pcap pao xs w2 ((h.keep hcA (fun _ _=>id)).keep hc (fun _ _=>id)) hok hr.2.2 (by omega) ((hp.keep hcA id (fun _ _=>id)).keep hc id (fun _ _=>id)) (by have:=hcA.size;have:=hc.size;omega) hPB hD)
 have HC0:=hid hcA
 have HB0:=hid hb
 clear hcA hb h hD hok hyes hp hr
 go_enter Tryz.func140,Tryz.ntmps140
 go_wp2_with fail
 refine HRT.out.mono ?_
 rintro e w2 ⟨rfl,hc2⟩
 have HPUT:=hid (HPU.out w2 hc2)
 have HC2:=hid (HC0.out.trans hc2 (fun _ _ h=>h))
 have hb:=bE HB0.out hc2 id
 clear hc2 HRT HC0 HPU s0 s1 s2 s3 s4
 have s0:=bC hb 0
 have s1:=bC hb 1
 have s2:=bC hb 2
 have s3:=bC hb 3
 have s4:=bC hb 4
 simp only[lA,lZ,lS]at s0 s1 s2 s3 s4
 clear hb
 go_wp2_with fail
 refine HPUT.out.mono ?_
 rintro e w3 ⟨rfl,hps⟩
 have HP:=hid (PenPost.from_ HC2.out hps)
 clear hps HPUT s0 s1 s2 s3 s4
 go_wp2
 go_ret
 exact⟨rfl,HP.out⟩
end
section
open Go.RowKit
theorem run_loadBytes {P:Program} (b off:Nat) (w:World):∀(l:List UInt8) (k:Nat) (acc:List UInt8),(∀i (h:i<l.length),w.cell? ⟨b,off+k+i,none⟩=some (.int .u8 (l[i].toNat:Int)))→
  (Extern.Bytes.loadBytes ⟨b,off+k,none⟩ l.length ⟨acc.toArray⟩).run P w = .ok ⟨(acc++l).toArray⟩ w
 | [],k,acc,_=>by
  rw[List.append_nil]
  rfl
 | x::l,k,acc,h=>by
  have h0:=h 0 (by simp)
  simp only[Nat.add_zero,List.getElem_cons_zero]at h0
  have ih:=run_loadBytes (P:=P) b off w l (k+1) (acc++[x]) (fun i hi=>by
   have:=h (i+1) (by simpa using hi)
   rw[show off+(k+1)+i=off+k+(i+1) by omega]
   simpa using this)
  show Sem.run P (do match ←load ⟨b,off+k,none⟩ with
   | .int .u8 y=>Extern.Bytes.loadBytes ((⟨b,off+k,none⟩:Addr).add 1) l.length ((⟨acc.toArray⟩:ByteArray).push y.toNat.toUInt8)
   | _ => stuck "loadBytes: a byte expected") w = _
  rw[Sem.run_bind,_root_.Go.run_load,h0]
  simp only[Result.andThen]
  have e1:((⟨acc.toArray⟩:ByteArray).push ((x.toNat:Int).toNat.toUInt8))=⟨(acc++[x]).toArray⟩:=by
   have:((x.toNat:Int).toNat.toUInt8)=x:=by simp
   rw[this]
   simp [ByteArray.push]
  rw[e1,show ((⟨b,off+k,none⟩:Addr).add 1)=⟨b,off+(k+1),none⟩ from rfl,ih]
  simp
theorem run_bytesOf {P:Program} {D:Nat→Prop} {w:World} {v:Value} {l:List UInt8} (h:BytesAt D w v l):(Extern.Bytes.bytesOf v).run P w = .ok ⟨l.toArray⟩ w:=by
 rcases h with ⟨ao,cp,rfl,rfl,_⟩|⟨b,off,cap,rfl,_,_,_,hc⟩
 ·cases ao <;> rfl
 ·have:=run_loadBytes (P:=P) b off w l 0 [] (fun i hi=>by rw[Nat.add_zero];exact hc i hi)
  rw[Nat.add_zero,List.nil_append]at this
  exact this
theorem run_compareSlices {P:Program} {D E:Nat→Prop} {w:World} {u v:Value} {a b:List UInt8} (ha:BytesAt D w u a) (hb:BytesAt E w v b) :
  (Extern.BytealgCompare.compare #[u,v]).run P w = .ok (.int .i64 (Lib.compareBytes a b)) w:=by
 change Sem.run P (do pure (goInt (Extern.BytealgCompare.cmp (←Extern.Bytes.bytesOf u) (←Extern.Bytes.bytesOf v)))) w=_
 rw[Sem.run_bind,run_bytesOf ha]
 simp only[Result.andThen]
 rw[Sem.run_bind,run_bytesOf hb]
 simp only[Result.andThen,Sem.run_pure]
 rw[Lib.cmp_eq]
 rfl
set_option maxRecDepth 100000 in
theorem bytes_compare {D E:Nat→Prop} {u v:Value} {a b:List UInt8} (w:World) (ha:BytesAt D w u a) (hb:BytesAt E w v b) :
  Calls Tryz.prog 41 #[u,v] w fun e w'=>e = .returned (.int .i64 (Lib.compareBytes a b))∧w=w':=by
 have hrun:=run_compareSlices (P:=Tryz.prog) ha hb
 have HR:=hid hrun
 clear hrun ha hb
 go_enter Tryz.func41,Tryz.ntmps41
 go_wp2
 rw[run_callFunc_extern Tryz.func71 (by kernel_rfl) (by kernel_rfl) (by kernel_rfl) (e:=Extern.BytealgCompare.compare) (by kernel_rfl),HR.out]
 simp only[Result.andThen]
 rw[Oper.upon_value]
 go_wp2
 go_ret
 exact⟨rfl,rfl⟩
end
end Go.Proofs.YtkfinhpfdcjoeaaGreat
