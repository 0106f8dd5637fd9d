/- Texts that the proof leans on, in one: PcBytes, FmBytes. -/
import Derived.Test.YtkfinhpfdcjoeaaGreatNa8
import Derived.Test.YtkfinhpfdcjoeaaGreatNa6
import Derived.Test.YtkfinhpfdcjoeaaGreatNa7
/- cred.Bytes: the program's contract. -/
namespace Go.Proofs.YtkfinhpfdcjoeaaGreat
section
open Go.RowKit
theorem pc_roleEnc_len {r:RoleB} (h:isRole r=true):(roleEnc r).length≤34:=by
 have hl:=role_len h
 rw[roleEnc,enc_small (by omega),enc_small (by omega)]
 simp
 omega
theorem pc_encS_len {s:List UInt8} (h:isName s=true):(encS s).length≤17:=by
 have hl:=(isName_len h).2
 rw[encS,enc_small (by omega)]
 simp
 omega
/-- What Bytes leaves. -/
def BytesPostC (c:CredB) (w:World) (e:Ending) (w':World):Prop:=
 ∃ao cap,e = .returned (.slice ao (credBytes c).length cap)∧BytesAt (fun k=>w.heap.size≤k∧k<w'.heap.size) w' (.slice ao (credBytes c).length cap) (credBytes c)∧Chg (fun _=>False) w w'
theorem credShort.mono' {c:CredB} {n m:Nat} (h:credShort c n) (hm:n≤m):credShort c m:=by
 obtain⟨s1,s2,s3,s4,s5,s6,s7,s8⟩:=h
 exact⟨Nat.le_trans s1 hm,Nat.le_trans s2 hm,Nat.le_trans s3 hm,Nat.le_trans s4 hm,Nat.le_trans s5 hm,Nat.le_trans s6 hm,Nat.le_trans s7 hm,Nat.le_trans s8 hm⟩
set_option maxRecDepth 100000 in
set_option maxHeartbeats 2000000 in
theorem pcbytes1 (h1 h2 who b1 b2 c1 c2 w2:List UInt8) (w:World) (hr:isCred ⟨1,(h1,h2),who,(b1,b2),(c1,c2),w2⟩=true) :
  Calls Tryz.prog 38 #[credV ⟨1,(h1,h2),who,(b1,b2),(c1,c2),w2⟩] w (BytesPostC ⟨1,(h1,h2),who,(b1,b2),(c1,c2),w2⟩ w):=by
 have hB0:Hid (credBytes ⟨1,(h1,h2),who,(b1,b2),(c1,c2),w2⟩=credEnc ⟨1,(h1,h2),who,(b1,b2),(c1,c2),w2⟩):=hid (if_pos hr)
 have x_h:=isCred_head hr
 have x_who:=(isCred_one hr rfl).1
 dsimp only at x_h x_who
 have L_h:=pc_roleEnc_len x_h
 have L_who:=pc_encS_len x_who
 have HN:=hid (aI x_h (aI x_who (aI L_h L_who)))
 clear x_h L_h x_who L_who
 have hA1:=heap_alloc_new w (.cells (credBox ⟨1,(h1,h2),who,(b1,b2),(c1,c2),w2⟩) 34)
 have hc01:=alc w (.cells (credBox ⟨1,(h1,h2),who,(b1,b2),(c1,c2),w2⟩) 34)
 have hrt:=pcright ⟨1,(h1,h2),who,(b1,b2),(c1,c2),w2⟩ (w.alloc (.cells (credBox ⟨1,(h1,h2),who,(b1,b2),(c1,c2),w2⟩) 34)) (((isCred_short hr)).mono' (by decide))
 rw[hr]at hrt
 have HH:=hid (aI hrt (aI hA1 hc01))
 clear hrt hA1 hc01 hr
 show Calls Tryz.prog 38 #[.agg #[.int .i64 1,.string ⟨h1.toArray⟩,.string ⟨h2.toArray⟩,.string ⟨who.toArray⟩,.string ⟨b1.toArray⟩,.string ⟨b2.toArray⟩,.string ⟨c1.toArray⟩,.string ⟨c2.toArray⟩,.string ⟨w2.toArray⟩]] w _
 go_enter Tryz.func38,Tryz.ntmps38
 go_wp2_with fail
 obtain⟨hrt,hA1,hc01⟩:=HH.out
 clear HH
 refine hrt.mono ?_
 rintro e v2 ⟨rfl,hc2⟩
 have hA2:=bE hA1 hc2 id
 have hcw:=hc01.trans hc2 (fun _ _ h=>h)
 have hsz2:w.heap.size<v2.heap.size:=lt_blk hA2
 clear hrt hA1 hc01 hc2
 generalize hAz:w.heap.size=A at *
 have HAz:=hid hAz
 clear hAz
 obtain⟨a0,a1,a2,a3,a4,a5,a6,a7,a8⟩:=cred_at_blk (hA2)
 simp only[Nat.zero_add]at a0 a1 a2 a3 a4 a5 a6 a7 a8
 have hq:=pen_new v2 (v2.heap.size+1)
 have hc3:=alc v2 (.cells #[.slice none 0 0] 118)
 have hs3:v2.heap.size+1≤(v2.alloc (.cells #[.slice none 0 0] 118)).heap.size:=by simp
 have KK:=hid (aI hq (aI hc3 (aI hs3 (aI hA2 hcw))))
 clear hq hc3 hs3 hA2 hcw
 go_wp2_with fail
 obtain⟨hq,hc3,hs3,hA2,hcw⟩:=KK.out
 clear KK a0 a1 a2 a3 a4 a5 a6 a7 a8
 generalize v2.alloc (.cells #[.slice none 0 0] 118)=v3 at *
 generalize hP:v2.heap.size=Pn at *
 have HP:=hid hP
 clear hP
 refine(pnum_any (Pn+1) Pn 0 1 none [] v3 (by decide) hq hs3 (by omega) (by rw[enc_small (by decide)];decide)).mono ?_
 rintro e v4 ⟨rfl,ao4,cp4,hp4,hch⟩
 have hc4:=pchg_new hc3 hq (Nat.lt_succ_self Pn) (by rw[HP.out];exact Nat.le_refl _) hch
 have hs4:=Nat.le_trans hs3 hch.chg.size
 have hl4:([]++enc 1).length≤1:=by rw[enc_small (by decide)];decide
 clear hq hc3 hs3 hch
 have hA4:=bE hA2 hc4 id
 obtain⟨a0,a1,a2,a3,a4,a5,a6,a7,a8⟩:=cred_at_blk (hA4)
 simp only[Nat.zero_add]at a0 a1 a2 a3 a4 a5 a6 a7 a8
 clear hA4
 generalize hzs4:([]++enc 1)=zs4 at *
 have KK:=hid (aI hzs4 (aI hp4 (aI hc4 (aI hs4 (aI hl4 (aI hA2 hcw))))))
 clear hzs4 hp4 hc4 hs4 hl4 hA2 hcw
 go_wp2_with fail
 obtain⟨hzs4,hp4,hc4,hs4,hl4,hA2,hcw⟩:=KK.out
 clear KK a0 a1 a2 a3 a4 a5 a6 a7 a8
 obtain⟨x_h,x_who,L_h,L_who⟩:=HN.out
 refine(pput_yes (Pn+1) Pn cp4 ao4 zs4 (h1,h2) v4 hp4 hs4 (by omega) (by omega) x_h).mono ?_
 rintro e v5 ⟨rfl,ao5,cp5,hp5,hch⟩
 have hc5:=pchg_new hc4 hp4 (Nat.lt_succ_self Pn) (by rw[HP.out];exact Nat.le_refl _) hch
 have hs5:=Nat.le_trans hs4 hch.chg.size
 have hl5:(zs4++roleEnc (h1,h2)).length≤35:=by rw[List.length_append];omega
 subst hzs4
 clear hch hp4 hc4 hs4 hl4 x_h x_who L_h L_who
 have hA5:=bE hA2 hc5 id
 obtain⟨a0,a1,a2,a3,a4,a5,a6,a7,a8⟩:=cred_at_blk (hA5)
 simp only[Nat.zero_add]at a0 a1 a2 a3 a4 a5 a6 a7 a8
 clear hA5
 generalize hzs5:(([]++enc 1)++roleEnc (h1,h2))=zs5 at *
 have KK:=hid (aI hzs5 (aI hp5 (aI hc5 (aI hs5 (aI hl5 (aI hA2 hcw))))))
 clear hzs5 hp5 hc5 hs5 hl5 hA2 hcw
 go_wp2_with fail
 obtain⟨hzs5,hp5,hc5,hs5,hl5,hA2,hcw⟩:=KK.out
 clear KK a0 a1 a2 a3 a4 a5 a6 a7 a8
 obtain⟨x_h,x_who,L_h,L_who⟩:=HN.out
 refine(put_yes (Pn+1) Pn cp5 ao5 zs5 who v5 hp5 hs5 (by omega) (by omega) x_who).mono ?_
 rintro e v6 ⟨rfl,ao6,cp6,hp6,hch⟩
 have hc6:=pchg_new hc5 hp5 (Nat.lt_succ_self Pn) (by rw[HP.out];exact Nat.le_refl _) hch
 have hs6:=Nat.le_trans hs5 hch.chg.size
 have hl6:(zs5++encS who).length≤52:=by rw[List.length_append];omega
 change PenAt _ _ _ _ _ (zs5++encS who) at hp6
 subst hzs5
 clear hch hp5 hc5 hs5 hl5 x_h x_who L_h L_who
 generalize hzs:((([]++enc 1)++roleEnc (h1,h2))++encS who)=zs at *
 have KK:=hid (aI hzs (aI hp6 (aI hc6 (aI hs6 (aI hl6 (aI hA2 hcw))))))
 clear hzs hp6 hc6 hs6 hl6 hA2 hcw
 go_wp2_with fail
 obtain⟨hzs,hp6,hc6,hs6,hl6,hA2,hcw⟩:=KK.out
 clear KK
 refine(bytes_any (Pn+1) Pn cp6 ao6 zs v6 hp6 (by omega)).mono ?_
 rintro e v9 ⟨ao9,cp9,rfl,hb9,hc9⟩
 have hcc:Chg (fun _=>False) w v9:=(hcw.trans hc6 (fun _ _ h=>h)).trans hc9 (fun _ _ h=>h)
 have hle:A≤v6.heap.size:=by have:=hcw.size;have:=hc6.size;rw[HAz.out]at *;omega
 have HQ:=hid (aI hb9 (aI hcc (aI hzs hle)))
 clear hzs hp6 hc6 hs6 hl6 hA2 hcw hb9 hcc hc9 hle hsz2
 go_wp2
 go_ret
 obtain⟨hb9,hcc,hzs,hle⟩:=HQ.out
 have hzc:zs=credBytes ⟨1,(h1,h2),who,(b1,b2),(c1,c2),w2⟩:=by rw[hB0.out,←hzs];simp [credEnc,credTail,encS]
 unfold BytesPostC
 rw[←hzc,HAz.out]
 exact⟨ao9,cp9,rfl,hb9.mono (fun i hi=>⟨Nat.le_trans hle hi.1,hi.2⟩),hcc⟩
set_option maxRecDepth 100000 in
set_option maxHeartbeats 2000000 in
theorem pcbytes2 (h1 h2 who b1 b2 c1 c2 w2:List UInt8) (w:World) (hr:isCred ⟨2,(h1,h2),who,(b1,b2),(c1,c2),w2⟩=true) :
  Calls Tryz.prog 38 #[credV ⟨2,(h1,h2),who,(b1,b2),(c1,c2),w2⟩] w (BytesPostC ⟨2,(h1,h2),who,(b1,b2),(c1,c2),w2⟩ w):=by
 have hB0:Hid (credBytes ⟨2,(h1,h2),who,(b1,b2),(c1,c2),w2⟩=credEnc ⟨2,(h1,h2),who,(b1,b2),(c1,c2),w2⟩):=hid (if_pos hr)
 have x_h:=isCred_head hr
 have x_b:=(isCred_two hr rfl).2.1
 dsimp only at x_h x_b
 have L_h:=pc_roleEnc_len x_h
 have L_b:=pc_roleEnc_len x_b
 have HN:=hid (aI x_h (aI x_b (aI L_h L_b)))
 clear x_h L_h x_b L_b
 have hA1:=heap_alloc_new w (.cells (credBox ⟨2,(h1,h2),who,(b1,b2),(c1,c2),w2⟩) 34)
 have hc01:=alc w (.cells (credBox ⟨2,(h1,h2),who,(b1,b2),(c1,c2),w2⟩) 34)
 have hrt:=pcright ⟨2,(h1,h2),who,(b1,b2),(c1,c2),w2⟩ (w.alloc (.cells (credBox ⟨2,(h1,h2),who,(b1,b2),(c1,c2),w2⟩) 34)) (((isCred_short hr)).mono' (by decide))
 rw[hr]at hrt
 have HH:=hid (aI hrt (aI hA1 hc01))
 clear hrt hA1 hc01 hr
 show Calls Tryz.prog 38 #[.agg #[.int .i64 2,.string ⟨h1.toArray⟩,.string ⟨h2.toArray⟩,.string ⟨who.toArray⟩,.string ⟨b1.toArray⟩,.string ⟨b2.toArray⟩,.string ⟨c1.toArray⟩,.string ⟨c2.toArray⟩,.string ⟨w2.toArray⟩]] w _
 go_enter Tryz.func38,Tryz.ntmps38
 go_wp2_with fail
 obtain⟨hrt,hA1,hc01⟩:=HH.out
 clear HH
 refine hrt.mono ?_
 rintro e v2 ⟨rfl,hc2⟩
 have hA2:=bE hA1 hc2 id
 have hcw:=hc01.trans hc2 (fun _ _ h=>h)
 have hsz2:w.heap.size<v2.heap.size:=lt_blk hA2
 clear hrt hA1 hc01 hc2
 generalize hAz:w.heap.size=A at *
 have HAz:=hid hAz
 clear hAz
 obtain⟨a0,a1,a2,a3,a4,a5,a6,a7,a8⟩:=cred_at_blk (hA2)
 simp only[Nat.zero_add]at a0 a1 a2 a3 a4 a5 a6 a7 a8
 have hq:=pen_new v2 (v2.heap.size+1)
 have hc3:=alc v2 (.cells #[.slice none 0 0] 118)
 have hs3:v2.heap.size+1≤(v2.alloc (.cells #[.slice none 0 0] 118)).heap.size:=by simp
 have KK:=hid (aI hq (aI hc3 (aI hs3 (aI hA2 hcw))))
 clear hq hc3 hs3 hA2 hcw
 go_wp2_with fail
 obtain⟨hq,hc3,hs3,hA2,hcw⟩:=KK.out
 clear KK a0 a1 a2 a3 a4 a5 a6 a7 a8
 generalize v2.alloc (.cells #[.slice none 0 0] 118)=v3 at *
 generalize hP:v2.heap.size=Pn at *
 have HP:=hid hP
 clear hP
 refine(pnum_any (Pn+1) Pn 0 2 none [] v3 (by decide) hq hs3 (by omega) (by rw[enc_small (by decide)];decide)).mono ?_
 rintro e v4 ⟨rfl,ao4,cp4,hp4,hch⟩
 have hc4:=pchg_new hc3 hq (Nat.lt_succ_self Pn) (by rw[HP.out];exact Nat.le_refl _) hch
 have hs4:=Nat.le_trans hs3 hch.chg.size
 have hl4:([]++enc 2).length≤1:=by rw[enc_small (by decide)];decide
 clear hq hc3 hs3 hch
 have hA4:=bE hA2 hc4 id
 obtain⟨a0,a1,a2,a3,a4,a5,a6,a7,a8⟩:=cred_at_blk (hA4)
 simp only[Nat.zero_add]at a0 a1 a2 a3 a4 a5 a6 a7 a8
 clear hA4
 generalize hzs4:([]++enc 2)=zs4 at *
 have KK:=hid (aI hzs4 (aI hp4 (aI hc4 (aI hs4 (aI hl4 (aI hA2 hcw))))))
 clear hzs4 hp4 hc4 hs4 hl4 hA2 hcw
 go_wp2_with fail
 obtain⟨hzs4,hp4,hc4,hs4,hl4,hA2,hcw⟩:=KK.out
 clear KK a0 a1 a2 a3 a4 a5 a6 a7 a8
 obtain⟨x_h,x_b,L_h,L_b⟩:=HN.out
 refine(pput_yes (Pn+1) Pn cp4 ao4 zs4 (h1,h2) v4 hp4 hs4 (by omega) (by omega) x_h).mono ?_
 rintro e v5 ⟨rfl,ao5,cp5,hp5,hch⟩
 have hc5:=pchg_new hc4 hp4 (Nat.lt_succ_self Pn) (by rw[HP.out];exact Nat.le_refl _) hch
 have hs5:=Nat.le_trans hs4 hch.chg.size
 have hl5:(zs4++roleEnc (h1,h2)).length≤35:=by rw[List.length_append];omega
 subst hzs4
 clear hch hp4 hc4 hs4 hl4 x_h x_b L_h L_b
 have hA5:=bE hA2 hc5 id
 obtain⟨a0,a1,a2,a3,a4,a5,a6,a7,a8⟩:=cred_at_blk (hA5)
 simp only[Nat.zero_add]at a0 a1 a2 a3 a4 a5 a6 a7 a8
 clear hA5
 generalize hzs5:(([]++enc 2)++roleEnc (h1,h2))=zs5 at *
 have KK:=hid (aI hzs5 (aI hp5 (aI hc5 (aI hs5 (aI hl5 (aI hA2 hcw))))))
 clear hzs5 hp5 hc5 hs5 hl5 hA2 hcw
 go_wp2_with fail
 obtain⟨hzs5,hp5,hc5,hs5,hl5,hA2,hcw⟩:=KK.out
 clear KK a0 a1 a2 a3 a4 a5 a6 a7 a8
 obtain⟨x_h,x_b,L_h,L_b⟩:=HN.out
 refine(pput_yes (Pn+1) Pn cp5 ao5 zs5 (b1,b2) v5 hp5 hs5 (by omega) (by omega) x_b).mono ?_
 rintro e v6 ⟨rfl,ao6,cp6,hp6,hch⟩
 have hc6:=pchg_new hc5 hp5 (Nat.lt_succ_self Pn) (by rw[HP.out];exact Nat.le_refl _) hch
 have hs6:=Nat.le_trans hs5 hch.chg.size
 have hl6:(zs5++roleEnc (b1,b2)).length≤69:=by rw[List.length_append];omega
 subst hzs5
 clear hch hp5 hc5 hs5 hl5 x_h x_b L_h L_b
 generalize hzs:((([]++enc 2)++roleEnc (h1,h2))++roleEnc (b1,b2))=zs at *
 have KK:=hid (aI hzs (aI hp6 (aI hc6 (aI hs6 (aI hl6 (aI hA2 hcw))))))
 clear hzs hp6 hc6 hs6 hl6 hA2 hcw
 go_wp2_with fail
 obtain⟨hzs,hp6,hc6,hs6,hl6,hA2,hcw⟩:=KK.out
 clear KK
 refine(bytes_any (Pn+1) Pn cp6 ao6 zs v6 hp6 (by omega)).mono ?_
 rintro e v9 ⟨ao9,cp9,rfl,hb9,hc9⟩
 have hcc:Chg (fun _=>False) w v9:=(hcw.trans hc6 (fun _ _ h=>h)).trans hc9 (fun _ _ h=>h)
 have hle:A≤v6.heap.size:=by have:=hcw.size;have:=hc6.size;rw[HAz.out]at *;omega
 have HQ:=hid (aI hb9 (aI hcc (aI hzs hle)))
 clear hzs hp6 hc6 hs6 hl6 hA2 hcw hb9 hcc hc9 hle hsz2
 go_wp2
 go_ret
 obtain⟨hb9,hcc,hzs,hle⟩:=HQ.out
 have hzc:zs=credBytes ⟨2,(h1,h2),who,(b1,b2),(c1,c2),w2⟩:=by rw[hB0.out,←hzs];simp [credEnc,credTail]
 unfold BytesPostC
 rw[←hzc,HAz.out]
 exact⟨ao9,cp9,rfl,hb9.mono (fun i hi=>⟨Nat.le_trans hle hi.1,hi.2⟩),hcc⟩
set_option maxRecDepth 100000 in
set_option maxHeartbeats 2000000 in
theorem pcbytes3 (h1 h2 who b1 b2 c1 c2 w2:List UInt8) (w:World) (hr:isCred ⟨3,(h1,h2),who,(b1,b2),(c1,c2),w2⟩=true) :
  Calls Tryz.prog 38 #[credV ⟨3,(h1,h2),who,(b1,b2),(c1,c2),w2⟩] w (BytesPostC ⟨3,(h1,h2),who,(b1,b2),(c1,c2),w2⟩ w):=by
 have hB0:Hid (credBytes ⟨3,(h1,h2),who,(b1,b2),(c1,c2),w2⟩=credEnc ⟨3,(h1,h2),who,(b1,b2),(c1,c2),w2⟩):=hid (if_pos hr)
 have x_h:=isCred_head hr
 have x_b:=(isCred_three hr rfl).2.1
 have x_w2:=(isCred_three hr rfl).2.2.2.2
 dsimp only at x_h x_b x_w2
 have L_h:=pc_roleEnc_len x_h
 have L_b:=pc_roleEnc_len x_b
 have L_w2:=pc_encS_len x_w2
 have HN:=hid (aI x_h (aI x_b (aI x_w2 (aI L_h (aI L_b L_w2)))))
 clear x_h L_h x_b L_b x_w2 L_w2
 have hA1:=heap_alloc_new w (.cells (credBox ⟨3,(h1,h2),who,(b1,b2),(c1,c2),w2⟩) 34)
 have hc01:=alc w (.cells (credBox ⟨3,(h1,h2),who,(b1,b2),(c1,c2),w2⟩) 34)
 have hrt:=pcright ⟨3,(h1,h2),who,(b1,b2),(c1,c2),w2⟩ (w.alloc (.cells (credBox ⟨3,(h1,h2),who,(b1,b2),(c1,c2),w2⟩) 34)) (((isCred_short hr)).mono' (by decide))
 rw[hr]at hrt
 have HH:=hid (aI hrt (aI hA1 hc01))
 clear hrt hA1 hc01 hr
 show Calls Tryz.prog 38 #[.agg #[.int .i64 3,.string ⟨h1.toArray⟩,.string ⟨h2.toArray⟩,.string ⟨who.toArray⟩,.string ⟨b1.toArray⟩,.string ⟨b2.toArray⟩,.string ⟨c1.toArray⟩,.string ⟨c2.toArray⟩,.string ⟨w2.toArray⟩]] w _
 go_enter Tryz.func38,Tryz.ntmps38
 go_wp2_with fail
 obtain⟨hrt,hA1,hc01⟩:=HH.out
 clear HH
 refine hrt.mono ?_
 rintro e v2 ⟨rfl,hc2⟩
 have hA2:=bE hA1 hc2 id
 have hcw:=hc01.trans hc2 (fun _ _ h=>h)
 have hsz2:w.heap.size<v2.heap.size:=lt_blk hA2
 clear hrt hA1 hc01 hc2
 generalize hAz:w.heap.size=A at *
 have HAz:=hid hAz
 clear hAz
 obtain⟨a0,a1,a2,a3,a4,a5,a6,a7,a8⟩:=cred_at_blk (hA2)
 simp only[Nat.zero_add]at a0 a1 a2 a3 a4 a5 a6 a7 a8
 have hq:=pen_new v2 (v2.heap.size+1)
 have hc3:=alc v2 (.cells #[.slice none 0 0] 118)
 have hs3:v2.heap.size+1≤(v2.alloc (.cells #[.slice none 0 0] 118)).heap.size:=by simp
 have KK:=hid (aI hq (aI hc3 (aI hs3 (aI hA2 hcw))))
 clear hq hc3 hs3 hA2 hcw
 go_wp2_with fail
 obtain⟨hq,hc3,hs3,hA2,hcw⟩:=KK.out
 clear KK a0 a1 a2 a3 a4 a5 a6 a7 a8
 generalize v2.alloc (.cells #[.slice none 0 0] 118)=v3 at *
 generalize hP:v2.heap.size=Pn at *
 have HP:=hid hP
 clear hP
 refine(pnum_any (Pn+1) Pn 0 3 none [] v3 (by decide) hq hs3 (by omega) (by rw[enc_small (by decide)];decide)).mono ?_
 rintro e v4 ⟨rfl,ao4,cp4,hp4,hch⟩
 have hc4:=pchg_new hc3 hq (Nat.lt_succ_self Pn) (by rw[HP.out];exact Nat.le_refl _) hch
 have hs4:=Nat.le_trans hs3 hch.chg.size
 have hl4:([]++enc 3).length≤1:=by rw[enc_small (by decide)];decide
 clear hq hc3 hs3 hch
 have hA4:=bE hA2 hc4 id
 obtain⟨a0,a1,a2,a3,a4,a5,a6,a7,a8⟩:=cred_at_blk (hA4)
 simp only[Nat.zero_add]at a0 a1 a2 a3 a4 a5 a6 a7 a8
 clear hA4
 generalize hzs4:([]++enc 3)=zs4 at *
 have KK:=hid (aI hzs4 (aI hp4 (aI hc4 (aI hs4 (aI hl4 (aI hA2 hcw))))))
 clear hzs4 hp4 hc4 hs4 hl4 hA2 hcw
 go_wp2_with fail
 obtain⟨hzs4,hp4,hc4,hs4,hl4,hA2,hcw⟩:=KK.out
 clear KK a0 a1 a2 a3 a4 a5 a6 a7 a8
 obtain⟨x_h,x_b,x_w2,L_h,L_b,L_w2⟩:=HN.out
 refine(pput_yes (Pn+1) Pn cp4 ao4 zs4 (h1,h2) v4 hp4 hs4 (by omega) (by omega) x_h).mono ?_
 rintro e v5 ⟨rfl,ao5,cp5,hp5,hch⟩
 have hc5:=pchg_new hc4 hp4 (Nat.lt_succ_self Pn) (by rw[HP.out];exact Nat.le_refl _) hch
 have hs5:=Nat.le_trans hs4 hch.chg.size
 have hl5:(zs4++roleEnc (h1,h2)).length≤35:=by rw[List.length_append];omega
 subst hzs4
 clear hch hp4 hc4 hs4 hl4 x_h x_b x_w2 L_h L_b L_w2
 have hA5:=bE hA2 hc5 id
 obtain⟨a0,a1,a2,a3,a4,a5,a6,a7,a8⟩:=cred_at_blk (hA5)
 simp only[Nat.zero_add]at a0 a1 a2 a3 a4 a5 a6 a7 a8
 clear hA5
 generalize hzs5:(([]++enc 3)++roleEnc (h1,h2))=zs5 at *
 have KK:=hid (aI hzs5 (aI hp5 (aI hc5 (aI hs5 (aI hl5 (aI hA2 hcw))))))
 clear hzs5 hp5 hc5 hs5 hl5 hA2 hcw
 go_wp2_with fail
 obtain⟨hzs5,hp5,hc5,hs5,hl5,hA2,hcw⟩:=KK.out
 clear KK a0 a1 a2 a3 a4 a5 a6 a7 a8
 obtain⟨x_h,x_b,x_w2,L_h,L_b,L_w2⟩:=HN.out
 refine(pput_yes (Pn+1) Pn cp5 ao5 zs5 (b1,b2) v5 hp5 hs5 (by omega) (by omega) x_b).mono ?_
 rintro e v6 ⟨rfl,ao6,cp6,hp6,hch⟩
 have hc6:=pchg_new hc5 hp5 (Nat.lt_succ_self Pn) (by rw[HP.out];exact Nat.le_refl _) hch
 have hs6:=Nat.le_trans hs5 hch.chg.size
 have hl6:(zs5++roleEnc (b1,b2)).length≤69:=by rw[List.length_append];omega
 subst hzs5
 clear hch hp5 hc5 hs5 hl5 x_h x_b x_w2 L_h L_b L_w2
 have hA6:=bE hA2 hc6 id
 obtain⟨a0,a1,a2,a3,a4,a5,a6,a7,a8⟩:=cred_at_blk (hA6)
 simp only[Nat.zero_add]at a0 a1 a2 a3 a4 a5 a6 a7 a8
 clear hA6
 generalize hzs6:((([]++enc 3)++roleEnc (h1,h2))++roleEnc (b1,b2))=zs6 at *
 have KK:=hid (aI hzs6 (aI hp6 (aI hc6 (aI hs6 (aI hl6 (aI hA2 hcw))))))
 clear hzs6 hp6 hc6 hs6 hl6 hA2 hcw
 go_wp2_with fail
 obtain⟨hzs6,hp6,hc6,hs6,hl6,hA2,hcw⟩:=KK.out
 clear KK a0 a1 a2 a3 a4 a5 a6 a7 a8
 obtain⟨x_h,x_b,x_w2,L_h,L_b,L_w2⟩:=HN.out
 refine(put_yes (Pn+1) Pn cp6 ao6 zs6 w2 v6 hp6 hs6 (by omega) (by omega) x_w2).mono ?_
 rintro e v7 ⟨rfl,ao7,cp7,hp7,hch⟩
 have hc7:=pchg_new hc6 hp6 (Nat.lt_succ_self Pn) (by rw[HP.out];exact Nat.le_refl _) hch
 have hs7:=Nat.le_trans hs6 hch.chg.size
 have hl7:(zs6++encS w2).length≤86:=by rw[List.length_append];omega
 change PenAt _ _ _ _ _ (zs6++encS w2) at hp7
 subst hzs6
 clear hch hp6 hc6 hs6 hl6 x_h x_b x_w2 L_h L_b L_w2
 generalize hzs:(((([]++enc 3)++roleEnc (h1,h2))++roleEnc (b1,b2))++encS w2)=zs at *
 have KK:=hid (aI hzs (aI hp7 (aI hc7 (aI hs7 (aI hl7 (aI hA2 hcw))))))
 clear hzs hp7 hc7 hs7 hl7 hA2 hcw
 go_wp2_with fail
 obtain⟨hzs,hp7,hc7,hs7,hl7,hA2,hcw⟩:=KK.out
 clear KK
 refine(bytes_any (Pn+1) Pn cp7 ao7 zs v7 hp7 (by omega)).mono ?_
 rintro e v9 ⟨ao9,cp9,rfl,hb9,hc9⟩
 have hcc:Chg (fun _=>False) w v9:=(hcw.trans hc7 (fun _ _ h=>h)).trans hc9 (fun _ _ h=>h)
 have hle:A≤v7.heap.size:=by have:=hcw.size;have:=hc7.size;rw[HAz.out]at *;omega
 have HQ:=hid (aI hb9 (aI hcc (aI hzs hle)))
 clear hzs hp7 hc7 hs7 hl7 hA2 hcw hb9 hcc hc9 hle hsz2
 go_wp2
 go_ret
 obtain⟨hb9,hcc,hzs,hle⟩:=HQ.out
 have hzc:zs=credBytes ⟨3,(h1,h2),who,(b1,b2),(c1,c2),w2⟩:=by rw[hB0.out,←hzs];simp [credEnc,credTail,encS]
 unfold BytesPostC
 rw[←hzc,HAz.out]
 exact⟨ao9,cp9,rfl,hb9.mono (fun i hi=>⟨Nat.le_trans hle hi.1,hi.2⟩),hcc⟩
set_option maxRecDepth 100000 in
set_option maxHeartbeats 2000000 in
theorem pcbytes4 (h1 h2 who b1 b2 c1 c2 w2:List UInt8) (w:World) (hr:isCred ⟨4,(h1,h2),who,(b1,b2),(c1,c2),w2⟩=true) :
  Calls Tryz.prog 38 #[credV ⟨4,(h1,h2),who,(b1,b2),(c1,c2),w2⟩] w (BytesPostC ⟨4,(h1,h2),who,(b1,b2),(c1,c2),w2⟩ w):=by
 have hB0:Hid (credBytes ⟨4,(h1,h2),who,(b1,b2),(c1,c2),w2⟩=credEnc ⟨4,(h1,h2),who,(b1,b2),(c1,c2),w2⟩):=hid (if_pos hr)
 have x_h:=isCred_head hr
 have x_b:=(isCred_four hr rfl).2.1
 have x_c:=(isCred_four hr rfl).2.2.2.1
 dsimp only at x_h x_b x_c
 have L_h:=pc_roleEnc_len x_h
 have L_b:=pc_roleEnc_len x_b
 have L_c:=pc_roleEnc_len x_c
 have HN:=hid (aI x_h (aI x_b (aI x_c (aI L_h (aI L_b L_c)))))
 clear x_h L_h x_b L_b x_c L_c
 have hA1:=heap_alloc_new w (.cells (credBox ⟨4,(h1,h2),who,(b1,b2),(c1,c2),w2⟩) 34)
 have hc01:=alc w (.cells (credBox ⟨4,(h1,h2),who,(b1,b2),(c1,c2),w2⟩) 34)
 have hrt:=pcright ⟨4,(h1,h2),who,(b1,b2),(c1,c2),w2⟩ (w.alloc (.cells (credBox ⟨4,(h1,h2),who,(b1,b2),(c1,c2),w2⟩) 34)) (((isCred_short hr)).mono' (by decide))
 rw[hr]at hrt
 have HH:=hid (aI hrt (aI hA1 hc01))
 clear hrt hA1 hc01 hr
 show Calls Tryz.prog 38 #[.agg #[.int .i64 4,.string ⟨h1.toArray⟩,.string ⟨h2.toArray⟩,.string ⟨who.toArray⟩,.string ⟨b1.toArray⟩,.string ⟨b2.toArray⟩,.string ⟨c1.toArray⟩,.string ⟨c2.toArray⟩,.string ⟨w2.toArray⟩]] w _
 go_enter Tryz.func38,Tryz.ntmps38
 go_wp2_with fail
 obtain⟨hrt,hA1,hc01⟩:=HH.out
 clear HH
 refine hrt.mono ?_
 rintro e v2 ⟨rfl,hc2⟩
 have hA2:=bE hA1 hc2 id
 have hcw:=hc01.trans hc2 (fun _ _ h=>h)
 have hsz2:w.heap.size<v2.heap.size:=lt_blk hA2
 clear hrt hA1 hc01 hc2
 generalize hAz:w.heap.size=A at *
 have HAz:=hid hAz
 clear hAz
 obtain⟨a0,a1,a2,a3,a4,a5,a6,a7,a8⟩:=cred_at_blk (hA2)
 simp only[Nat.zero_add]at a0 a1 a2 a3 a4 a5 a6 a7 a8
 have hq:=pen_new v2 (v2.heap.size+1)
 have hc3:=alc v2 (.cells #[.slice none 0 0] 118)
 have hs3:v2.heap.size+1≤(v2.alloc (.cells #[.slice none 0 0] 118)).heap.size:=by simp
 have KK:=hid (aI hq (aI hc3 (aI hs3 (aI hA2 hcw))))
 clear hq hc3 hs3 hA2 hcw
 go_wp2_with fail
 obtain⟨hq,hc3,hs3,hA2,hcw⟩:=KK.out
 clear KK a0 a1 a2 a3 a4 a5 a6 a7 a8
 generalize v2.alloc (.cells #[.slice none 0 0] 118)=v3 at *
 generalize hP:v2.heap.size=Pn at *
 have HP:=hid hP
 clear hP
 refine(pnum_any (Pn+1) Pn 0 4 none [] v3 (by decide) hq hs3 (by omega) (by rw[enc_small (by decide)];decide)).mono ?_
 rintro e v4 ⟨rfl,ao4,cp4,hp4,hch⟩
 have hc4:=pchg_new hc3 hq (Nat.lt_succ_self Pn) (by rw[HP.out];exact Nat.le_refl _) hch
 have hs4:=Nat.le_trans hs3 hch.chg.size
 have hl4:([]++enc 4).length≤1:=by rw[enc_small (by decide)];decide
 clear hq hc3 hs3 hch
 have hA4:=bE hA2 hc4 id
 obtain⟨a0,a1,a2,a3,a4,a5,a6,a7,a8⟩:=cred_at_blk (hA4)
 simp only[Nat.zero_add]at a0 a1 a2 a3 a4 a5 a6 a7 a8
 clear hA4
 generalize hzs4:([]++enc 4)=zs4 at *
 have KK:=hid (aI hzs4 (aI hp4 (aI hc4 (aI hs4 (aI hl4 (aI hA2 hcw))))))
 clear hzs4 hp4 hc4 hs4 hl4 hA2 hcw
 go_wp2_with fail
 obtain⟨hzs4,hp4,hc4,hs4,hl4,hA2,hcw⟩:=KK.out
 clear KK a0 a1 a2 a3 a4 a5 a6 a7 a8
 obtain⟨x_h,x_b,x_c,L_h,L_b,L_c⟩:=HN.out
 refine(pput_yes (Pn+1) Pn cp4 ao4 zs4 (h1,h2) v4 hp4 hs4 (by omega) (by omega) x_h).mono ?_
 rintro e v5 ⟨rfl,ao5,cp5,hp5,hch⟩
 have hc5:=pchg_new hc4 hp4 (Nat.lt_succ_self Pn) (by rw[HP.out];exact Nat.le_refl _) hch
 have hs5:=Nat.le_trans hs4 hch.chg.size
 have hl5:(zs4++roleEnc (h1,h2)).length≤35:=by rw[List.length_append];omega
 subst hzs4
 clear hch hp4 hc4 hs4 hl4 x_h x_b x_c L_h L_b L_c
 have hA5:=bE hA2 hc5 id
 obtain⟨a0,a1,a2,a3,a4,a5,a6,a7,a8⟩:=cred_at_blk (hA5)
 simp only[Nat.zero_add]at a0 a1 a2 a3 a4 a5 a6 a7 a8
 clear hA5
 generalize hzs5:(([]++enc 4)++roleEnc (h1,h2))=zs5 at *
 have KK:=hid (aI hzs5 (aI hp5 (aI hc5 (aI hs5 (aI hl5 (aI hA2 hcw))))))
 clear hzs5 hp5 hc5 hs5 hl5 hA2 hcw
 go_wp2_with fail
 obtain⟨hzs5,hp5,hc5,hs5,hl5,hA2,hcw⟩:=KK.out
 clear KK a0 a1 a2 a3 a4 a5 a6 a7 a8
 obtain⟨x_h,x_b,x_c,L_h,L_b,L_c⟩:=HN.out
 refine(pput_yes (Pn+1) Pn cp5 ao5 zs5 (b1,b2) v5 hp5 hs5 (by omega) (by omega) x_b).mono ?_
 rintro e v6 ⟨rfl,ao6,cp6,hp6,hch⟩
 have hc6:=pchg_new hc5 hp5 (Nat.lt_succ_self Pn) (by rw[HP.out];exact Nat.le_refl _) hch
 have hs6:=Nat.le_trans hs5 hch.chg.size
 have hl6:(zs5++roleEnc (b1,b2)).length≤69:=by rw[List.length_append];omega
 subst hzs5
 clear hch hp5 hc5 hs5 hl5 x_h x_b x_c L_h L_b L_c
 have hA6:=bE hA2 hc6 id
 obtain⟨a0,a1,a2,a3,a4,a5,a6,a7,a8⟩:=cred_at_blk (hA6)
 simp only[Nat.zero_add]at a0 a1 a2 a3 a4 a5 a6 a7 a8
 clear hA6
 generalize hzs6:((([]++enc 4)++roleEnc (h1,h2))++roleEnc (b1,b2))=zs6 at *
 have KK:=hid (aI hzs6 (aI hp6 (aI hc6 (aI hs6 (aI hl6 (aI hA2 hcw))))))
 clear hzs6 hp6 hc6 hs6 hl6 hA2 hcw
 go_wp2_with fail
 obtain⟨hzs6,hp6,hc6,hs6,hl6,hA2,hcw⟩:=KK.out
 clear KK a0 a1 a2 a3 a4 a5 a6 a7 a8
 obtain⟨x_h,x_b,x_c,L_h,L_b,L_c⟩:=HN.out
 refine(pput_yes (Pn+1) Pn cp6 ao6 zs6 (c1,c2) v6 hp6 hs6 (by omega) (by omega) x_c).mono ?_
 rintro e v7 ⟨rfl,ao7,cp7,hp7,hch⟩
 have hc7:=pchg_new hc6 hp6 (Nat.lt_succ_self Pn) (by rw[HP.out];exact Nat.le_refl _) hch
 have hs7:=Nat.le_trans hs6 hch.chg.size
 have hl7:(zs6++roleEnc (c1,c2)).length≤103:=by rw[List.length_append];omega
 subst hzs6
 clear hch hp6 hc6 hs6 hl6 x_h x_b x_c L_h L_b L_c
 generalize hzs:(((([]++enc 4)++roleEnc (h1,h2))++roleEnc (b1,b2))++roleEnc (c1,c2))=zs at *
 have KK:=hid (aI hzs (aI hp7 (aI hc7 (aI hs7 (aI hl7 (aI hA2 hcw))))))
 clear hzs hp7 hc7 hs7 hl7 hA2 hcw
 go_wp2_with fail
 obtain⟨hzs,hp7,hc7,hs7,hl7,hA2,hcw⟩:=KK.out
 clear KK
 refine(bytes_any (Pn+1) Pn cp7 ao7 zs v7 hp7 (by omega)).mono ?_
 rintro e v9 ⟨ao9,cp9,rfl,hb9,hc9⟩
 have hcc:Chg (fun _=>False) w v9:=(hcw.trans hc7 (fun _ _ h=>h)).trans hc9 (fun _ _ h=>h)
 have hle:A≤v7.heap.size:=by have:=hcw.size;have:=hc7.size;rw[HAz.out]at *;omega
 have HQ:=hid (aI hb9 (aI hcc (aI hzs hle)))
 clear hzs hp7 hc7 hs7 hl7 hA2 hcw hb9 hcc hc9 hle hsz2
 go_wp2
 go_ret
 obtain⟨hb9,hcc,hzs,hle⟩:=HQ.out
 have hzc:zs=credBytes ⟨4,(h1,h2),who,(b1,b2),(c1,c2),w2⟩:=by rw[hB0.out,←hzs];simp [credEnc,credTail]
 unfold BytesPostC
 rw[←hzc,HAz.out]
 exact⟨ao9,cp9,rfl,hb9.mono (fun i hi=>⟨Nat.le_trans hle hi.1,hi.2⟩),hcc⟩
set_option maxRecDepth 100000 in
theorem pcbytes_no (c:CredB) (w:World) (hs:credShort c 9223372036854775807) (hr:isCred c=false) :
  Calls Tryz.prog 38 #[credV c] w fun e w'=>e = .returned (.slice none 0 0)∧Chg (fun _=>False) w w':=by
 obtain⟨k,⟨h1,h2⟩,who,⟨b1,b2⟩,⟨c1,c2⟩,w2⟩:=c
 have hcw1:=alc w (.cells (credBox ⟨k,(h1,h2),who,(b1,b2),(c1,c2),w2⟩) 34)
 have hrt:=pcright ⟨k,(h1,h2),who,(b1,b2),(c1,c2),w2⟩ (w.alloc (.cells (credBox ⟨k,(h1,h2),who,(b1,b2),(c1,c2),w2⟩) 34)) hs
 rw[hr]at hrt
 have HH:=hid (aI hrt hcw1)
 clear hrt hcw1 hr hs
 show Calls Tryz.prog 38 #[.agg #[.int .i64 k,.string ⟨h1.toArray⟩,.string ⟨h2.toArray⟩,.string ⟨who.toArray⟩,.string ⟨b1.toArray⟩,.string ⟨b2.toArray⟩,.string ⟨c1.toArray⟩,.string ⟨c2.toArray⟩,.string ⟨w2.toArray⟩]] w _
 go_enter Tryz.func38,Tryz.ntmps38
 go_wp2_with fail
 obtain⟨hrt,hcw1⟩:=HH.out
 clear HH
 refine hrt.mono ?_
 rintro e w2' ⟨rfl,hc2⟩
 have HC:=hid (hcw1.trans hc2 (fun _ _ h=>h))
 clear hrt hcw1 hc2
 go_wp2
 go_ret
 exact⟨rfl,HC.out⟩
theorem pcbytes (c:CredB) (w:World) (hs:credShort c 9223372036854775807) :
  Calls Tryz.prog 38 #[credV c] w (BytesPostC c w):=by
 cases hr:isCred c with
 | false=>
  have e:credBytes c=[]:=by rw[credBytes,hr];rfl
  refine(pcbytes_no c w hs hr).mono ?_
  rintro e2 w' ⟨rfl,hc⟩
  unfold BytesPostC
  rw[e]
  exact⟨none,0,rfl,BytesAt.nil _ _,hc⟩
 | true=>
  have hk:=isCred_kind hr
  obtain⟨k,⟨h1,h2⟩,who,⟨b1,b2⟩,⟨c1,c2⟩,w2⟩:=c
  dsimp only at hk
  rcases hk with rfl|rfl|rfl|rfl
  ·exact pcbytes1 h1 h2 who b1 b2 c1 c2 w2 w hr
  ·exact pcbytes2 h1 h2 who b1 b2 c1 c2 w2 w hr
  ·exact pcbytes3 h1 h2 who b1 b2 c1 c2 w2 w hr
  ·exact pcbytes4 h1 h2 who b1 b2 c1 c2 w2 w hr
end
section
open Go.RowKit
mutual
def encF:FmB→List UInt8
 | .mk op k r kids=>enc op.toNat++(if op=1 then roleEnc r else (if op=4 then enc k.toNat else [])++(enc kids.length++encFs kids))
def encFs:List FmB→List UInt8
 | []=>[]
 | f::l=>encF f++encFs l
end
theorem encFs_snoc (a:List FmB) (x:FmB):encFs (a++[x])=encFs a++encF x:=by
 induction a with
 | nil=>simp [encFs]
 | cons y l ih=>rw[List.cons_append,encFs,encFs,ih,List.append_assoc]
theorem encF_eq (f:FmB):encF f=enc f.op.toNat++(if f.op=1 then roleEnc f.r else (if f.op=4 then enc f.k.toNat else [])++(enc f.kids.length++encFs f.kids)):=by cases f;rfl
theorem rightN_op {op k:Int} {r:RoleB} {n:Nat} (h:rightN op k r n=true):(op=1∧isRole r=true∧n=0∧k=0)∨((op=2∨op=3)∧r=([],[])∧n≤8∧k=0)∨(op=4∧r=([],[])∧0<n∧n≤8∧0≤k∧k≤(n:Int)):=by
 unfold rightN at h
 by_cases h1:op=1
 ·rw[if_pos h1]at h
  simp at h
  exact .inl ⟨h1,h.1,by simpa using h.2.1,h.2.2⟩
 ·rw[if_neg h1]at h
  by_cases h2:8<n∨r≠([],[])
  ·rw[if_pos h2]at h;cases h
  ·rw[if_neg h2]at h
   have h3:n≤8∧r=([],[]):=⟨by omega,by
    by_cases e:r=([],[])
    ·exact e
    ·exact absurd (.inr e) h2⟩
   by_cases h4:op=2∨op=3
   ·rw[if_pos h4]at h
    exact .inr (.inl ⟨h4,h3.2,h3.1,of_decide_eq_true h⟩)
   ·rw[if_neg h4]at h
    by_cases h5:op=4
    ·rw[if_pos h5]at h
     simp at h
     exact .inr (.inr ⟨h5,h3.2,by omega,h3.1,h.2.1,h.2.2⟩)
    ·rw[if_neg h5]at h;cases h
theorem encF_len:∀f:FmB,rightF f=true→(encF f).length≤40*nodesF f:=by
 refine nodes_ind fun f ih hr=>?_
 rw[rightF_eq,Bool.and_eq_true]at hr
 have hk:=rightL_mem hr.1
 have key:∀l:List FmB,(∀g∈l,(encF g).length≤40*nodesF g)→(encFs l).length≤40*nodesL l:=by
  intro l
  induction l with
  | nil=>exact fun _=>by simp [encFs]
  | cons x l ih2=>
   intro h
   have h1:=h x (by simp)
   have h2:=ih2 (fun g hg=>h g (by simp [hg]))
   rw[encFs,nodesL,List.length_append]
   omega
 have hkk:=key _ (fun g hg=>ih g hg (hk g hg))
 rw[encF_eq,nodesF_eq]
 rcases rightN_op hr.2 with ⟨h1,h2,h3,h4⟩|⟨h1,h2,h3,h4⟩|⟨h1,h2,h3,h4,h5,h6⟩
 ·have hl:=pc_roleEnc_len h2
  rw[if_pos h1,h1,List.length_append,show (1:Int).toNat=1 from rfl,enc_small (by omega)]
  simp only[List.length_cons,List.length_nil]
  omega
 ·have e1:f.op≠1:=by omega
  have e4:f.op≠4:=by omega
  have e5:f.op.toNat<128:=by omega
  rw[if_neg e1,if_neg e4,List.nil_append,List.length_append,List.length_append,enc_small e5,enc_small (by omega)]
  simp only[List.length_cons,List.length_nil]
  omega
 ·have e1:f.op≠1:=by omega
  have e5:f.op.toNat<128:=by omega
  have e6:f.k.toNat<128:=by omega
  rw[if_neg e1,if_pos h1,List.length_append,List.length_append,List.length_append,enc_small e5,enc_small e6,enc_small (by omega)]
  simp only[List.length_cons,List.length_nil]
  omega
theorem encFs_len (l:List FmB) (h:rightL l=true):(encFs l).length≤40*nodesL l:=by
 have hk:=rightL_mem h
 clear h
 induction l with
 | nil=>simp [encFs]
 | cons x l ih2=>
  have h1:=encF_len x (hk x (by simp))
  have h2:=ih2 (fun g hg=>hk g (by simp [hg]))
  rw[encFs,nodesL,List.length_append]
  omega
theorem rightL_take {l:List FmB} (h:rightL l=true) (j:Nat):rightL (l.take j)=true:=by
 have e:rightL (l.take j++l.drop j)=true:=by rw[List.take_append_drop];exact h
 have app:∀a b:List FmB,rightL (a++b)=true→rightL a=true:=by
  intro a b
  induction a with
  | nil=>exact fun _=>rfl
  | cons x a ih=>
   intro h
   rw[List.cons_append,rightL,Bool.and_eq_true]at h
   rw[rightL,h.1,ih h.2]
   rfl
 exact app _ _ e
theorem PenPost.next {B P:Nat} {ao0:Option Addr} {ys:List UInt8} {w1 wj:World} (h:PenPost B P ao0 ys w1 wj):∃ao cap,PenAt B wj P ao cap ys∧∀zs w',PenPost B P ao zs wj w'→PenPost B P ao0 zs w1 w':=by
 obtain⟨ao,cap,hp,hc⟩:=h
 exact⟨ao,cap,hp,fun zs w' ⟨ao',cap',hp',hc'⟩=>⟨ao',cap',hp',hc.trans hc'⟩⟩
theorem PenPost.chg {B P:Nat} {ao0:Option Addr} {ys:List UInt8} {w1 wj:World} (h:PenPost B P ao0 ys w1 wj):Chg (fun k=>k=P∨rowOf ao0=some k) w1 wj:=by
 obtain⟨ao,cap,hp,hc⟩:=h
 exact hc.chg
theorem PenPost.quiet {B P:Nat} {ao0:Option Addr} {ys:List UInt8} {w1 wj w':World} (h:PenPost B P ao0 ys w1 wj) (hc:Chg (fun _=>False) wj w'):PenPost B P ao0 ys w1 w':=by
 obtain⟨ao,cap,hp,hch⟩:=h
 exact⟨ao,cap,hp.keep hc id (fun _ _=>id),⟨hch.chg.trans hc (fun _ _ h=>h.elim),hch.row⟩⟩
theorem PenPost.from_ {B P:Nat} {ao0:Option Addr} {ys:List UInt8} {w w1 w':World} (hc:Chg (fun _=>False) w w1) (h:PenPost B P ao0 ys w1 w'):PenPost B P ao0 ys w w':=by
 obtain⟨ao,cap,hp,hch⟩:=h
 refine⟨ao,cap,hp,(hc.mono (fun _ _ h=>h.elim)).trans hch.chg (fun i _ h=>h),?_⟩
 rcases hch.row with h|⟨g,k1,k2⟩
 ·exact .inl h
 ·have:=hc.size
  exact .inr ⟨g,k1,by omega⟩
theorem PenPost.start {B P cap:Nat} {ao:Option Addr} {xs:List UInt8} {w:World} (h:PenAt B w P ao cap xs):PenPost B P ao xs w w:=⟨ao,cap,h,PChg.refl _ _ _⟩
theorem PenAt.rowlt {B P cap:Nat} {ao:Option Addr} {xs:List UInt8} {w:World} (h:PenAt B w P ao cap xs):∀k,rowOf ao=some k→B≤k∧k<w.heap.size:=fun k hk=>h.row.lt k ((rowOf_block _ _ _).trans hk)
end
end Go.Proofs.YtkfinhpfdcjoeaaGreat
