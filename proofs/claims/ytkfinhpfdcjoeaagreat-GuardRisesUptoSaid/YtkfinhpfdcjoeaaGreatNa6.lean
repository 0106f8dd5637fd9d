/- Texts that the proof leans on, in one: Pen, PenMore, Num, Fail, RCut, RText, NmPut, NmGet, RefGet, RoleBytes, TapeBad, RoleGet, RoleProg, RoleEqL, FmRight, FmIs. -/
import Derived.Test.YtkfinhpfdcjoeaaGreatNa5
import Derived.Maps.AppendAt
import Derived.Laws.AppendOwnNone
import Derived.Test.YtkfinhpfdcjoeaaGreatNa1
import Derived.Test.YtkfinhpfdcjoeaaGreatNa3
import Derived.Test.YtkfinhpfdcjoeaaGreatNa2
/- The contracts of a pen's calls. -/
namespace Go.Proofs.YtkfinhpfdcjoeaaGreat
section
open Go.RowKit
def PenPost (B P:Nat) (ao:Option Addr) (ys:List UInt8) (w w':World):Prop:=
 ∃ao' cap',PenAt B w' P ao' cap' ys∧PChg P ao w ao' w'
theorem rowOf_block (ao:Option Addr) (n c:Nat):Value.ownBlock (.slice ao n c)=rowOf ao:=by cases ao <;> rfl
/-- What an append, stored into the pen, leaves. -/
theorem pen_grown {B P cap:Nat} {ao:Option Addr} {zs news:List UInt8} {w wa w1:World} {v':Value} {sz:Nat} (hp:PenAt B w P ao cap zs) (hPB:P<B) (hwa:Chg (fun _=>False) w wa)
  (hown:w1.ownsRow B 5 1 v' (zs.length+news.length) (zs.map cb++news.map cb)) (hgrow:GrownD wa w1 (Value.ownBlock (.slice ao zs.length cap)))
  (hat:v'.ownBlock=Value.ownBlock (.slice ao zs.length cap)∨v'.ownBlock=some sz) (hsz:w.heap.size≤sz) :
  ∃ao' cap',v' = .slice ao' (zs.length+news.length) cap'∧w1.cell? ⟨P,0,none⟩=some (.slice ao zs.length cap)∧w1.frozen? ⟨P,0,none⟩=false∧
   PenAt B (w1.setCell ⟨P,0,none⟩ (.slice ao' (zs.length+news.length) cap')) P ao' cap' (zs++news)∧PChg P ao w ao' (w1.setCell ⟨P,0,none⟩ (.slice ao' (zs.length+news.length) cap')):=by
 have hrow:∀k,rowOf ao=some k→B≤k∧k<w.heap.size:=fun k hk=>hp.row.lt k ((rowOf_block _ _ _).trans hk)
 have hch:Chg (fun k=>k=P∨rowOf ao=some k) w w1:=(hwa.mono (fun _ _ h=>h.elim)).grown hgrow (fun k e _=>.inr ((rowOf_block _ _ _).symm.trans e))
 have hPr:some P≠Value.ownBlock (.slice ao zs.length cap):=fun e=>by
  have:=hrow P ((rowOf_block _ _ _).symm.trans e.symm)
  omega
 have hblk:w1.heap[P]? = some (.cells #[.slice ao zs.length cap] 118 (0,0)):=by
  have h1:wa.heap[P]? = some (.cells #[.slice ao zs.length cap] 118 (0,0)):=(hwa.block P (lt_blk hp.cell) id).trans hp.cell
  exact(hgrow.g.block P (lt_blk h1) hPr).trans h1
 have hc0:=bC hblk 0
 simp only[lA,lZ]at hc0
 have hlen:(zs++news).length=zs.length+news.length:=List.length_append
 obtain⟨ao',cap',rfl⟩:∃ao' cap',v' = .slice ao' (zs.length+news.length) cap':=by
  rcases hown.2 with ⟨rfl,h0⟩|⟨g,cap',cur,rfl,_⟩
  ·exact⟨none,0,by rw[h0]⟩
  ·exact⟨_,_,rfl⟩
 refine⟨ao',cap',rfl,hc0,froz_blk hblk 0,⟨?_,?_⟩,hch.setCell (p:=⟨P,0,none⟩) (fun _=>.inl rfl) _,?_⟩
 ·rw[hlen]
  exact set_blk hblk 0 _
 ·rw[hlen,List.map_append]
  exact ownsRow_setCell_below hown (by show P<B;exact hPB) _
 ·rw[rowOf_block,rowOf_block]at hat
  rcases hat with h|h
  ·exact .inl h
  ·exact .inr ⟨_,h,hsz⟩
set_option maxRecDepth 100000 in
set_option maxHeartbeats 400000 in
theorem pnum_any (B P cap n:Nat) (ao:Option Addr) (xs:List UInt8) (w:World) (hn:n<9223372036854775808) (hp:PenAt B w P ao cap xs) (hB:B≤w.heap.size) (hPB:P<B) (hx:xs.length+(enc n).length≤140737488355328) :
  Calls Tryz.prog 65 #[.pointer (some ⟨P,0,none⟩),.int .i64 n] w fun e w'=>e = .returned (.bool true)∧PenPost B P ao (xs++enc n) w w':=by
 obtain⟨i0,hi,hz0,hz1,hz2⟩:=info_parts Tryz.info5
 go_enter Tryz.func65,Tryz.ntmps65
 go_wp2
 go_loopw [1] (fun i wr=>∃(m:Nat) (a:Option Addr) (c:Nat) (zs:List UInt8),i = .int .i64 m∧m<9223372036854775808∧PenAt B wr P a c zs∧PChg P ao w a wr∧Hid (zs++enc m=xs++enc n)) (fun i _=>(intOf i).toNat)
 case atStart=>exact⟨n,ao,cap,xs,rfl,hn,hp,PChg.refl _ _ _,rfl⟩
 case round=>
  obtain⟨m,a,c,zs,rfl,hm,hpr,hch,HS⟩:=hrel
  have hc0:=bC hpr.cell 0
  have hf0:=froz_blk hpr.cell 0
  simp only[lA,lZ]at hc0
  have hPw:=lt_blk hpr.cell
  have hlz:zs.length+(enc m).length≤140737488355328:=by
   have:=congrArg List.length HS.out
   simp only[List.length_append]at this
   omega
  have hep:=enc_pos m
  have hBw:B≤wr.heap.size:=Nat.le_trans hB hch.chg.size
  by_cases h128:128≤m
  ·have hd:=digit_of m hm
   go_wp2_with (at_builtin;refine wpList_append_own_atD _ rfl (.tmp 19) (.tmp 24) 41 rfl B 5 i0 (.int .u8 0) 1 1 Tryz.underlying41 hi hz0 hz1 hz2 rfl (by decide) _ _ _ rfl (hpr.row.alloc _) ⟨wr.heap.size,0,none⟩ 1 1 [cb (dg m)] rfl rfl ?c1 ?c2 ?c3 ?c4 ?c5 ?_)
   case c1=>exact(cell_one_new _ _ _)
   case c2=>exact cb_one [dg m]
   case c3=>unfold maxLen;omega
   case c4=>omega
   case c5=>simp;omega
   intro v' w1 hown hgrow _ hat
   obtain⟨ao',cap',rfl,g0,g1,hp1,hch1⟩:=pen_grown (news:=[dg m]) hpr hPB ((Chg.refl _ wr).alloc _) hown hgrow hat (by omega)
   clear hown hgrow hat hd
   simp only[List.length_cons,List.length_nil,Nat.zero_add]at hp1 hch1
   go_wp2
   go_roundw
   case rel=>exact⟨m / 128,ao',cap',zs++[dg m],congrArg (Value.int .i64) (by omega),by omega,hp1,hch.trans hch1,hid (by rw[←HS.out,enc_big h128];simp)⟩
   case measure=>simp [intOf];omega
  ·have h128':m<128:=by omega
   go_wp2_with (at_builtin;refine wpList_append_own_atD _ rfl (.tmp 32) (.tmp 35) 41 rfl B 5 i0 (.int .u8 0) 1 1 Tryz.underlying41 hi hz0 hz1 hz2 rfl (by decide) _ _ _ rfl (hpr.row.alloc _) ⟨wr.heap.size,0,none⟩ 1 1 [cb (ds m)] rfl rfl ?d1 ?d2 ?d3 ?d4 ?d5 ?_)
   case d1=>
    have e:cb (ds m) = .int .u8 (m:Int):=by unfold cb;rw[ds_toNat h128']
    rw[e]
    exact(cell_one_new _ _ _)
   case d2=>exact cb_one [ds m]
   case d3=>unfold maxLen;omega
   case d4=>omega
   case d5=>simp;omega
   intro v' w1 hown hgrow _ hat
   obtain⟨ao',cap',rfl,g0,g1,hp1,hch1⟩:=pen_grown (news:=[ds m]) hpr hPB ((Chg.refl _ wr).alloc _) hown hgrow hat (by omega)
   clear hown hgrow hat
   simp only[List.length_cons,List.length_nil,Nat.zero_add]at hp1 hch1
   have HF:Hid (zs++[ds m]=xs++enc n):=hid (by rw[←HS.out,enc_small h128'])
   clear HS
   go_wp2
   go_ret
   exact⟨rfl,ao',cap',HF.out▸hp1,hch.trans hch1⟩
end
section
open Go.RowKit
theorem pen_same {B P cap:Nat} {ao:Option Addr} {zs:List UInt8} {w:World} (hp:PenAt B w P ao cap zs) (hPB:P<B):PenPost B P ao (zs++[]) w (w.setCell ⟨P,0,none⟩ (.slice ao zs.length cap)):=by
 rw[List.append_nil]
 exact⟨ao,cap,⟨set_blk hp.cell 0 _,ownsRow_setCell_below hp.row (by show P<B;exact hPB) _⟩,(Chg.refl _ w).setCell (p:=⟨P,0,none⟩) (fun _=>.inl rfl) _,.inl rfl⟩
set_option maxRecDepth 100000 in
theorem raw_any {D:Nat→Prop} (B P cap:Nat) (ao:Option Addr) (zs l:List UInt8) (v:Value) (w:World) (hp:PenAt B w P ao cap zs) (hB:B≤w.heap.size) (hPB:P<B) (hx:zs.length+l.length≤140737488355328) (hv:BytesAt D w v l) :
  Calls Tryz.prog 114 #[.pointer (some ⟨P,0,none⟩),v] w fun e w'=>e = .returned (.bool true)∧PenPost B P ao (zs++l) w w':=by
 obtain⟨i0,hi,hz0,hz1,hz2⟩:=info_parts Tryz.info5
 have hc0:=bC hp.cell 0
 have hf0:=froz_blk hp.cell 0
 simp only[lA,lZ]at hc0
 rcases hv with ⟨ao1,cp,rfl,rfl,h00⟩|⟨b,off,c,rfl,h1,h2,h3,h4⟩
 ·cases ao1 with
  | none=>
   obtain rfl:=h00 rfl
   go_enter Tryz.func114,Tryz.ntmps114
   go_wp2_with (at_builtin;refine wpList_append_own_none rfl (.tmp 11) (.tmp 12) 41 rfl B 5 i0 1 Tryz.underlying41 hi _ _ _ rfl hp.row rfl ?_)
   go_wp2
   go_ret
   exact⟨rfl,by simpa using pen_same hp hPB⟩
  | some x=>
   go_enter Tryz.func114,Tryz.ntmps114
   go_wp2_with (at_builtin;refine wpList_append_own_atD _ rfl (.tmp 11) (.tmp 12) 41 rfl B 5 i0 (.int .u8 0) 1 1 Tryz.underlying41 hi hz0 hz1 hz2 rfl (by decide) _ _ _ rfl hp.row x 0 cp [] rfl ?c0 ?c1 ?c2 ?c3 ?c4 ?c5 ?_)
   case c0=>simp
   case c1=>
    intro j u hj
    simp at hj
   case c2=>simp
   case c3=>unfold maxLen;omega
   case c4=>omega
   case c5=>omega
   intro v' w1 hown hgrow _ hat
   obtain⟨ao',cap',rfl,g0,g1,hp1,hch1⟩:=pen_grown (news:=[]) hp hPB (Chg.refl _ w) (by simpa using hown) hgrow hat (Nat.le_refl _)
   clear hown hgrow hat hc0 hf0
   go_wp2
   go_ret
   exact⟨rfl,ao',cap',hp1,hch1⟩
 ·go_enter Tryz.func114,Tryz.ntmps114
  go_wp2_with (at_builtin;refine wpList_append_own_atD _ rfl (.tmp 11) (.tmp 12) 41 rfl B 5 i0 (.int .u8 0) 1 1 Tryz.underlying41 hi hz0 hz1 hz2 rfl (by decide) _ _ _ rfl hp.row ⟨b,off,none⟩ l.length c (l.map cb) rfl ?c0 ?c1 ?c2 ?c3 ?c4 ?c5 ?_)
  case c0=>simp
  case c1=>
   intro j u hj
   obtain⟨hj1,rfl⟩:=cb_getElem? l j u hj
   rw[add_off]
   exact h4 j hj1
  case c2=>exact cb_one l
  case c3=>unfold maxLen;omega
  case c4=>omega
  case c5=>omega
  intro v' w1 hown hgrow _ hat
  obtain⟨ao',cap',rfl,g0,g1,hp1,hch1⟩:=pen_grown (news:=l) hp hPB (Chg.refl _ w) hown hgrow hat (Nat.le_refl _)
  clear hown hgrow hat hc0 hf0
  go_wp2
  go_ret
  exact⟨rfl,ao',cap',hp1,hch1⟩
set_option maxRecDepth 100000 in
theorem text_any {D:Nat→Prop} (B P cap:Nat) (ao:Option Addr) (zs l:List UInt8) (v:Value) (w:World) (hp:PenAt B w P ao cap zs) (hB:B≤w.heap.size) (hPB:P<B) (hx:zs.length+l.length≤140737488300000) (hl:l.length≤2048) (hv:BytesAt D w v l)
  (hB':∀i,D i→i≠P∧rowOf ao≠some i) :
  Calls Tryz.prog 86 #[.pointer (some ⟨P,0,none⟩),v] w fun e w'=>e = .returned (.bool true)∧PenPost B P ao (zs++(enc l.length++l)) w w':=by
 have he:=enc_length9 (n:=l.length) (by omega)
 have hlen:∃a c,v = .slice a l.length c:=by
  exact hv.shape
 obtain⟨a,c,rfl⟩:=hlen
 have h1:=pnum_any B P cap l.length ao zs w (by omega) hp hB hPB (by omega)
 have HL:=hid (Int.le_of_lt_add_one (show (l.length:Int)<2048+1 by omega))
 have hle:¬2048<(l.length:Int):=by omega
 go_enter Tryz.func86,Tryz.ntmps86
 go_wp2_with (first|(go_at_call 65;refine h1.mono ?_;rintro e w1 ⟨rfl,ao1,cap1,hp1,hch1⟩)|(go_at_call 114;refine(raw_any (D:=D) B P _ _ _ l _ _ hp1 (Nat.le_trans hB hch1.chg.size) hPB (by simp only[List.length_append];omega) (hv.keep hch1.chg (fun i hi h=>h.elim (hB' i hi).1 (hB' i hi).2))).mono ?_;rintro e w2 ⟨rfl,ao2,cap2,hp2,hch2⟩))
 go_ret
 exact⟨rfl,ao2,cap2,by rw[List.append_assoc]at hp2;exact hp2,hch1.trans hch2⟩
theorem bytes_any (B P cap:Nat) (ao:Option Addr) (zs:List UInt8) (w:World) (hp:PenAt B w P ao cap zs) (hx:zs.length≤140737488355328) :
  Calls Tryz.prog 68 #[.pointer (some ⟨P,0,none⟩)] w (Cloned zs w):=by
 have hc0:=bC hp.cell 0
 simp only[lA,lZ]at hc0
 have hcl:=clone_any hx hp.bytes
 go_enter Tryz.func68,Tryz.ntmps68
 go_wp2_with (go_at_call 87;refine hcl.mono ?_;rintro e w1 ⟨ao1,cap1,rfl,hb1,hch1⟩)
 go_ret
 exact⟨ao1,cap1,rfl,hb1,hch1⟩
/-- A new pen. -/
theorem pen_new (w:World) (B:Nat):PenAt B (w.alloc (.cells #[.slice none 0 0] 118)) w.heap.size none 0 []:=
 ⟨heap_alloc_new w _,World.ownsRow_nil _ _ _ _⟩
/-- A pen's call turns nothing that was there ahead of the pen. -/
theorem pchg_new {B P:Nat} {w wk w':World} {ao ao':Option Addr} {cap:Nat} {xs:List UInt8} (hc:Chg (fun _=>False) w wk) (hp:PenAt B wk P ao cap xs) (hPB:P<B) (hP:w.heap.size≤P) (h:PChg P ao wk ao' w'):Chg (fun _=>False) w w':=by
 refine hc.trans h.chg ?_
 rintro i hi (e|e)
 ·omega
 ·have:=(hp.row.lt i ((rowOf_block _ _ _).trans e)).1
  omega
end
section
open Go.RowKit
end
section
open Go.RowKit
end
section
open Go.RowKit
end
section
open Go.RowKit
end
section
open Go.RowKit
theorem name_len {s:List UInt8} (hn:isName s=true):0<s.length∧s.length≤16:=by
 cases s with
 | nil=>cases hn
 | cons c l=>
  simp only[isName,Bool.and_eq_true,decide_eq_true_eq]at hn
  simp
  omega
set_option maxRecDepth 100000 in
theorem put_yes (B P cap:Nat) (ao:Option Addr) (zs s:List UInt8) (w:World) (hp:PenAt B w P ao cap zs) (hB:B≤w.heap.size) (hPB:P<B) (hx:zs.length≤1000000) (hn:isName s=true) :
  Calls Tryz.prog 67 #[.pointer (some ⟨P,0,none⟩),.string ⟨s.toArray⟩] w fun e w'=>e = .returned (.bool true)∧PenPost B P ao (zs++(enc s.length++s)) w w':=by
 have hl:=name_len hn
 have hcv:=conv_str s w
 have hg1:=grownCap_ge w s.length 0 5
 have hg2:=grownCap_le_maxLen w s.length 0 5 (by unfold maxLen;omega)
 have hba:=bytes_of s w.drew (grownCap w s.length 0 5) hg1 hg2 ((bytesRow ⟨s.toArray⟩ (grownCap w s.length 0 5)).size,(bytesRow ⟨s.toArray⟩ (grownCap w s.length 0 5)).size+1)
 have hPw:=lt_blk hp.cell
 have hrow:∀k,rowOf ao=some k→k<w.heap.size:=fun k hk=>(hp.row.lt k ((rowOf_block _ _ _).trans hk)).2
 have hc3:Chg (fun _=>False) w (w.drew.alloc (.cells (bytesRow ⟨s.toArray⟩ (grownCap w s.length 0 5)) 5 ((bytesRow ⟨s.toArray⟩ (grownCap w s.length 0 5)).size,(bytesRow ⟨s.toArray⟩ (grownCap w s.length 0 5)).size+1))):=((Chg.refl _ w).drew).alloc _
 have hp3:=hp.keep hc3 id (fun _ _=>id)
 have hs3:=hc3.size
 have htx:=text_any B P cap ao zs s _ _ hp3 (by omega) hPB (by omega) (by omega) hba (fun i hi=>by subst hi;exact⟨by show w.heap.size≠P;omega,fun e=>by have:=hrow _ e;exact absurd this (Nat.lt_irrefl _)⟩)
 have HC:=hid hc3
 clear hc3 hp3 hba hg1 hg2 hs3 hrow hp
 go_enter Tryz.func67,Tryz.ntmps67
 go_wp2_with (first
  | (go_at_call 22;refine(right_any s _ (by omega)).mono ?_;rintro e w' ⟨rfl,rfl⟩;rw[hn])
  | (go_at_call 86;refine htx.mono ?_;rintro e w' ⟨rfl,ao',cap',hp',hch⟩))
 go_ret
 refine⟨rfl,ao',cap',hp',⟨(HC.out.mono (fun _ _ h=>h.elim)).trans hch.chg (fun i _ h=>h),?_⟩⟩
 rcases hch.row with h|⟨g,h1,h2⟩
 ·exact .inl h
 ·have:=HC.out.size
  exact .inr ⟨g,h1,by omega⟩
end
section
open Go.RowKit
/-- The text that comes next, what is left behind it; the error there. -/
def nameOf (l:List UInt8):List UInt8:=(l.drop (numN 9 l 0 0).2.1).take (numN 9 l 0 0).1
def nameRest (l:List UInt8):List UInt8:=l.drop ((numN 9 l 0 0).2.1+(numN 9 l 0 0).1)
def nameBad (l:List UInt8):Nat:=if errText l 16=0 then 30 else errText l 16
def nameOk (l:List UInt8):Bool:=decide (errText l 16=0)&&isName (nameOf l)
end
section
open Go.RowKit
end
section
open Go.RowKit
/-- A role's bytes. -/
def roleEnc (r:RoleB):List UInt8:=(enc r.1.length++r.1)++(enc r.2.length++r.2)
end
section
open Go.RowKit
end
section
open Go.RowKit
/-- The role that comes next, what is left behind it, the error there. -/
def roleOk (l:List UInt8):Bool:=nameOk l&&nameOk (nameRest l)
def roleOf (l:List UInt8):RoleB:=(nameOf l,nameOf (nameRest l))
def roleRest (l:List UInt8):List UInt8:=nameRest (nameRest l)
def roleBad (l:List UInt8):Nat:=if nameOk l=true then nameBad (nameRest l) else nameBad l
end
section
open Go.RowKit
theorem role_len {r:RoleB} (h:isRole r=true):r.1.length≤16∧r.2.length≤16:=by
 simp only[isRole,Bool.and_eq_true]at h
 exact⟨(isName_len h.1).2,(isName_len h.2).2⟩
theorem pright (r:RoleB) (w:World) (h1:r.1.length≤9223372036854775807) (h2:r.2.length≤9223372036854775807) :
  Calls Tryz.prog 78 #[roleV r] w fun e w'=>e = .returned (.bool (isRole r))∧Chg (fun _=>False) w w':=by
 obtain⟨o,x⟩:=r
 have hc:=alc w (.cells #[.string ⟨o.toArray⟩,.string ⟨x.toArray⟩] 32)
 have HC:=hid hc
 clear hc
 show Calls Tryz.prog 78 #[.agg #[.string ⟨o.toArray⟩,.string ⟨x.toArray⟩]] w _
 cases ho:isName o with
 | false=>
  have hh:Hid (isRole (o,x)=false):=hid (by simp [isRole,ho])
  go_enter Tryz.func78,Tryz.ntmps78
  go_wp2_with fail
  refine(right_any o _ h1).mono ?_
  rintro e w' ⟨rfl,rfl⟩
  rw[ho]
  go_wp2
  go_ret
  exact⟨by rw[hh.out];rfl,HC.out⟩
 | true=>
  have hh:Hid (isRole (o,x)=isName x):=hid (by simp [isRole,ho])
  go_enter Tryz.func78,Tryz.ntmps78
  go_wp2_with fail
  refine(right_any o _ h1).mono ?_
  rintro e w' ⟨rfl,rfl⟩
  rw[ho]
  go_wp2_with fail
  refine(right_any x _ h2).mono ?_
  rintro e w' ⟨rfl,rfl⟩
  go_wp2
  go_ret
  exact⟨by rw[hh.out];rfl,HC.out⟩
set_option maxRecDepth 100000 in
theorem pput_yes (B P cap:Nat) (ao:Option Addr) (zs:List UInt8) (r:RoleB) (w:World) (hp:PenAt B w P ao cap zs) (hB:B≤w.heap.size) (hPB:P<B) (hx:zs.length≤999000) (hn:isRole r=true) :
  Calls Tryz.prog 66 #[.pointer (some ⟨P,0,none⟩),roleV r] w fun e w'=>e = .returned (.bool true)∧PenPost B P ao (zs++roleEnc r) w w':=by
 obtain⟨o,x⟩:=r
 have hl:=role_len hn
 have hn2:isName o=true∧isName x=true:=by simpa [isRole] using hn
 dsimp only at hl
 have hc:=alc w (.cells #[.string ⟨o.toArray⟩,.string ⟨x.toArray⟩] 32)
 have hA:=heap_alloc_new w (.cells #[.string ⟨o.toArray⟩,.string ⟨x.toArray⟩] 32)
 have hPl:=lt_blk hp.cell
 have hrow0:∀k,rowOf ao=some k→B≤k∧k<w.heap.size:=fun k hk=>hp.row.lt k ((rowOf_block _ _ _).trans hk)
 have hp1:=hp.keep hc id (fun _ _=>id)
 show Calls Tryz.prog 66 #[.pointer (some ⟨P,0,none⟩),.agg #[.string ⟨o.toArray⟩,.string ⟨x.toArray⟩]] w _
 go_enter Tryz.func66,Tryz.ntmps66
 go_wp2_with fail
 refine(pright (o,x) _ (by show o.length≤_;omega) (by show x.length≤_;omega)).mono ?_
 rintro e w1 ⟨rfl,hc1⟩
 rw[hn]
 have hA1:=bE hA hc1 id
 have hp2:=hp1.keep hc1 id (fun _ _=>id)
 have hcw:=hc.trans hc1 (fun _ _ h=>h)
 have a0:=bC hA1 0
 simp only[lA,lZ]at a0
 clear hc hc1 hA hp1
 have hs1:=hcw.size
 go_wp2_with fail
 refine(put_yes B P cap ao zs o w1 hp2 (by omega) hPB (by omega) hn2.1).mono ?_
 rintro e w2 ⟨rfl,ao2,cap2,hp3,hch⟩
 have hA2:=bE hA1 hch.chg (fun h=>h.elim (fun h=>by omega) (fun h=>by have:=(hrow0 _ h).2;omega))
 have hs2:=hch.chg.size
 have a1:=bC hA2 1
 simp only[lA,lZ,lS]at a1
 have hel:(enc o.length++o).length≤32:=by rw[enc_small (by omega)];simp;omega
 clear a0 hA1 hp2 hA2
 go_wp2_with fail
 refine(put_yes B P cap2 ao2 (zs++(enc o.length++o)) x w2 hp3 (by omega) hPB (by rw[List.length_append];omega) hn2.2).mono ?_
 rintro e w3 ⟨rfl,ao3,cap3,hp4,hch2⟩
 have HH:=hid (aI hp4 (aI hch2 (aI hch hcw)))
 clear hp3 hp4 hch hch2 hcw a1
 go_wp2
 go_ret
 obtain⟨h4,h5,h6,h7⟩:=HH.out
 refine⟨rfl,ao3,cap3,by rw[List.append_assoc]at h4;exact h4,?_⟩
 have h8:=h6.trans h5
 refine⟨(h7.mono (fun _ _ h=>h.elim)).trans h8.chg (fun i _ h=>h),?_⟩
 rcases h8.row with h|⟨g,k1,k2⟩
 ·exact .inl h
 ·have:=h7.size
  exact .inr ⟨g,k1,by omega⟩
end
section
open Go.RowKit
theorem run_eqg_role (x y:Operand) (a b:RoleB) (w:World):Sem.run Tryz.prog (eqGuard BinOp.eql 32 x y (.agg #[.string ⟨a.1.toArray⟩,.string ⟨a.2.toArray⟩]) (.agg #[.string ⟨b.1.toArray⟩,.string ⟨b.2.toArray⟩])) w = .ok () w:=by
 go_simp
theorem run_eql_role (a b:RoleB) (w:World):Sem.run Tryz.prog (binOp BinOp.eql 32 (.agg #[.string ⟨a.1.toArray⟩,.string ⟨a.2.toArray⟩]) (.agg #[.string ⟨b.1.toArray⟩,.string ⟨b.2.toArray⟩])) w = .ok (.bool (decide (a=b))) w:=by
 have:decide (a=b)=decide (a.1=b.1∧a.2=b.2):=by simp only[Prod.ext_iff]
 rw[this]
 go_simp
 repeat' split
 all_goals simp_all
end
section
open Go.RowKit
theorem run_neq_role (a b:RoleB) (w:World):Sem.run Tryz.prog (binOp BinOp.neq 32 (.agg #[.string ⟨a.1.toArray⟩,.string ⟨a.2.toArray⟩]) (.agg #[.string ⟨b.1.toArray⟩,.string ⟨b.2.toArray⟩])) w = .ok (.bool (decide (a≠b))) w:=by
 have:decide (a≠b)=decide (¬(a.1=b.1∧a.2=b.2)):=by simp only[ne_eq,Prod.ext_iff]
 rw[this]
 go_simp
 repeat' split
 all_goals simp_all
set_option maxRecDepth 100000 in
set_option maxHeartbeats 4000000 in
theorem fm_rightNode (op k:Int) (r:RoleB) (ao:Option Addr) (n cp:Nat) (w:World) (h1:r.1.length≤9223372036854775807) (h2:r.2.length≤9223372036854775807) (hn:n≤9223372036854775807) :
  Calls Tryz.prog 58 #[.agg #[.int .i64 op,.int .i64 k,.string ⟨r.1.toArray⟩,.string ⟨r.2.toArray⟩,.slice ao n cp]] w fun e w'=>e = .returned (.bool (rightN op k r n))∧Chg (fun _=>False) w w':=by
 have hc:=alc w (.cells #[.int .i64 op,.int .i64 k,.string ⟨r.1.toArray⟩,.string ⟨r.2.toArray⟩,.slice ao n cp] 46)
 have hb:=heap_alloc_new w (.cells #[.int .i64 op,.int .i64 k,.string ⟨r.1.toArray⟩,.string ⟨r.2.toArray⟩,.slice ao n cp] 46)
 have s0:=bC hb 0
 have s1:=bC hb 1
 have s2:=bC hb 2
 have s3:=bC hb 3
 have s4:=bC hb 4
 simp only[lA,lZ,lS]at s0 s1 s2 s3 s4
 have HC:=hid hc
 have HB:=hid hb
 have HR:=hid (fun w=>pright r w h1 h2)
 clear hc hb h1 h2
 go_enter Tryz.func58,Tryz.ntmps58
 by_cases ho:op=1
 ·subst ho
  go_wp2_with fail
  refine(HR.out _).mono ?_
  rintro e w2 ⟨rfl,hc2⟩
  have hb2:=bE HB.out hc2 id
  have HC2:=hid (HC.out.trans hc2 (fun _ _ h=>h))
  clear s0 s1 s2 s3 s4 HC
  have HC:=HC2
  have s1:=bC hb2 1
  have s4:=bC hb2 4
  simp only[lA,lZ,lS]at s1 s4
  clear hb2 hc2 HR HB
  cases hr:isRole r with
  | false=>
   go_wp2
   go_ret
   exact⟨by simp [rightN,hr],HC.out⟩
  | true=>
   by_cases hz:n=0
   ·subst hz
    by_cases hk:k=0
    ·subst hk
     go_wp2
     go_ret
     exact⟨by simp [rightN,hr],HC.out⟩
    ·have z1:decide (k=0)=false:=decide_eq_false hk
     go_wp2
     go_ret
     exact⟨by simp [rightN,hr,hk],HC.out⟩
   ·have z1:decide ((n:Int)=0)=false:=decide_eq_false (by omega)
    go_wp2
    go_ret
    exact⟨by simp [rightN,hr,hz],HC.out⟩
 ·have z0:decide (op=1)=false:=decide_eq_false ho
  clear HR
  by_cases h8:8<n
  ·have z1:decide ((8:Int)<(n:Int))=true:=decide_eq_true (by omega)
   go_wp2
   go_ret
   exact⟨by simp [rightN,ho,h8],HC.out⟩
  ·have z1:decide ((8:Int)<(n:Int))=false:=decide_eq_false (by omega)
   by_cases hr:r=([],[])
   ·subst hr
    by_cases h2:op=2
    ·subst h2
     by_cases hk:k=0
     ·subst hk
      go_wp2
      go_ret
      exact⟨by simp [rightN,h8],HC.out⟩
     ·have z2:decide (k=0)=false:=decide_eq_false hk
      go_wp2
      go_ret
      exact⟨by simp [rightN,h8,hk],HC.out⟩
    ·have z2:decide (op=2)=false:=decide_eq_false h2
     by_cases h3:op=3
     ·subst h3
      by_cases hk:k=0
      ·subst hk
       go_wp2
       go_ret
       exact⟨by simp [rightN,h8],HC.out⟩
      ·have z2:decide (k=0)=false:=decide_eq_false hk
       go_wp2
       go_ret
       exact⟨by simp [rightN,h8,hk],HC.out⟩
     ·have z3:decide (op=3)=false:=decide_eq_false h3
      by_cases h4:op=4
      ·subst h4
       by_cases hz:0<n
       ·have z4:decide ((0:Int)<(n:Int))=true:=decide_eq_true (by omega)
        by_cases hk:0≤k
        ·have z5:decide ((0:Int)≤k)=true:=decide_eq_true hk
         by_cases hm:k≤(n:Int)
         ·have z6:decide (k≤(n:Int))=true:=decide_eq_true hm
          go_wp2
          go_ret
          exact⟨by simp [rightN,h8,hz,hk,hm],HC.out⟩
         ·have z6:decide (k≤(n:Int))=false:=decide_eq_false hm
          go_wp2
          go_ret
          exact⟨by simp [rightN,h8,hz];omega,HC.out⟩
        ·have z5:decide ((0:Int)≤k)=false:=decide_eq_false hk
         go_wp2
         go_ret
         exact⟨by simp [rightN,h8,hz];omega,HC.out⟩
       ·have z4:decide ((0:Int)<(n:Int))=false:=decide_eq_false (by omega)
        go_wp2
        go_ret
        exact⟨by simp [rightN,h8,hz],HC.out⟩
      ·have z4:decide (op=4)=false:=decide_eq_false h4
       go_wp2
       go_ret
       exact⟨by simp [rightN,ho,h8,h2,h3,h4],HC.out⟩
   ·have hq:=run_neq_role r ([],[])
    rw[decide_eq_true hr]at hq
    have hq1:=hq (w.alloc (.cells #[.int .i64 op,.int .i64 k,.string ⟨r.1.toArray⟩,.string ⟨r.2.toArray⟩,.slice ao n cp] 46))
    go_wp2
    go_ret
    exact⟨by simp [rightN,ho,h8,hr],HC.out⟩
end
section
open Go.RowKit
set_option maxRecDepth 100000 in
set_option maxHeartbeats 4000000 in
theorem fm_rightNodes {D:Nat→Prop}:∀(n:Nat) (f:FmB) (ao:Option Addr) (cp:Nat) (w:World),FmsAt D w n ao f.kids→FmOk f→nodesF f≤1048576→
  Calls Tryz.prog 29 #[.agg #[.int .i64 f.op,.int .i64 f.k,.string ⟨f.r.1.toArray⟩,.string ⟨f.r.2.toArray⟩,.slice ao f.kids.length cp]] w fun e w'=>e = .returned (.bool (rightF f))∧Chg (fun _=>False) w w':=by
 intro n
 induction n using Nat.strongRecOn with
 | _ n ih=>
 intro f ao cp w h hok hN
 have hnl:=nodesL_len f.kids
 have hnf:=nodesF_eq f
 have HX:=hid h
 have HIN:=hid ih
 have HOK:=hid hok
 clear h ih hok
 have hcA:=alc w (.cells #[.int .i64 f.op,.int .i64 f.k,.string ⟨f.r.1.toArray⟩,.string ⟨f.r.2.toArray⟩,.slice ao f.kids.length cp] 46)
 have hb:=heap_alloc_new w (.cells #[.int .i64 f.op,.int .i64 f.k,.string ⟨f.r.1.toArray⟩,.string ⟨f.r.2.toArray⟩,.slice ao f.kids.length cp] 46)
 have s0:=bC hb 0
 have s1:=bC hb 1
 have s2:=bC hb 2
 have s3:=bC hb 3
 have s4:=bC hb 4
 simp only[lA,lZ,lS]at s0 s1 s2 s3 s4
 have HC0:=hid hcA
 have HB0:=hid hb
 clear hcA hb
 go_enter Tryz.func29,Tryz.ntmps29
 go_wp2
 go_loopw [8] (fun i wr=>∃j:Nat,j≤f.kids.length∧i = .int .i64 j∧Hid (rightL (f.kids.take j)=true∧Chg (fun _=>False) (w.alloc (.cells #[.int .i64 f.op,.int .i64 f.k,.string ⟨f.r.1.toArray⟩,.string ⟨f.r.2.toArray⟩,.slice ao f.kids.length cp] 46)) wr)) (fun i _=>f.kids.length-(intOf i).toNat)
 case atStart=>exact⟨0,Nat.zero_le _,rfl,hid ⟨rfl,Chg.refl _ _⟩⟩
 case round=>
  obtain⟨j,hj,rfl,hrel⟩:=hrel
  by_cases hlt:j<f.kids.length
  ·have hcw:=HC0.out.trans hrel.out.2 (fun _ _ h=>h)
   obtain⟨b,off,hao,hDb,hat⟩:=(HX.out.keep hcw (fun _ _=>id)) j hlt
   obtain⟨d,ao2,cp2,hd2,⟨a0,a1,a2,a3,a4⟩,hok2,hz2,hkids⟩:=hat.open_
   have hrs:=rightL_snoc (f.kids.take j) f.kids[j]
   rw[←List.take_succ_eq_append_getElem hlt,hrel.out.1,Bool.true_and]at hrs
   have hno:rightF f.kids[j]=false→rightF f=false:=fun h=>by rw[rightF_eq,rightL_no hlt h,Bool.false_and]
   have hle1:=nodesL_mem (List.getElem_mem hlt)
   generalize f.kids[j]=g at *
   have HNO:=hid hno
   have HRS:=hid hrs
   have hcB:=alc wr (.cells #[.int .i64 g.op,.int .i64 g.k,.string ⟨g.r.1.toArray⟩,.string ⟨g.r.2.toArray⟩,.slice ao2 g.kids.length cp2] 46)
   have hnb:=heap_alloc_new wr (.cells #[.int .i64 g.op,.int .i64 g.k,.string ⟨g.r.1.toArray⟩,.string ⟨g.r.2.toArray⟩,.slice ao2 g.kids.length cp2] 46)
   have t0:=bC hnb 0
   have t1:=bC hnb 1
   have t2:=bC hnb 2
   have t3:=bC hnb 3
   have t4:=bC hnb 4
   simp only[lA,lZ,lS]at t0 t1 t2 t3 t4
   have HIH:=hid (HIN.out d hd2 g ao2 cp2 (wr.alloc (.cells #[.int .i64 g.op,.int .i64 g.k,.string ⟨g.r.1.toArray⟩,.string ⟨g.r.2.toArray⟩,.slice ao2 g.kids.length cp2] 46)) (hkids.keep hcB (fun _ _=>id)) hok2 (by omega))
   have HC1:=hid (hcw.trans hcB (fun _ _ h=>h))
   have HC2:=hid (hrel.out.2.trans hcB (fun _ _ h=>h))
   have HLT:=hid hlt
   clear hcB hnb hrel hkids hat hle1 hok2 hd2 hno hrs hcw s0 s1 s2 s3 s4
   subst hao
   go_wp2_with fail
   refine HIH.out.mono ?_
   rintro e w3 ⟨rfl,hc3⟩
   have HC3:=hid (HC2.out.trans hc3 (fun _ _ h=>h))
   have HC4:=hid (HC1.out.trans hc3 (fun _ _ h=>h))
   clear HIH HC2 HC1 hc3 a0 a1 a2 a3 a4 t0 t1 t2 t3 t4
   cases hg:rightF g with
   | false=>
    go_wp2_with fail
    go_ret
    rw[HNO.out hg]
    exact⟨rfl,HC4.out⟩
   | true=>
    have HR2:Hid (rightL (f.kids.take (j+1))=true):=hid (by rw[HRS.out,hg])
    clear hg
    go_wp2
    go_roundw
    case rel=>exact⟨j+1,HLT.out,by go_num,hid ⟨HR2.out,HC3.out⟩⟩
    case measure=>have:=HLT.out;simp [intOf];omega
  ·have hje:j=f.kids.length:=by omega
   have hr:=hrel.out
   rw[hje,List.take_length]at hr
   have HR:=hid hr
   have HNODE:=hid (fm_rightNode f.op f.k f.r ao f.kids.length cp wr HOK.out.1 HOK.out.2 (by omega))
   have hb:=bE HB0.out hr.2 id
   clear hr hrel s0 s1 s2 s3 s4
   have s0:=bC hb 0
   have s1:=bC hb 1
   have s2:=bC hb 2
   have s3:=bC hb 3
   have s4:=bC hb 4
   simp only[lA,lZ,lS]at s0 s1 s2 s3 s4
   clear hb hje
   go_wp2_with fail
   refine HNODE.out.mono ?_
   rintro e w3 ⟨rfl,hc3⟩
   have HC3:=hid ((HC0.out.trans HR.out.2 (fun _ _ h=>h)).trans hc3 (fun _ _ h=>h))
   clear hc3 HNODE s0 s1 s2 s3 s4
   go_wp2
   go_ret
   rw[rightF_eq,HR.out.1,Bool.true_and]
   exact⟨rfl,HC3.out⟩
set_option maxRecDepth 100000 in
set_option maxHeartbeats 4000000 in
theorem fm_right {D:Nat→Prop} (n:Nat) (f:FmB) (ao:Option Addr) (cp:Nat) (w:World) (h:FmsAt D w n ao f.kids) (hD:∀i,D i→i<w.heap.size) (hok:FmOk f) (hN:nodesF f≤4096) :
  Calls Tryz.prog 13 #[.agg #[.int .i64 f.op,.int .i64 f.k,.string ⟨f.r.1.toArray⟩,.string ⟨f.r.2.toArray⟩,.slice ao f.kids.length cp]] w fun e w'=>e = .returned (.bool (isF f))∧Chg (fun _=>False) w w':=by
 have hcA:=alc w (.cells #[.int .i64 f.op,.int .i64 f.k,.string ⟨f.r.1.toArray⟩,.string ⟨f.r.2.toArray⟩,.slice ao f.kids.length cp] 46)
 have hb:=heap_alloc_new w (.cells #[.int .i64 f.op,.int .i64 f.k,.string ⟨f.r.1.toArray⟩,.string ⟨f.r.2.toArray⟩,.slice ao f.kids.length cp] 46)
 have s0:=bC hb 0
 have s1:=bC hb 1
 have s2:=bC hb 2
 have s3:=bC hb 3
 have s4:=bC hb 4
 simp only[lA,lZ,lS]at s0 s1 s2 s3 s4
 have HSZ:=hid (fm_size n f ao cp (w.alloc (.cells #[.int .i64 f.op,.int .i64 f.k,.string ⟨f.r.1.toArray⟩,.string ⟨f.r.2.toArray⟩,.slice ao f.kids.length cp] 46)) (h.keep hcA (fun _ _=>id)) (fun i hi=>Nat.lt_of_lt_of_le (hD i hi) hcA.size) hN)
 have HX:=hid (fun w' (hc:Chg (fun _=>False) w w')=>fm_rightNodes n f ao cp w' (h.keep hc (fun _ _=>id)) hok (by omega))
 have hp:=nodesF_pos f
 have HC0:=hid hcA
 have HB0:=hid hb
 clear hcA hb h hD hok
 go_enter Tryz.func13,Tryz.ntmps13
 go_wp2_with fail
 refine HSZ.out.mono ?_
 rintro e w2 ⟨rfl,hc2⟩
 have hb2:=bE HB0.out hc2 id
 have HC2:=hid (HC0.out.trans hc2 (fun _ _ h=>h))
 clear s0 s1 s2 s3 s4 HSZ HC0 hc2
 have s0:=bC hb2 0
 have s1:=bC hb2 1
 have s2:=bC hb2 2
 have s3:=bC hb2 3
 have s4:=bC hb2 4
 simp only[lA,lZ,lS]at s0 s1 s2 s3 s4
 clear hb2
 have z1:decide ((0:Int)<(nodesF f:Int))=true:=decide_eq_true (by omega)
 by_cases h64:nodesF f≤64
 ·have z2:decide ((nodesF f:Int)≤64)=true:=decide_eq_true (by omega)
  by_cases h6:deepF f≤6
  ·have z3:decide ((deepF f:Int)≤6)=true:=decide_eq_true (by omega)
   have HRS:=hid (HX.out w2 HC2.out)
   go_wp2_with fail
   refine HRS.out.mono ?_
   rintro e w3 ⟨rfl,hc3⟩
   have HC3:=hid (HC2.out.trans hc3 (fun _ _ h=>h))
   clear HRS HX hc3 HC2 HB0 s0 s1 s2 s3 s4
   go_wp2
   go_ret
   exact⟨by simp [isF,h64,h6],HC3.out⟩
  ·have z3:decide ((deepF f:Int)≤6)=false:=decide_eq_false (by omega)
   clear HX
   go_wp2
   go_ret
   exact⟨by simp [isF,h6],HC2.out⟩
 ·have z2:decide ((nodesF f:Int)≤64)=false:=decide_eq_false (by omega)
  clear HX
  go_wp2
  go_ret
  exact⟨by simp [isF,h64],HC2.out⟩
end
end Go.Proofs.YtkfinhpfdcjoeaaGreat
