/- Texts that the proof leans on, in one: NmMath, ShelfI, ShelfI2, PmSorted, PmMembers, PmTakeM. -/
import Derived.Test.YtkfinhpfdcjoeaaGreatNa43
import Derived.Lib.SlicesCompact
import Derived.Shelf.Spec.SearchS
import Derived.Shelf.SlIter.Nil
import Derived.Shelf.SortM.Plain
import Derived.Shelf.SortM.SortNone
import Derived.Ground.GgzProg
import Derived.Ground.SlgmProg
import Derived.Test.YtkfinhpfdcjoeaaGreatProg
import Derived.Test.YtkfinhpfdcjoeaaGreatNa40
import Derived.Test.YtkfinhpfdcjoeaaGreatNa13
import Derived.Sort.KeysCollected
import Derived.Test.YtkfinhpfdcjoeaaGreatNa42
/- Sorted and compacted: the set; what a search in a set comes to. Plain words, nothing of the program's text. -/
namespace Go.Proofs.YtkfinhpfdcjoeaaGreat
open Go.RowKit
theorem ltS_eq:∀(x y:List UInt8),ltS x y=decide (x<y)
 | [],[]=>by simp [ltS_nil]
 | _::_,[]=>by simp [ltS_nil]
 | [],_::_=>by simp [ltS_nil_cons]
 | x::xs,y::ys=>by
  rw[ltS_cons,ltS_eq xs ys]
  by_cases h:x<y
  ·simp [h,List.cons_lt_cons_iff]
  ·by_cases e:x=y
   ·subst e;simp
   ·simp [h,e,List.cons_lt_cons_iff]
theorem le_ltS (x y:List UInt8):decide (x≤y) = !ltS y x:=by
 rw[ltS_eq]
 by_cases h:y<x
 ·simp [h]
 ·simp [h,List.not_lt.1 h]
/-- In order, some more than once. -/
def sortS (l:List (List UInt8)):List (List UInt8):=l.mergeSort fun x y=>decide (x≤y)
theorem sortS_length (l:List (List UInt8)):(sortS l).length=l.length:=List.length_mergeSort l
theorem sortS_mem (l:List (List UInt8)) (x:List UInt8):x∈sortS l↔x∈l:=(List.mergeSort_perm l _).mem_iff
theorem sortS_sorted (l:List (List UInt8)):(sortS l).Pairwise fun x y=>ltS y x=false:=by
 have h:(sortS l).Pairwise fun x y=>decide (x≤y)=true:=by
  refine List.pairwise_mergeSort (fun a b c h1 h2=>?_) (fun a b=>?_) l
  ·rw[le_ltS]at *
   simp only[Bool.not_eq_true']at *
   cases hx:ltS c a with
   | false=>rfl
   | true=>
    rcases ltS_tri a b with k|k|k
    ·have:=ltS_trans _ _ _ hx k;rw[h2]at this;cases this
    ·subst k;rw[hx]at h2;cases h2
    ·rw[k]at h1;cases h1
  ·rw[le_ltS,le_ltS]
   cases h1:ltS b a with
   | false=>rfl
   | true=>
    cases h2:ltS a b with
    | false=>rfl
    | true=>have:=ltS_trans _ _ _ h1 h2;rw[ltS_irrefl]at this;cases this
 exact h.imp fun {a b} k=>by rw[le_ltS]at k;simpa using k
end Go.Proofs.YtkfinhpfdcjoeaaGreat
/-
  DERIVED: THE SHELF's CONTRACTS AT THIS DUMP, IN PLAIN WORDS (tools/lay-plain.mjs out of 'TryzShelfI.lean', which tools/lay-shelf.mjs wrote): THE SAME DECLARATIONS UNDER THE SAME NAMES: 'import', 'namespace', 'open', 'def', 'theorem' AND NOTHING ELSE: no command of the shelf's: FOR A HAND-IN. Each laying: the table of numbers ('.._ren') and one theorem, a field a fact of the dump's own or the kernel's comparison; each contract: ONE APPLICATION.
-/
namespace Go.Proofs
open Go.Shelf
def Tryz.keysI_ren:Go.Shelf.Ren:=⟨fun|7=>123|10=>131|n=>n,fun|23=>113|26=>9|3=>62|28=>185|0=>0|27=>184|33=>67|4=>4|n=>n,fun|n=>n⟩
theorem Tryz.keysI:Go.Proofs.SlLaysZ.n7 Tryz.prog Tryz.keysI_ren:={
 mixed:=by kernel_rfl
 f7:=⟨Tryz.f123.name,by decide,Tryz.func123.trans (congrArg some (by kernel_rfl))⟩
 f10:=⟨Tryz.f131.name,by decide,Tryz.func131.trans (congrArg some (by kernel_rfl))⟩
 t0:=Tryz.underlying0
 a0:=Tryz.isAgg0
 z0:=Tryz.sizeOf0
 v0:=Tryz.zeroValue0
 t4:=Tryz.underlying4
 a4:=Tryz.isAgg4
 z4:=Tryz.sizeOf4
 v4:=Tryz.zeroValue4
 t23:=Tryz.underlying113
 a23:=Tryz.isAgg113
 z23:=Tryz.sizeOf113
 v23:=Tryz.zeroValue113
 t26:=Tryz.underlying9
 a26:=Tryz.isAgg9
 z26:=Tryz.sizeOf9
 v26:=Tryz.zeroValue9
 t27:=Tryz.underlying184
 a27:=Tryz.isAgg184
 z27:=Tryz.sizeOf184
 v27:=Tryz.zeroValue184
 t28:=Tryz.underlying185
 a28:=Tryz.isAgg185
 z28:=Tryz.sizeOf185
 v28:=Tryz.zeroValue185
 t33:=Tryz.underlying67
 a33:=Tryz.isAgg67
 z33:=Tryz.sizeOf67
 v33:=Tryz.zeroValue67}
def Tryz.sortedI_ren:Go.Shelf.Ren:=⟨fun|6=>122|8=>129|9=>130|11=>141|13=>70|12=>142|23=>96|24=>97|14=>147|15=>148|16=>149|17=>150|18=>151|19=>152|20=>153|21=>154|22=>155|25=>157|26=>116|27=>117|28=>158|29=>159|30=>160|31=>161|n=>n,fun|26=>9|28=>185|24=>166|0=>0|3=>3|37=>126|48=>156|50=>158|4=>4|40=>149|39=>148|45=>153|5=>5|9=>9|51=>174|55=>178|57=>194|58=>72|33=>67|n=>n,fun|n=>n⟩
theorem Tryz.sortedI:Go.Proofs.SlLaysZ.n6 Tryz.prog Tryz.sortedI_ren:={
 mixed:=by kernel_rfl
 f6:=⟨Tryz.f122.name,by decide,Tryz.func122.trans (congrArg some (by kernel_rfl))⟩
 f8:=⟨Tryz.f129.name,by decide,Tryz.func129.trans (congrArg some (by kernel_rfl))⟩
 f11:=⟨Tryz.f141.name,by decide,Tryz.func141.trans (congrArg some (by kernel_rfl))⟩
 t0:=Tryz.underlying0
 a0:=Tryz.isAgg0
 z0:=Tryz.sizeOf0
 v0:=Tryz.zeroValue0
 t24:=Tryz.underlying166
 a24:=Tryz.isAgg166
 z24:=Tryz.sizeOf166
 v24:=Tryz.zeroValue166
 t26:=Tryz.underlying9
 a26:=Tryz.isAgg9
 z26:=Tryz.sizeOf9
 v26:=Tryz.zeroValue9
 t28:=Tryz.underlying185
 a28:=Tryz.isAgg185
 z28:=Tryz.sizeOf185
 v28:=Tryz.zeroValue185
 i26:=by kernel_rfl}
def Tryz.sortI_ren:Go.Shelf.Ren:=⟨fun|6=>130|8=>70|9=>142|19=>96|20=>97|21=>147|22=>148|23=>149|24=>150|25=>151|26=>152|27=>153|28=>154|29=>155|36=>157|31=>116|32=>117|37=>158|38=>159|39=>160|41=>161|n=>n,fun|27=>166|29=>9|3=>3|32=>126|26=>166|0=>0|44=>156|46=>158|4=>4|36=>149|35=>148|41=>153|5=>5|9=>9|53=>174|57=>178|63=>194|64=>72|n=>n,fun|n=>n⟩
theorem Tryz.sortI:Go.Proofs.SlLaysM.n6 Tryz.prog Tryz.sortI_ren:={
 mixed:=by kernel_rfl
 f6:=⟨Tryz.f130.name,by decide,Tryz.func130.trans (congrArg some (by kernel_rfl))⟩
 f8:=Tryz.func70.trans (congrArg some (by kernel_rfl))
 f9:=⟨Tryz.f142.name,by decide,Tryz.func142.trans (congrArg some (by kernel_rfl))⟩
 f19:=Tryz.func96.trans (congrArg some (by kernel_rfl))
 f20:=Tryz.func97.trans (congrArg some (by kernel_rfl))
 f21:=⟨Tryz.f147.name,by decide,Tryz.func147.trans (congrArg some (by kernel_rfl))⟩
 f22:=⟨Tryz.f148.name,by decide,Tryz.func148.trans (congrArg some (by kernel_rfl))⟩
 f23:=⟨Tryz.f149.name,by decide,Tryz.func149.trans (congrArg some (by kernel_rfl))⟩
 f24:=⟨Tryz.f150.name,by decide,Tryz.func150.trans (congrArg some (by kernel_rfl))⟩
 f25:=⟨Tryz.f151.name,by decide,Tryz.func151.trans (congrArg some (by kernel_rfl))⟩
 f26:=⟨Tryz.f152.name,by decide,Tryz.func152.trans (congrArg some (by kernel_rfl))⟩
 f27:=⟨Tryz.f153.name,by decide,Tryz.func153.trans (congrArg some (by kernel_rfl))⟩
 f28:=⟨Tryz.f154.name,by decide,Tryz.func154.trans (congrArg some (by kernel_rfl))⟩
 f29:=⟨Tryz.f155.name,by decide,Tryz.func155.trans (congrArg some (by kernel_rfl))⟩
 f31:=Tryz.func116.trans (congrArg some (by kernel_rfl))
 f32:=Tryz.func117.trans (congrArg some (by kernel_rfl))
 f36:=⟨Tryz.f157.name,by decide,Tryz.func157.trans (congrArg some (by kernel_rfl))⟩
 f37:=⟨Tryz.f158.name,by decide,Tryz.func158.trans (congrArg some (by kernel_rfl))⟩
 f38:=⟨Tryz.f159.name,by decide,Tryz.func159.trans (congrArg some (by kernel_rfl))⟩
 f39:=⟨Tryz.f160.name,by decide,Tryz.func160.trans (congrArg some (by kernel_rfl))⟩
 f41:=⟨Tryz.f161.name,by decide,Tryz.func161.trans (congrArg some (by kernel_rfl))⟩
 t0:=Tryz.underlying0
 a0:=Tryz.isAgg0
 z0:=Tryz.sizeOf0
 v0:=Tryz.zeroValue0
 t3:=Tryz.underlying3
 a3:=Tryz.isAgg3
 z3:=Tryz.sizeOf3
 v3:=Tryz.zeroValue3
 t4:=Tryz.underlying4
 a4:=Tryz.isAgg4
 z4:=Tryz.sizeOf4
 v4:=Tryz.zeroValue4
 t5:=Tryz.underlying5
 a5:=Tryz.isAgg5
 z5:=Tryz.sizeOf5
 v5:=Tryz.zeroValue5
 t9:=Tryz.underlying9
 a9:=Tryz.isAgg9
 z9:=Tryz.sizeOf9
 v9:=Tryz.zeroValue9
 t26:=Tryz.underlying166
 a26:=Tryz.isAgg166
 z26:=Tryz.sizeOf166
 v26:=Tryz.zeroValue166
 t27:=Tryz.underlying166
 a27:=Tryz.isAgg166
 z27:=Tryz.sizeOf166
 v27:=Tryz.zeroValue166
 t29:=Tryz.underlying9
 a29:=Tryz.isAgg9
 z29:=Tryz.sizeOf9
 v29:=Tryz.zeroValue9
 t32:=Tryz.underlying126
 a32:=Tryz.isAgg126
 z32:=Tryz.sizeOf126
 v32:=Tryz.zeroValue126
 t35:=Tryz.underlying148
 a35:=Tryz.isAgg148
 z35:=Tryz.sizeOf148
 v35:=Tryz.zeroValue148
 t36:=Tryz.underlying149
 a36:=Tryz.isAgg149
 z36:=Tryz.sizeOf149
 v36:=Tryz.zeroValue149
 t41:=Tryz.underlying153
 a41:=Tryz.isAgg153
 z41:=Tryz.sizeOf153
 v41:=Tryz.zeroValue153
 t44:=Tryz.underlying156
 a44:=Tryz.isAgg156
 z44:=Tryz.sizeOf156
 v44:=Tryz.zeroValue156
 t46:=Tryz.underlying158
 a46:=Tryz.isAgg158
 z46:=Tryz.sizeOf158
 v46:=Tryz.zeroValue158
 t53:=Tryz.underlying174
 a53:=Tryz.isAgg174
 z53:=Tryz.sizeOf174
 v53:=Tryz.zeroValue174
 t57:=Tryz.underlying178
 a57:=Tryz.isAgg178
 z57:=Tryz.sizeOf178
 v57:=Tryz.zeroValue178
 t63:=Tryz.underlying194
 a63:=Tryz.isAgg194
 z63:=Tryz.sizeOf194
 v63:=Tryz.zeroValue194
 t64:=Tryz.underlying72
 a64:=Tryz.isAgg72
 z64:=Tryz.sizeOf72
 v64:=Tryz.zeroValue72}
end Go.Proofs
/- The library's contract of slices.Sorted at what maps.Keys hands back, at this program. -/
namespace Go.Proofs
open Go.RowKit Go.Maps Go.Sort Go.Shelf
theorem Tryz.sortsI (m:Nat):AnyZ.SortsIn Tryz.prog Tryz.sortedI_ren Fence.wide m:=
 ⟨fun blk off cap ss W hH hblk hsz=>callsIn_wide.2 (AnyM.slices_Sort_string Tryz.sortI blk off cap ss W hH hblk hsz),
  fun p cap W=>callsIn_wide.2 (AnyM.slices_Sort_string_none Tryz.sortI p cap W)⟩
theorem Tryz.maps_Keys_m (mb:Option Nat) (W:World):CallsIn Fence.wide 5 Tryz.prog 123 #[.map mb] W fun e w'=>e = .returned (.func (.func 131) #[] #[.pointer (some ⟨W.heap.size,0,none⟩)])∧w'=W.alloc (.cells #[.map mb] 113):=
 AnyZ.keys_in Tryz.keysI Fence.wide 5 trivial rfl mb W
end Go.Proofs
/- slices.Sorted of maps.Keys, at whatever world; the names of a set. -/
namespace Go.Proofs.YtkfinhpfdcjoeaaGreat
open Go.RowKit Go.Maps Go.Sort Go.Shelf
set_option maxHeartbeats 1000000 in
theorem sorted_some {H:Type} (Bm b nn:Nat) (D0:DataW H) (R:Value→Option (DataW H×List MemPlace)) (w:World) (hBm:Bm<w.heap.size) (hm:w.cell? ⟨Bm,0,none⟩=some (.map (some b))) (hown:w.ownsMap Tryz.prog 9 R b nn D0) (hmax:Maps.size D0≤maxLen) (hbytes:Maps.size D0*16≤140737488355328) :
  CallsIn Fence.wide 5 Tryz.prog 122 #[.func (.func 131) #[] #[.pointer (some ⟨Bm,0,none⟩)]] w fun e w'=>∃(v:Value) (ss:List (List UInt8)),e = .returned v∧ss.Perm (strKeys D0)∧
   w'.ownsRow w.heap.size 9 1 v ss.length ((ss.mergeSort (fun x y=>decide (x≤y))).map encStr)∧(v = .slice none 0 0↔ss=[])∧Below w.heap.size w w':=by
 have hseq:SeqGives Fence.wide 2 Tryz.prog 131 #[.pointer (some ⟨Bm,0,none⟩)] encStr (fun ss=>ss.Perm (strKeys D0)) (Maps.size D0) w:=
  AnyZ.keys_gives (ρ:=Tryz.keysI_ren) {Tryz.keysI with} Fence.wide _ trivial rfl (by omega) Bm b nn D0 _ hBm hm hown
 exact AnyZ.sorted_in Tryz.sortedI Fence.wide 5 trivial trivial trivial trivial rfl (by omega) (Tryz.sortsI _) (enters_of Tryz.func130 (by kernel_rfl) rfl) 131 #[.pointer (some ⟨Bm,0,none⟩)] trivial (enters_of Tryz.func131 (by kernel_rfl) rfl) _ _ hmax hbytes _ hseq
set_option maxHeartbeats 1000000 in
theorem sorted_nil (Bm:Nat) (w:World) (hBm:Bm<w.heap.size) (hm:w.cell? ⟨Bm,0,none⟩=some (.map none)) :
  CallsIn Fence.wide 5 Tryz.prog 122 #[.func (.func 131) #[] #[.pointer (some ⟨Bm,0,none⟩)]] w fun e w'=>∃(v:Value) (ss:List (List UInt8)),e = .returned v∧ss=[]∧
   w'.ownsRow w.heap.size 9 1 v ss.length ((ss.mergeSort (fun x y=>decide (x≤y))).map encStr)∧(v = .slice none 0 0↔ss=[])∧Below w.heap.size w w':=by
 have hseq:SeqGives Fence.wide 2 Tryz.prog 131 #[.pointer (some ⟨Bm,0,none⟩)] encStr (fun ss:List (List UInt8)=>ss=[]) 0 w:=
  AnyZ.keys_gives_nil (ρ:=Tryz.keysI_ren) {Tryz.keysI with} Fence.wide _ trivial rfl Bm _ hBm hm
 exact AnyZ.sorted_in Tryz.sortedI Fence.wide 5 trivial trivial trivial trivial rfl (by omega) (Tryz.sortsI _) (enters_of Tryz.func130 (by kernel_rfl) rfl) 131 #[.pointer (some ⟨Bm,0,none⟩)] trivial (enters_of Tryz.func131 (by kernel_rfl) rfl) _ 0 (Nat.zero_le _) (by omega) _ hseq
/-- The names of a set, as the map's own words have them. -/
theorem KM.names {R:Value→Option (DataW Value×List MemPlace)} {w:World} {mb:Nat} {l:List (List UInt8)} {M:DataW Value} (h:KM ktS R w mb l M):l.Perm (strKeys M)∧Maps.size M≤l.length:=by
 refine⟨?_,h.own.size_le⟩
 obtain⟨es,rfl,hp⟩:=h.own.tidy ktS.keyed
 obtain⟨es',he',hk⟩:=h.own.keysOf
 cases he'
 have hstr:∀p∈es,∃x,p.1 = .string x:=fun p hp'=>by
  obtain⟨v,hv⟩:=hk p hp'
  obtain⟨x,_,hx,_⟩:=Maps.keyOf_str Tryz.underlying9 hv
  exact⟨x,hx⟩
 refine perm_strKeys hp hstr h.nd (fun x=>?_)
 constructor
 ·intro hx
  exact(h.has x (h.ok x hx)).2 hx
 ·intro hh
  obtain⟨a,ha,e⟩:=h.of _ hh
  cases e
  exact ha
theorem sortS_rises {l:List (List UInt8)} (h:l.Nodup):Rising (sortS l):=by
 have hn:(sortS l).Nodup:=(List.mergeSort_perm l _).nodup_iff.2 h
 have hs:=sortS_sorted l
 generalize sortS l=m at *
 induction m with
 | nil=>trivial
 | cons x m ih=>
  obtain⟨a,b⟩:=List.nodup_cons.1 hn
  obtain⟨c,d⟩:=List.pairwise_cons.1 hs
  refine⟨fun y hy=>?_,ih b d⟩
  rcases ltS_tri x y with k|k|k
  ·exact k
  ·exact absurd (k▸hy) a
  ·rw[c y hy]at k;cases k
/-- The sorted names, in a row of the call's own. -/
def SortedS (xs:List (List UInt8)) (B:Nat) (e:Ending) (w w':World):Prop:=
 ∃ao cap,e = .returned (.slice ao xs.length cap)∧StrsAt (fun k=>B≤k∧k<w'.heap.size) w' ao (sortS xs)∧Chg (fun _=>False) w w'∧(ao=none→cap=0)
theorem sortedS_of {w w':World} {v:Value} {ss xs:List (List UInt8)} (hp:ss.Perm xs) (hrow:w'.ownsRow w.heap.size 9 1 v ss.length ((ss.mergeSort (fun x y=>decide (x≤y))).map encStr)) (hb:Below w.heap.size w w') (hok:∀x∈xs,x.length≤9223372036854775807) (hnd:xs.Nodup):SortedS xs w.heap.size (.returned v) w w':=by
 have hso:sortS ss=sortS xs:=by
  refine(sortS_rises (hp.nodup_iff.2 hnd)).ext (sortS_rises hnd) (fun x=>?_)
  rw[sortS_mem,sortS_mem,hp.mem_iff]
 have ho:OwnS w.heap.size w' v (sortS ss):=by
  unfold OwnS
  rw[sortS_length]
  exact hrow
 obtain⟨ao,cap,hv,hst⟩:=ho.strs (fun x hx=>hok x (hp.mem_iff.1 ((sortS_mem _ _).1 hx)))
 have h0:ao=none→cap=0:=fun e=>by
  subst e
  rcases ho.2 with ⟨e2,_⟩|⟨g,cap',cur,e2,_⟩
  ·rw[hv]at e2;injection e2
  ·rw[hv]at e2;injection e2 with h1;cases h1
 subst hv
 refine⟨ao,cap,by rw[sortS_length,hp.length_eq],by rw[←hso];exact hst,⟨hb.os,hb.tape,hb.output,hb.size,fun k hk _=>hb.block k hk⟩,h0⟩
end Go.Proofs.YtkfinhpfdcjoeaaGreat
/- Who is in a role. -/
namespace Go.Proofs.YtkfinhpfdcjoeaaGreat
open Go.RowKit Go.Maps
/-- What maps.Keys hands back. -/
def Spec.keysF (y:Option Nat):Spec:=
 ⟨fun v w=>∃Bm,v = .func (.func 131) #[] #[.pointer (some ⟨Bm,0,none⟩)]∧w.heap[Bm]? = some (.cells #[.map y] 113 (0,0)),fun _ _ _ hc ⟨Bm,h1,h2⟩=>⟨Bm,h1,bE h2 hc id⟩⟩
def Spec.sortedF (lo:Nat) (xs:List (List UInt8)):Spec:=
 ⟨fun v w=>∃ao cap,v = .slice ao xs.length cap∧StrsAt (fun k=>lo≤k∧k<w.heap.size) w ao (sortS xs)∧(ao=none→cap=0),fun _ _ _ hc ⟨ao,cap,h1,h2,h3⟩=>⟨ao,cap,h1,(h2.keep hc (fun _ _=>id)).mono (fun _ hi=>⟨hi.1,Nat.lt_of_lt_of_le hi.2 hc.size⟩),h3⟩⟩
def pmemSpecs (g A m lo:Nat) (r:RoleB) (y:Option Nat) (xs:List (List UInt8)):List Spec:=[.eq (.pointer (some ⟨g,0,none⟩)),.any,.any,.eq (.pointer (some ⟨A,0,none⟩)),.sortedF lo xs,.any,.any,.eq (.pointer (some ⟨g,0,none⟩)),.eq (.pointer (some ⟨g,0,none⟩)),.eq (.pointer (some ⟨g,0,none⟩)),.eq (.map (some m)),.eq (.agg #[.string ⟨r.1.toArray⟩,.string ⟨r.2.toArray⟩]),.eq (.map y),.keysF y,.sortedF lo xs]
/-- The members of a role, rising. -/
def MemPost (F:List FactB) (r:RoleB) (w:World) (e:Ending) (w':World):Prop:=
 ∃xs ao cap,e = .returned (.slice ao xs.length cap)∧(∀s,s∈xs↔(r,s)∈F)∧xs.Nodup∧StrsAt (fun k=>w.heap.size≤k∧k<w'.heap.size) w' ao (sortS xs)∧Chg (fun _=>False) w w'∧(ao=none→cap=0)
set_option maxRecDepth 100000 in
set_option maxHeartbeats 1000000 in
theorem pmem {K O:Nat→Prop} (g:Nat) (F:List FactB) {n2 n3:Nat} {R2:RoleB→CredB→Prop} {R3:List UInt8→CredB→Prop} (r:RoleB) (w:World) (h:MS K O w g F n2 R2 n3 R3) (hr:ktR.ok r) (hn:F.length≤4000000) :
  Calls Tryz.prog 105 #[.pointer (some ⟨g,0,none⟩),.agg #[.string ⟨r.1.toArray⟩,.string ⟨r.2.toArray⟩]] w (MemPost F r w):=by
 have hc1:=alc w (.cells #[.string ⟨r.1.toArray⟩,.string ⟨r.2.toArray⟩] 32)
 have hb1:(w.alloc (.cells #[.string ⟨r.1.toArray⟩,.string ⟨r.2.toArray⟩] 32)).heap[w.heap.size]? = some (.cells #[.string ⟨r.1.toArray⟩,.string ⟨r.2.toArray⟩] 32 (0,0)):=heap_alloc_new w _
 obtain⟨⟨m,m2,m3,O1,O2,O3,h0,h1,_⟩,_⟩:=h
 have h0':=bE h0 hc1 id
 have h1':=h1.keep hc1 (fun _ _=>id)
 have HS0:Hid (∃(y:Option Nat) (xs:List (List UInt8)),(∀s,s∈xs↔(r,s)∈F)∧xs.Nodup∧(∀w',Chg (fun _=>False) (w.alloc (.cells #[.string ⟨r.1.toArray⟩,.string ⟨r.2.toArray⟩] 32)) w'→(Instr.lookup 108 (.map (some m)) (.agg #[.string ⟨r.1.toArray⟩,.string ⟨r.2.toArray⟩]) false).run Tryz.prog w' = .ok (.map y) w')∧
   ∀w',Chg (fun _=>False) (w.alloc (.cells #[.string ⟨r.1.toArray⟩,.string ⟨r.2.toArray⟩] 32)) w'→∀Bm,w'.heap[Bm]? = some (.cells #[.map y] 113 (0,0))→Calls Tryz.prog 122 #[.func (.func 131) #[] #[.pointer (some ⟨Bm,0,none⟩)]] w' fun e w''=>∃ao cap,e = .returned (.slice ao xs.length cap)∧StrsAt (fun k=>w'.heap.size≤k∧k<w''.heap.size) w'' ao (sortS xs)∧Chg (fun _=>False) w' w''∧(ao=none→cap=0)):=hid (by
  rcases h1'.here (t:=108) (e:=113) Tryz.underlying108 mZeroIn hr with ⟨b,xs,q1,q2,⟨M,hM⟩,q4,q5,q6⟩|⟨q1,q2⟩
  ·refine⟨some b,xs,q5,hM.nd,fun w' hc=>q6 w' hc.none,fun w' hc Bm hBm=>?_⟩
   have hM':=hM.keep hc id
   have hnm:=hM'.names
   refine(callsIn_wide.1 (sorted_some Bm b xs.length M unitElem w' (lt_blk hBm) (bC hBm 0) hM'.own (by unfold maxLen;omega) (by omega))).mono ?_
   rintro e w'' ⟨v,ss,rfl,hp,hrow,_,hb⟩
   exact sortedS_of (hp.trans hnm.1.symm) hrow hb hM.ok hM.nd
  ·refine⟨none,[],fun s=>⟨fun h=>(by cases h),fun h=>absurd h (q1 s)⟩,List.nodup_nil,fun w' hc=>q2 w' hc.none,fun w' hc Bm hBm=>?_⟩
   refine(callsIn_wide.1 (sorted_nil Bm w' (lt_blk hBm) (bC hBm 0))).mono ?_
   rintro e w'' ⟨v,ss,rfl,rfl,hrow,_,hb⟩
   exact sortedS_of (List.Perm.refl _) hrow hb (fun _ h=>(by cases h)) List.nodup_nil)
 obtain⟨y,xs,hxs,hnd,hl,hS⟩:=HS0.out
 have HB:=hid (aI hxs hnd)
 have x0:=bC h0' 0
 have x1:=bC hb1 0
 have x2:=bC hb1 1
 simp only[lA,lZ,lS]at x0 x1 x2
 have HX:=hid (aI x0 (aI x1 x2))
 have HL:=hid hl
 have HS:=hid hS
 have HC:=hid hc1
 have HLO:=hid hc1.size
 clear h0 h1 h0' h1' hl hS x0 x1 x2 hc1 hb1 HS0 hxs hnd
 go_enter Tryz.func105,Tryz.ntmps105
 go_wp2_with fail
 generalize (w.alloc (.cells #[.string ⟨r.1.toArray⟩,.string ⟨r.2.toArray⟩] 32))=w1 at *
 obtain⟨A,hAe⟩:∃A,w.heap.size=A:=⟨_,rfl⟩
 obtain⟨lo,hlo⟩:∃lo,w.heap.size=lo:=⟨_,rfl⟩
 rw[hlo]at HLO
 have HLOE:=hid hlo
 simp only[hAe]at HX ⊢
 clear hAe hlo
 refine wp_region_specs (pmemSpecs g A m lo r y xs) [7,8,9,10,11,12,13,14,4] [0,3] (by kernel_rfl) (by kernel_rfl) (by rfl) (by kernel_rfl) ?start ?obs ?fin
 case start=>
  simp only[List.forall_mem_cons];exact⟨⟨_,rfl,rfl⟩,⟨_,rfl,rfl⟩,fun _ h=>by cases h⟩
 case obs=>
  clear HC HB
  refine Obs.cons none (by kernel_rfl) ?_ ?_
  ·refine Ob.plain fun a w hR hk K k=>?_
   obtain⟨_,e0,f0⟩:=hk 0 (by decide)
   clear hk
   go_simp
   exact k _ _ R0 f0
  refine Obs.cons none (by kernel_rfl) ?_ ?_
  ·refine Ob.plain fun a w hR hk K k=>?_
   obtain⟨_,e7,rfl⟩:=hk 7 (by decide)
   clear hk
   go_simp
   exact k _ _ R0 rfl
  refine Obs.cons none (by kernel_rfl) ?_ ?_
  ·refine Ob.plain fun a w hR hk K k=>?_
   obtain⟨_,e8,rfl⟩:=hk 8 (by decide)
   clear hk
   go_simp
   exact k _ _ R0 rfl
  refine Obs.cons none (by kernel_rfl) ?_ ?_
  ·refine Ob.plain fun a w hR hk K k=>?_
   obtain⟨_,e9,rfl⟩:=hk 9 (by decide)
   clear hk
   have zz:=hR.cell HX.out.1 id
   go_simp
   exact k _ _ R0 rfl
  refine Obs.cons none (by kernel_rfl) ?_ ?_
  ·refine Ob.plain fun a w hR hk K k=>?_
   obtain⟨_,e3,rfl⟩:=hk 3 (by decide)
   clear hk
   have z0:=hR.cell HX.out.2.1 id
   have z1:=hR.cell HX.out.2.2 id
   go_simp
   exact k _ _ R0 rfl
  refine Obs.cons none (by kernel_rfl) ?_ ?_
  ·refine Ob.plain fun a w hR hk K k=>?_
   obtain⟨_,e10,rfl⟩:=hk 10 (by decide)
   obtain⟨_,e11,rfl⟩:=hk 11 (by decide)
   clear hk
   have q:=HL.out w hR
   go_simp
   exact k _ _ R0 rfl
  refine Obs.cons none (by kernel_rfl) ?_ ?_
  ·refine Ob.plain fun a w hR hk K k=>?_
   obtain⟨_,e12,rfl⟩:=hk 12 (by decide)
   clear hk
   have q:=callsIn_wide.1 (Tryz.maps_Keys_m y w)
   go_simp
   refine q.mono ?_
   rintro e w5 ⟨rfl,rfl⟩
   exact k _ _ (R0.alloc _) ⟨w.heap.size,rfl,heap_alloc_new w _⟩
  refine Obs.cons none (by kernel_rfl) ?_ ?_
  ·refine Ob.plain fun a w hR hk K k=>?_
   obtain⟨_,e13,f13⟩:=hk 13 (by decide)
   clear hk
   obtain⟨Bm,rfl,hb⟩:=f13
   have q:=HS.out w hR Bm hb
   have HR:=hid hR.size
   clear hR
   go_simp
   refine q.mono ?_
   rintro e w5 ⟨ao,cap,rfl,h2,h3,h4⟩
   exact k _ _ h3 ⟨ao,cap,rfl,h2.mono (fun i hi=>⟨Nat.le_trans (Nat.le_trans HLO.out HR.out) hi.1,hi.2⟩),h4⟩
  refine Obs.cons none (by kernel_rfl) ?_ ?_
  ·refine Ob.plain fun a w hR hk K k=>?_
   obtain⟨_,e14,f14⟩:=hk 14 (by decide)
   clear hk
   go_simp
   exact k _ _ R0 f14
  exact Obs.nil
 case fin=>
  intro vals w9 hc9 hv
  obtain⟨ao,cap,h4,h5,h6⟩:=hv 4 (by decide)
  simp only[putAll,List.setIfInBounds_toArray,List.set_cons_zero,List.set_cons_succ,h4]
  have HC9:=hid (aI (HC.out.trans hc9 (fun _ _ h=>h)) (aI h5 h6))
  clear hc9 hv h4 h5 h6 HC HX HL HS
  go_wp2
  go_ret
  refine⟨xs,ao,cap,rfl,HB.out.1,HB.out.2,?_,HC9.out.1,HC9.out.2.2⟩
  rw[HLOE.out]
  exact HC9.out.2.1
end Go.Proofs.YtkfinhpfdcjoeaaGreat
/- What taking a credential does to what leans and is linked: plain words; what take leaves. -/
namespace Go.Proofs.YtkfinhpfdcjoeaaGreat
open Go.RowKit Go.Maps
theorem leanR_in {T:List CredB} {c:CredB} (h:c∈T) (r:RoleB) (d:CredB):leanR T r d↔leanR (T++[c]) r d:=by
 unfold leanR
 rw[List.mem_append,List.mem_singleton]
 exact and_congr_left fun _=>⟨.inl,fun e=>e.elim id (fun e=>e▸h)⟩
theorem linkR_in {T:List CredB} {c:CredB} (h:c∈T) (r:List UInt8) (d:CredB):linkR T r d↔linkR (T++[c]) r d:=by
 unfold linkR
 rw[List.mem_append,List.mem_singleton]
 exact and_congr_left fun _=>⟨.inl,fun e=>e.elim id (fun e=>e▸h)⟩
theorem leanR_one {T:List CredB} {c:CredB} (hk:c.kind=1) (r:RoleB) (d:CredB):leanR T r d↔leanR (T++[c]) r d:=by
 unfold leanR
 rw[List.mem_append,List.mem_singleton]
 exact⟨fun⟨h,k⟩=>⟨.inl h,k⟩,fun⟨h,k⟩=>⟨h.elim id (fun e=>absurd (e▸hk) k.2.1),k⟩⟩
theorem linkR_not {T:List CredB} {c:CredB} (hk:c.kind≠3) (r:List UInt8) (d:CredB):linkR T r d↔linkR (T++[c]) r d:=by
 unfold linkR
 rw[List.mem_append,List.mem_singleton]
 exact⟨fun⟨h,k⟩=>⟨.inl h,k⟩,fun⟨h,k⟩=>⟨h.elim id (fun e=>absurd (e▸k.2.1) hk),k⟩⟩
theorem leanR_new {T:List CredB} {c:CredB} (hc:isCred c=true) (hk:c.kind≠1) (hk4:c.kind≠4) (r:RoleB) (d:CredB):(leanR T r d∨(r=c.b∧d=c))↔leanR (T++[c]) r d:=by
 unfold leanR
 rw[List.mem_append,List.mem_singleton]
 constructor
 ·rintro (⟨h,k⟩|⟨rfl,rfl⟩)
  ·exact⟨.inl h,k⟩
  ·exact⟨.inr rfl,hc,hk,.inl rfl⟩
 ·rintro ⟨h|rfl,k⟩
  ·exact .inl ⟨h,k⟩
  ·rcases k.2.2 with e|e
   ·exact .inr ⟨e.symm,rfl⟩
   ·exact absurd e.1 hk4
theorem leanR_both {T:List CredB} {c:CredB} (hc:isCred c=true) (hk4:c.kind=4) (r:RoleB) (d:CredB):((leanR T r d∨(r=c.c∧d=c))∨(r=c.b∧d=c))↔leanR (T++[c]) r d:=by
 unfold leanR
 rw[List.mem_append,List.mem_singleton]
 constructor
 ·rintro ((⟨h,k⟩|⟨rfl,rfl⟩)|⟨rfl,rfl⟩)
  ·exact⟨.inl h,k⟩
  ·exact⟨.inr rfl,hc,by omega,.inr ⟨hk4,rfl⟩⟩
  ·exact⟨.inr rfl,hc,by omega,.inl rfl⟩
 ·rintro ⟨h|rfl,k⟩
  ·exact .inl (.inl ⟨h,k⟩)
  ·rcases k.2.2 with e|e
   ·exact .inr ⟨e.symm,rfl⟩
   ·exact .inl (.inr ⟨e.2.symm,rfl⟩)
theorem linkR_new {T:List CredB} {c:CredB} (hc:isCred c=true) (hk:c.kind=3) (r:List UInt8) (d:CredB):(linkR T r d∨(r=c.w2∧d=c))↔linkR (T++[c]) r d:=by
 unfold linkR
 rw[List.mem_append,List.mem_singleton]
 constructor
 ·rintro (⟨h,k⟩|⟨rfl,rfl⟩)
  ·exact⟨.inl h,k⟩
  ·exact⟨.inr rfl,hc,hk,rfl⟩
 ·rintro ⟨h|rfl,k⟩
  ·exact .inl ⟨h,k⟩
  ·exact .inr ⟨k.2.2.symm,rfl⟩
theorem both_ne {c:CredB} (hc:isCred c=true) (hk:c.kind=4):c.b≠c.c:=fun e=>by
 unfold isCred at hc
 simp [hk]at hc
 have:=hc.2.2.2.2
 rw[e,ltR_ord.irrefl]at this
 cases this
/-- What take leaves. -/
def TakePost (ls:List CredB) (O:Nat→Prop) (g:Nat) (F:List FactB) (T:List CredB) (c:CredB) (w:World) (e:Ending) (w':World):Prop:=
 ∃v cs,∃K' O':Nat→Prop,e = .returned v∧Came w.heap.size O' w' v cs∧MS K' O' w' g (F++cs) (2*(T++[c]).length) (leanR (T++[c])) (T++[c]).length (linkR (T++[c]))∧Grew O O' w∧Chg O w w'∧(F++cs).Nodup∧(∀f∈F++cs,Der ls f)∧(c∉T→TakenF F (F++cs) c)
theorem TakePost.nil {ls:List CredB} {O Ka Oa:Nat→Prop} {g:Nat} {F:List FactB} {T:List CredB} {c:CredB} {w w':World} {n2 n3:Nat} {R2:RoleB→CredB→Prop} {R3:List UInt8→CredB→Prop} (h:MS Ka Oa w' g F n2 R2 n3 R3) (h2:∀r d,R2 r d↔leanR (T++[c]) r d) (h3:∀r d,R3 r d↔linkR (T++[c]) r d) (e2:n2≤2*(T++[c]).length) (e3:n3≤(T++[c]).length)
  (hg:Grew O Oa w) (hc:Chg O w w') (hnd:F.Nodup) (hF:∀f∈F,Der ls f) (hT:c∈T):TakePost ls O g F T c w (.returned (.slice none 0 0)) w':=
 ⟨_,[],Ka,Oa,rfl,Came.nil _ _ _,by rw[List.append_nil];exact h.cong h2 h3 e2 e3,hg,hc,by rwa [List.append_nil],by rwa [List.append_nil],fun h=>absurd hT h⟩
theorem GrowI.taken {ls:List CredB} {O Ka Oa O1:Nat→Prop} {g:Nat} {F:List FactB} {T:List CredB} {c:CredB} {w wa w':World} {n2 n3:Nat} {R2:RoleB→CredB→Prop} {R3:List UInt8→CredB→Prop} {v:Value} {cs:List FactB} (h:GrowI ls Ka Oa g F n2 R2 n3 R3 wa w' v cs O1) (h2:∀r d,R2 r d↔leanR (T++[c]) r d) (h3:∀r d,R3 r d↔linkR (T++[c]) r d) (e2:n2≤2*(T++[c]).length) (e3:n3≤(T++[c]).length)
  (hg:Grew O Oa w) (hc:Chg O w wa) (hT:c∉T→TakenF F (F++cs) c):TakePost ls O g F T c w (.returned v) w':=
 ⟨_,cs,Ka,O1,rfl,h.came.low hc.size,h.ms.cong h2 h3 e2 e3,hg.trans h.grew hc.size,hc.step hg h.chg.up,h.nd,h.der,hT⟩
end Go.Proofs.YtkfinhpfdcjoeaaGreat
