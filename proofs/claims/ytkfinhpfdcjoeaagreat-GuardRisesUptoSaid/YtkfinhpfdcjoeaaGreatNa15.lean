/- Texts that the proof leans on, in one: FmCmp, RoleSort0, ShelfQ, DrawnSteps. -/
import Derived.Test.YtkfinhpfdcjoeaaGreatNa14
import Derived.Test.YtkfinhpfdcjoeaaGreatNa6
import Derived.Test.YtkfinhpfdcjoeaaGreatNa1
import Derived.Shelf.SlSortCmp.WholeK
import Derived.Shelf.SlSortCmp.NoneTotal
import Derived.Ground.SlsfProg
import Derived.Test.YtkfinhpfdcjoeaaGreatProg
import Derived.Calls
import Derived.Lone
import Derived.StepT
/- Compare of two formulas. -/
namespace Go.Proofs.YtkfinhpfdcjoeaaGreat
open Go.RowKit
def wrF (f:FmB):List UInt8:=if isF f then encF f else []
theorem wrF_len (f:FmB):(wrF f).length≤2560:=by
 unfold wrF
 split
 ·rename_i h
  have h1:=isF_right h
  have:=encF_len f h1.2.2
  omega
 ·simp
set_option maxRecDepth 100000 in
set_option maxHeartbeats 4000000 in
theorem fm_written {D:Nat→Prop} (n:Nat) (f:FmB) (ao:Option Addr) (cp:Nat) (w:World) (h:FmsAt D w n ao f.kids) (hD:∀i,D i→i<w.heap.size) (hok:FmOk f) (hN:nodesF f≤4096) :
  Calls Tryz.prog 125 #[.agg #[.int .i64 f.op,.int .i64 f.k,.string ⟨f.r.1.toArray⟩,.string ⟨f.r.2.toArray⟩,.slice ao f.kids.length cp]] w fun e w'=>∃(a:Option Addr) (c:Nat),e = .returned (.slice a (wrF f).length c)∧BytesAt (fun k=>w.heap.size≤k) w' (.slice a (wrF f).length c) (wrF f)∧Chg (fun _=>False) w w':=by
 have hc1:=alc w (.cells #[.int .i64 f.op,.int .i64 f.k,.string ⟨f.r.1.toArray⟩,.string ⟨f.r.2.toArray⟩,.slice ao f.kids.length cp] 46)
 have hc2:Chg (fun _=>False) w ((w.alloc (.cells #[.int .i64 f.op,.int .i64 f.k,.string ⟨f.r.1.toArray⟩,.string ⟨f.r.2.toArray⟩,.slice ao f.kids.length cp] 46)).alloc (.cells #[.slice none 0 0] 118)):=hc1.alloc _
 have hsz:(w.alloc (.cells #[.int .i64 f.op,.int .i64 f.k,.string ⟨f.r.1.toArray⟩,.string ⟨f.r.2.toArray⟩,.slice ao f.kids.length cp] 46)).heap.size=w.heap.size+1:=by simp
 have hsz2:((w.alloc (.cells #[.int .i64 f.op,.int .i64 f.k,.string ⟨f.r.1.toArray⟩,.string ⟨f.r.2.toArray⟩,.slice ao f.kids.length cp] 46)).alloc (.cells #[.slice none 0 0] 118)).heap.size=w.heap.size+2:=by simp
 have hpn:PenAt (w.heap.size+2) ((w.alloc (.cells #[.int .i64 f.op,.int .i64 f.k,.string ⟨f.r.1.toArray⟩,.string ⟨f.r.2.toArray⟩,.slice ao f.kids.length cp] 46)).alloc (.cells #[.slice none 0 0] 118)) (w.heap.size+1) none 0 []:=by
  have:=pen_new (w.alloc (.cells #[.int .i64 f.op,.int .i64 f.k,.string ⟨f.r.1.toArray⟩,.string ⟨f.r.2.toArray⟩,.slice ao f.kids.length cp] 46)) (w.heap.size+2)
  rw[hsz]at this
  exact this
 have hb:=bE (heap_alloc_new w (.cells #[.int .i64 f.op,.int .i64 f.k,.string ⟨f.r.1.toArray⟩,.string ⟨f.r.2.toArray⟩,.slice ao f.kids.length cp] 46)) ((Chg.refl (fun _=>False) (w.alloc (.cells #[.int .i64 f.op,.int .i64 f.k,.string ⟨f.r.1.toArray⟩,.string ⟨f.r.2.toArray⟩,.slice ao f.kids.length cp] 46))).alloc (.cells #[.slice none 0 0] 118)) id
 have s0:=bC hb 0
 have s1:=bC hb 1
 have s2:=bC hb 2
 have s3:=bC hb 3
 have s4:=bC hb 4
 simp only[lA,lZ,lS]at s0 s1 s2 s3 s4
 cases hf:isF f with
 | false=>
  have HP:=hid (fm_putno (.pointer (some ⟨w.heap.size+1,0,none⟩)) n f ao cp ((w.alloc (.cells #[.int .i64 f.op,.int .i64 f.k,.string ⟨f.r.1.toArray⟩,.string ⟨f.r.2.toArray⟩,.slice ao f.kids.length cp] 46)).alloc (.cells #[.slice none 0 0] 118)) (h.keep hc2 (fun _ _=>id)) (fun i hi=>Nat.lt_of_lt_of_le (hD i hi) hc2.size) hok hN hf)
  have HWF:Hid (wrF f=[]):=hid (by unfold wrF;rw[hf];rfl)
  have HPN:=hid hpn
  have HC2:=hid hc2
  clear hc1 hc2 hsz hsz2 hpn hb h hD hok hN hf
  go_enter Tryz.func125,Tryz.ntmps125
  go_wp2_with fail
  refine HP.out.mono ?_
  rintro e w3 ⟨rfl,hc3⟩
  have HB:=hid (bytes_any (w.heap.size+2) (w.heap.size+1) 0 none [] w3 (HPN.out.keep hc3 id (fun _ _=>id)) (by simp))
  have HC3:=hid (HC2.out.trans hc3 (fun _ _ h=>h))
  clear HP hc3 s0 s1 s2 s3 s4
  go_wp2_with fail
  refine HB.out.mono ?_
  rintro e w4 ⟨a,c,rfl,hb4,hc4⟩
  have HE:=hid (aI hb4 (HC3.out.trans hc4 (fun _ _ h=>h)))
  have hs:=HC3.out.size
  clear HB hb4 hc4
  go_wp2
  go_ret
  rw[HWF.out]
  exact⟨a,c,rfl,HE.out.1.mono (fun i hi=>Nat.le_trans hs hi.1),HE.out.2⟩
 | true=>
  have HP:=hid (fm_putyes n f ao cp (w.heap.size+2) (w.heap.size+1) 0 none [] ((w.alloc (.cells #[.int .i64 f.op,.int .i64 f.k,.string ⟨f.r.1.toArray⟩,.string ⟨f.r.2.toArray⟩,.slice ao f.kids.length cp] 46)).alloc (.cells #[.slice none 0 0] 118)) (h.keep hc2 (fun _ _=>id)) hok hf (by simp) hpn (by omega) (by omega) (fun i hi=>by have:=hD i hi;omega))
  have HWF:Hid (wrF f=encF f):=hid (by unfold wrF;rw[hf];rfl)
  have HL:=hid (wrF_len f)
  have HC2:=hid hc2
  have HPN:=hid hpn
  clear hc1 hc2 hsz hsz2 hpn hb h hD hok hN hf
  go_enter Tryz.func125,Tryz.ntmps125
  go_wp2_with fail
  refine HP.out.mono ?_
  rintro e w3 ⟨rfl,hps⟩
  rw[List.nil_append,←HWF.out]at hps
  obtain⟨a3,c3,hp3,hch3⟩:=hps
  have HB:=hid (bytes_any (w.heap.size+2) (w.heap.size+1) c3 a3 (wrF f) w3 hp3 (by have:=HL.out;omega))
  have HC3:=hid (pchg_new HC2.out HPN.out (by omega) (by omega) hch3)
  clear HP hp3 hch3 s0 s1 s2 s3 s4
  go_wp2_with fail
  refine HB.out.mono ?_
  rintro e w4 ⟨a,c,rfl,hb4,hc4⟩
  have HE:=hid (aI hb4 (HC3.out.trans hc4 (fun _ _ h=>h)))
  have hs:=HC3.out.size
  clear HB hb4 hc4
  go_wp2
  go_ret
  exact⟨a,c,rfl,HE.out.1.mono (fun i hi=>Nat.le_trans hs hi.1),HE.out.2⟩
/-- What is written of a formula. -/
def Spec.wr (f:FmB):Spec:=⟨fun v w=>∃a c,v = .slice a (wrF f).length c∧BytesAt (fun _=>True) w (.slice a (wrF f).length c) (wrF f),fun _ _ _ hc ⟨a,c,h1,h2⟩=>⟨a,c,h1,h2.keep hc (fun _ _=>id)⟩⟩
set_option maxRecDepth 100000 in
set_option maxHeartbeats 4000000 in
theorem fm_compare {D E:Nat→Prop} (n:Nat) (f:FmB) (ao:Option Addr) (cp:Nat) (w:World) (h:FmsAt D w n ao f.kids) (hD:∀i,D i→i<w.heap.size) (hok:FmOk f) (hN:nodesF f≤4096) (n2:Nat) (g:FmB) (bo:Option Addr) (bp:Nat) (h2:FmsAt E w n2 bo g.kids) (hD2:∀i,E i→i<w.heap.size) (hok2:FmOk g) (hN2:nodesF g≤4096) :
  Calls Tryz.prog 111 #[.agg #[.int .i64 f.op,.int .i64 f.k,.string ⟨f.r.1.toArray⟩,.string ⟨f.r.2.toArray⟩,.slice ao f.kids.length cp],.agg #[.int .i64 g.op,.int .i64 g.k,.string ⟨g.r.1.toArray⟩,.string ⟨g.r.2.toArray⟩,.slice bo g.kids.length bp]] w fun e w'=>e = .returned (.int .i64 (Lib.compareBytes (wrF f) (wrF g)))∧Chg (fun _=>False) w w':=by
 have hc1:=alc w (.cells #[.int .i64 f.op,.int .i64 f.k,.string ⟨f.r.1.toArray⟩,.string ⟨f.r.2.toArray⟩,.slice ao f.kids.length cp] 46)
 have hc2:Chg (fun _=>False) w ((w.alloc (.cells #[.int .i64 f.op,.int .i64 f.k,.string ⟨f.r.1.toArray⟩,.string ⟨f.r.2.toArray⟩,.slice ao f.kids.length cp] 46)).alloc (.cells #[.int .i64 g.op,.int .i64 g.k,.string ⟨g.r.1.toArray⟩,.string ⟨g.r.2.toArray⟩,.slice bo g.kids.length bp] 46)):=hc1.alloc _
 have hsz:(w.alloc (.cells #[.int .i64 f.op,.int .i64 f.k,.string ⟨f.r.1.toArray⟩,.string ⟨f.r.2.toArray⟩,.slice ao f.kids.length cp] 46)).heap.size=w.heap.size+1:=by simp
 have hbf:=bE (heap_alloc_new w (.cells #[.int .i64 f.op,.int .i64 f.k,.string ⟨f.r.1.toArray⟩,.string ⟨f.r.2.toArray⟩,.slice ao f.kids.length cp] 46)) ((Chg.refl (fun _=>False) (w.alloc (.cells #[.int .i64 f.op,.int .i64 f.k,.string ⟨f.r.1.toArray⟩,.string ⟨f.r.2.toArray⟩,.slice ao f.kids.length cp] 46))).alloc (.cells #[.int .i64 g.op,.int .i64 g.k,.string ⟨g.r.1.toArray⟩,.string ⟨g.r.2.toArray⟩,.slice bo g.kids.length bp] 46)) id
 have hbg:=heap_alloc_new (w.alloc (.cells #[.int .i64 f.op,.int .i64 f.k,.string ⟨f.r.1.toArray⟩,.string ⟨f.r.2.toArray⟩,.slice ao f.kids.length cp] 46)) (.cells #[.int .i64 g.op,.int .i64 g.k,.string ⟨g.r.1.toArray⟩,.string ⟨g.r.2.toArray⟩,.slice bo g.kids.length bp] 46)
 rw[hsz]at hbg
 have HBB:=hid (aI hbf hbg)
 have HC2:=hid hc2
 have HWF:=hid (fun w' (hc:Chg (fun _=>False) ((w.alloc (.cells #[.int .i64 f.op,.int .i64 f.k,.string ⟨f.r.1.toArray⟩,.string ⟨f.r.2.toArray⟩,.slice ao f.kids.length cp] 46)).alloc (.cells #[.int .i64 g.op,.int .i64 g.k,.string ⟨g.r.1.toArray⟩,.string ⟨g.r.2.toArray⟩,.slice bo g.kids.length bp] 46)) w')=>fm_written n f ao cp w' ((h.keep hc2 (fun _ _=>id)).keep hc (fun _ _=>id)) (fun i hi=>by have:=hD i hi;have:=hc2.size;have:=hc.size;omega) hok hN)
 have HWG:=hid (fun w' (hc:Chg (fun _=>False) ((w.alloc (.cells #[.int .i64 f.op,.int .i64 f.k,.string ⟨f.r.1.toArray⟩,.string ⟨f.r.2.toArray⟩,.slice ao f.kids.length cp] 46)).alloc (.cells #[.int .i64 g.op,.int .i64 g.k,.string ⟨g.r.1.toArray⟩,.string ⟨g.r.2.toArray⟩,.slice bo g.kids.length bp] 46)) w')=>fm_written n2 g bo bp w' ((h2.keep hc2 (fun _ _=>id)).keep hc (fun _ _=>id)) (fun i hi=>by have:=hD2 i hi;have:=hc2.size;have:=hc.size;omega) hok2 hN2)
 clear hc1 hc2 hsz hbf hbg h h2 hD hD2 hok hok2 hN hN2
 go_enter Tryz.func111,Tryz.ntmps111
 go_wp2
 generalize ((w.alloc (.cells #[.int .i64 f.op,.int .i64 f.k,.string ⟨f.r.1.toArray⟩,.string ⟨f.r.2.toArray⟩,.slice ao f.kids.length cp] 46)).alloc (.cells #[.int .i64 g.op,.int .i64 g.k,.string ⟨g.r.1.toArray⟩,.string ⟨g.r.2.toArray⟩,.slice bo g.kids.length bp] 46))=w2 at *
 generalize w.heap.size=X at *
 refine wp_region_specs [.any,.any,.eq (.pointer (some ⟨X,0,none⟩)),.eq (.pointer (some ⟨X+1,0,none⟩)),.eq (.int .i64 (Lib.compareBytes (wrF f) (wrF g))),.eq (.agg #[.int .i64 f.op,.int .i64 f.k,.string ⟨f.r.1.toArray⟩,.string ⟨f.r.2.toArray⟩,.slice ao f.kids.length cp]),.wr f,.eq (.agg #[.int .i64 g.op,.int .i64 g.k,.string ⟨g.r.1.toArray⟩,.string ⟨g.r.2.toArray⟩,.slice bo g.kids.length bp]),.wr g,.eq (.int .i64 (Lib.compareBytes (wrF f) (wrF g)))] [5,6,7,8,9,4] [2,3] (by kernel_rfl) (by kernel_rfl) (by rfl) (by kernel_rfl) ?start ?obs ?fin
 case start=>
  simp only[List.forall_mem_cons];exact⟨⟨_,rfl,rfl⟩,⟨_,rfl,rfl⟩,fun _ h=>by cases h⟩
 case obs=>
  refine Obs.cons none (by kernel_rfl) ?_ ?_
  ·refine Ob.plain fun a w hR hk K k=>?_
   obtain⟨_,e2,rfl⟩:=hk 2 (by decide)
   clear hk
   have hb:=bE HBB.out.1 hR id
   have s0:=bC hb 0
   have s1:=bC hb 1
   have s2:=bC hb 2
   have s3:=bC hb 3
   have s4:=bC hb 4
   simp only[lA,lZ,lS]at s0 s1 s2 s3 s4
   clear hb hR
   go_simp
   exact k _ _ R0 rfl
  refine Obs.cons none (by kernel_rfl) ?_ ?_
  ·refine Ob.plain fun a w hR hk K k=>?_
   obtain⟨_,e5,rfl⟩:=hk 5 (by decide)
   clear hk
   have hq:=HWF.out w hR
   clear hR
   go_simp
   refine hq.mono ?_
   rintro e w5 ⟨a1,c1,rfl,h1,h2⟩
   exact k _ _ h2 ⟨a1,c1,rfl,h1.mono (fun _ _=>trivial)⟩
  refine Obs.cons none (by kernel_rfl) ?_ ?_
  ·refine Ob.plain fun a w hR hk K k=>?_
   obtain⟨_,e3,rfl⟩:=hk 3 (by decide)
   clear hk
   have hb:=bE HBB.out.2 hR id
   have s0:=bC hb 0
   have s1:=bC hb 1
   have s2:=bC hb 2
   have s3:=bC hb 3
   have s4:=bC hb 4
   simp only[lA,lZ,lS]at s0 s1 s2 s3 s4
   clear hb hR
   go_simp
   exact k _ _ R0 rfl
  refine Obs.cons none (by kernel_rfl) ?_ ?_
  ·refine Ob.plain fun a w hR hk K k=>?_
   obtain⟨_,e7,rfl⟩:=hk 7 (by decide)
   clear hk
   have hq:=HWG.out w hR
   clear hR
   go_simp
   refine hq.mono ?_
   rintro e w5 ⟨a1,c1,rfl,h1,h2⟩
   exact k _ _ h2 ⟨a1,c1,rfl,h1.mono (fun _ _=>trivial)⟩
  refine Obs.cons none (by kernel_rfl) ?_ ?_
  ·refine Ob.plain fun a w hR hk K k=>?_
   obtain⟨_,e6,f6⟩:=hk 6 (by decide)
   obtain⟨_,e8,f8⟩:=hk 8 (by decide)
   clear hk
   obtain⟨a1,c1,rfl,h1⟩:=f6
   obtain⟨a2,c2,rfl,h2⟩:=f8
   obtain⟨l1,hl1⟩:∃l1,l1=(wrF f).length:=⟨_,rfl⟩
   obtain⟨l2,hl2⟩:∃l2,l2=(wrF g).length:=⟨_,rfl⟩
   rw[←hl1]at h1
   rw[←hl2]at h2
   simp only[←hl1,←hl2]at *
   have hq:=bytes_compare w h1 h2
   have HQ:=hid hq
   clear hl1 hl2 h1 h2 hq hR
   have hq:=HQ.out
   go_simp
   refine hq.mono ?_
   rintro e w5 ⟨rfl,rfl⟩
   exact k _ _ R0 rfl
  refine Obs.cons none (by kernel_rfl) ?_ ?_
  ·refine Ob.plain fun a w hR hk K k=>?_
   obtain⟨_,e9,f9⟩:=hk 9 (by decide)
   clear hk
   go_simp
   exact k _ _ R0 f9
  exact Obs.nil
 case fin=>
  intro vals w9 hc9 hv
  have h4:vals 4 = .int .i64 (Lib.compareBytes (wrF f) (wrF g)):=hv 4 (by decide)
  have HC9:=hid (HC2.out.trans hc9 (fun _ _ h=>h))
  simp only[putAll,List.setIfInBounds_toArray,List.set_cons_zero,List.set_cons_succ,h4]
  clear hv h4 hc9
  go_wp2
  go_ret
  exact⟨rfl,HC9.out⟩
end Go.Proofs.YtkfinhpfdcjoeaaGreat
/- A row that a sort has put in order: what its block holds, and that nothing else has turned. -/
namespace Go.Proofs.YtkfinhpfdcjoeaaGreat
open Go.RowKit Go.Sort Go.Lib
theorem heap_putRow {w:World} {g n:Nat} {os:Array Obj} {cur:Array Value} {e:TypeId} {fr:Nat×Nat} (F:Array Value) (hb:w.heap[g]? = some (.cells cur e fr)) :
  (grow (putRow id (Sort.ahead w n) g 0 F) os).heap[g]? = some (.cells (putCells id 0 F cur) e fr):=by
 have hg:g<w.heap.size:=(Array.getElem?_eq_some_iff.1 hb).1
 rw[heap_grow_old _ _ (by simpa using hg)]
 simp [putRow,mapBlock,Sort.ahead,Array.getElem?_modify,hb,onCells]
theorem chg_putRow {w:World} {g n:Nat} {os:Array Obj} (F:Array Value) (S:Nat→Prop) (hS:S g):Chg S w (grow (putRow id (Sort.ahead w n) g 0 F) os):=by
 refine⟨rfl,rfl,rfl,by simp,fun k hk hs=>?_⟩
 rw[heap_grow_old _ _ (by simpa using hk)]
 have:g≠k:=fun e=>hs (e▸hS)
 simp [putRow,mapBlock,Sort.ahead,Array.getElem?_modify,this]
end Go.Proofs.YtkfinhpfdcjoeaaGreat
/-
  DERIVED: THE SHELF's CONTRACTS AT THIS DUMP, IN PLAIN WORDS (tools/lay-plain.mjs out of 'TryzShelfQ.lean', which tools/lay-shelf.mjs wrote): THE SAME DECLARATIONS UNDER THE SAME NAMES: 'import', 'namespace', 'open', 'def', 'theorem' AND NOTHING ELSE: no command of the shelf's: FOR A HAND-IN. Each laying: the table of numbers ('.._ren') and one theorem, a field a fact of the dump's own or the kernel's comparison; each contract: ONE APPLICATION.
-/
namespace Go.Proofs
open Go.Shelf
def Tryz.sortF_ren:Go.Shelf.Ren:=⟨fun|6=>110|15=>70|14=>124|28=>96|29=>97|20=>132|21=>133|22=>134|23=>135|24=>136|25=>137|26=>138|27=>139|46=>143|47=>116|48=>117|49=>144|50=>145|57=>156|n=>n,fun|22=>44|24=>46|25=>171|3=>3|39=>126|0=>0|53=>156|55=>158|4=>4|46=>149|45=>148|50=>153|5=>5|9=>9|66=>174|70=>178|76=>194|77=>72|n=>n,fun|n=>n⟩
theorem Tryz.sortF:Go.Proofs.SlLaysF0.n6 Tryz.prog Tryz.sortF_ren:={
 mixed:=by kernel_rfl
 f6:=⟨Tryz.f110.name,by decide,Tryz.func110.trans (congrArg some (by kernel_rfl))⟩
 f14:=⟨Tryz.f124.name,by decide,Tryz.func124.trans (congrArg some (by kernel_rfl))⟩
 f15:=Tryz.func70.trans (congrArg some (by kernel_rfl))
 f20:=⟨Tryz.f132.name,by decide,Tryz.func132.trans (congrArg some (by kernel_rfl))⟩
 f21:=⟨Tryz.f133.name,by decide,Tryz.func133.trans (congrArg some (by kernel_rfl))⟩
 f22:=⟨Tryz.f134.name,by decide,Tryz.func134.trans (congrArg some (by kernel_rfl))⟩
 f23:=⟨Tryz.f135.name,by decide,Tryz.func135.trans (congrArg some (by kernel_rfl))⟩
 f24:=⟨Tryz.f136.name,by decide,Tryz.func136.trans (congrArg some (by kernel_rfl))⟩
 f25:=⟨Tryz.f137.name,by decide,Tryz.func137.trans (congrArg some (by kernel_rfl))⟩
 f26:=⟨Tryz.f138.name,by decide,Tryz.func138.trans (congrArg some (by kernel_rfl))⟩
 f27:=⟨Tryz.f139.name,by decide,Tryz.func139.trans (congrArg some (by kernel_rfl))⟩
 f28:=Tryz.func96.trans (congrArg some (by kernel_rfl))
 f29:=Tryz.func97.trans (congrArg some (by kernel_rfl))
 f46:=⟨Tryz.f143.name,by decide,Tryz.func143.trans (congrArg some (by kernel_rfl))⟩
 f47:=Tryz.func116.trans (congrArg some (by kernel_rfl))
 f48:=Tryz.func117.trans (congrArg some (by kernel_rfl))
 f49:=⟨Tryz.f144.name,by decide,Tryz.func144.trans (congrArg some (by kernel_rfl))⟩
 f50:=⟨Tryz.f145.name,by decide,Tryz.func145.trans (congrArg some (by kernel_rfl))⟩
 f57:=⟨Tryz.f156.name,by decide,Tryz.func156.trans (congrArg some (by kernel_rfl))⟩
 t0:=Tryz.underlying0
 a0:=Tryz.isAgg0
 z0:=Tryz.sizeOf0
 v0:=Tryz.zeroValue0
 t3:=Tryz.underlying3
 a3:=Tryz.isAgg3
 z3:=Tryz.sizeOf3
 v3:=Tryz.zeroValue3
 t4:=Tryz.underlying4
 a4:=Tryz.isAgg4
 z4:=Tryz.sizeOf4
 v4:=Tryz.zeroValue4
 t5:=Tryz.underlying5
 a5:=Tryz.isAgg5
 z5:=Tryz.sizeOf5
 v5:=Tryz.zeroValue5
 t9:=Tryz.underlying9
 a9:=Tryz.isAgg9
 z9:=Tryz.sizeOf9
 v9:=Tryz.zeroValue9
 t22:=Tryz.underlying44
 a22:=Tryz.isAgg44
 z22:=Tryz.sizeOf44
 v22:=Tryz.zeroValue44
 t25:=Tryz.underlying171
 a25:=Tryz.isAgg171
 z25:=Tryz.sizeOf171
 v25:=Tryz.zeroValue171
 t39:=Tryz.underlying126
 a39:=Tryz.isAgg126
 z39:=Tryz.sizeOf126
 v39:=Tryz.zeroValue126
 t45:=Tryz.underlying148
 a45:=Tryz.isAgg148
 z45:=Tryz.sizeOf148
 v45:=Tryz.zeroValue148
 t46:=Tryz.underlying149
 a46:=Tryz.isAgg149
 z46:=Tryz.sizeOf149
 v46:=Tryz.zeroValue149
 t50:=Tryz.underlying153
 a50:=Tryz.isAgg153
 z50:=Tryz.sizeOf153
 v50:=Tryz.zeroValue153
 t53:=Tryz.underlying156
 a53:=Tryz.isAgg156
 z53:=Tryz.sizeOf156
 v53:=Tryz.zeroValue156
 t55:=Tryz.underlying158
 a55:=Tryz.isAgg158
 z55:=Tryz.sizeOf158
 v55:=Tryz.zeroValue158
 t66:=Tryz.underlying174
 a66:=Tryz.isAgg174
 z66:=Tryz.sizeOf174
 v66:=Tryz.zeroValue174
 t70:=Tryz.underlying178
 a70:=Tryz.isAgg178
 z70:=Tryz.sizeOf178
 v70:=Tryz.zeroValue178
 t76:=Tryz.underlying194
 a76:=Tryz.isAgg194
 z76:=Tryz.sizeOf194
 v76:=Tryz.zeroValue194
 t77:=Tryz.underlying72
 a77:=Tryz.isAgg72
 z77:=Tryz.sizeOf72
 v77:=Tryz.zeroValue72}
end Go.Proofs
/- No step of a machine takes a draw back; so no call does. Nothing of the program's text. -/
namespace Go.Proofs.YtkfinhpfdcjoeaaGreat
theorem run_drawnH (p:Program) {α:Type}:∀(s:Sem α) (w w':World) (h:Halt),s.run p w = .halt h w'→w.drawn≤w'.drawn:=by
 intro s
 induction s with
 | pure a=>intro w w' b h;rw[Sem.run]at h;cases h
 | load m a k ih=>
  intro w w' b h
  rw[Sem.run]at h
  split at h
  ·exact ih _ _ _ _ h
  ·split at h
   ·exact ih _ _ _ _ h
   ·cases h;exact Nat.le_refl _
 | store m a v k ih=>
  intro w w' b h
  have key:∀v:Value,(Sem.store m a v k).run p w = .halt b w'→(∀x,v ≠ .agg x)→(∀x,v ≠ .tuple x)→w.drawn≤w'.drawn:=by
   intro v h h1 h2
   rw[Sem.run]at h
   ·split at h
    ·split at h
     ·cases h;exact Nat.le_refl _
     ·have:=ih _ _ _ h;exact this
    ·split at h
     ·rename_i w2 l e
      unfold World.farStore at e
      split at e
      ·split at e
       ·rename_i e3
        cases e
        have h3:=viewStore_drawn e3
        have:=ih _ _ _ h
        simp only at h3
        omega
       ·cases e
      ·cases e
     ·cases h;exact Nat.le_refl _
   ·exact fun x e=>h1 x e
   ·exact fun x e=>h2 x e
  cases v <;> first|(rw[Sem.run]at h;cases h;exact Nat.le_refl _)|exact key _ h (fun _ e=>by cases e) (fun _ e=>by cases e)
 | new o k ih=>intro w w' b h;rw[Sem.run]at h;have:=ih _ _ _ _ h;exact this
 | shape r k ih=>intro w w' b h;rw[Sem.run]at h;exact ih _ _ _ _ h
 | freeze a n k ih=>
  intro w w' b h
  rw[Sem.run]at h
  have:=ih _ _ _ h
  unfold World.freeze at this
  split at this <;> exact this
 | frozen a k ih=>intro w w' b h;rw[Sem.run]at h;exact ih _ _ _ _ h
 | getObj r k ih=>
  intro w w' b h
  rw[Sem.run]at h
  split at h
  ·cases h;exact Nat.le_refl _
  ·exact ih _ _ _ _ h
  ·cases h;exact Nat.le_refl _
 | setObj r o k ih=>
  intro w w' b h
  rw[Sem.run]at h
  split at h
  ·cases h;exact Nat.le_refl _
  ·have:=ih _ _ _ h
   exact this
  ·cases h;exact Nat.le_refl _
 | choose q k ih=>
  intro w w' b h
  rw[Sem.run]at h
  split at h
  ·exact ih _ _ _ _ h
  ·exact Nat.le_trans (by simp) (ih _ _ _ _ h)
 | sys c k ih=>
  intro w w' b h
  rw[Sem.run]at h
  exact Nat.le_trans (sys_drawn c w) (ih _ _ _ _ h)
 | program k ih=>intro w w' b h;rw[Sem.run]at h;exact ih _ _ _ _ h
 | mark m k ih=>intro w w' b h;rw[Sem.run]at h;exact ih _ _ _ h
 | halt h0=>intro w w' b h;rw[Sem.run]at h;cases h;exact Nat.le_refl _
/-- The world of a goroutine's step has no fewer draws, unless it ends. -/
def GOk (w:World):GStep→Prop
 | .go _ w' _=>w.drawn≤w'.drawn
 | .comm _ _ _ _ w' _=>w.drawn≤w'.drawn
 | .spawn _ _ w' _=>w.drawn≤w'.drawn
 | .count _ w' _=>w.drawn≤w'.drawn
 | .timer _ _ w' _=>w.drawn≤w'.drawn
 | .alone _ _ w' _=>w.drawn≤w'.drawn
 | .newcoro _ _ _ w' _=>w.drawn≤w'.drawn
 | .coroswitch _ _ _ w' _=>w.drawn≤w'.drawn
 | .collect _ w' _=>w.drawn≤w'.drawn
 | .watch _ w' _=>w.drawn≤w'.drawn
 | .ended _ _ _=>True
theorem GOk.after {w:World} {s:GStep} (h:GOk w s) (es:Array Event):GOk w (s.after es):=by cases s <;> exact h
theorem GOk.trans {a b:World} {s:GStep} (h:a.drawn≤b.drawn) (k:GOk b s):GOk a s:=by cases s <;> first|exact trivial|exact Nat.le_trans h k
theorem endThrow_gok (fr:Frame) (m:String) (w:World):GOk w (endThrow fr m w):=Nat.le_refl _
theorem endWith_gok (w:World) (fd:Nat) (text:ByteArray) (o:Outcome) (w0:World):GOk w0 (endWith w fd text o):=by
 unfold endWith
 simp only[]
 repeat' first|exact trivial|split
theorem endPrinting_gok (p:Program) (fr:Frame) (v:Value) (w:World):GOk w (endPrinting p fr v w):=by
 unfold endPrinting
 simp only[]
 split
 ·exact endThrow_gok _ _ _
 ·exact trivial
theorem endFatal_gok (p:Program) (fr:Frame) (callers:List Frame) (dying:Option Dying) (m:String) (w:World):GOk w (endFatal p fr callers dying m w):=by
 unfold endFatal
 simp only[]
 split
 ·rename_i h
  exact run_drawn _ _ _ _ _ h
 all_goals exact trivial
theorem early_gok (p:Program) (fr:Frame) (callers:List Frame) (dying:Option Dying) (g:Nat) (w:World):GOk w (early p fr callers dying g w):=by
 unfold early
 simp only[]
 repeat' first
  | exact trivial
  | exact Nat.le_refl _
  | exact Nat.le_trans (run_drawn _ _ _ _ _ (by assumption)) (Nat.le_refl _)
  | exact Nat.le_trans (run_drawnH _ _ _ _ _ (by assumption)) (Nat.le_refl _)
  | (rename_i e _ _ _ _;exact Nat.le_trans (run_drawn _ _ _ _ _ e) (Nat.le_refl _))
  | split
theorem doReturn_gok (p:Program) (main:Bool) (fr:Frame) (callers:List Frame) (dying:Option Dying) (v:Value) (w:World):GOk w (doReturn p main fr callers dying v w):=by
 unfold doReturn
 simp only[]
 repeat' first
  | exact trivial
  | exact Nat.le_refl _
  | split
theorem callDeferred_gok (p:Program) (fr:Frame) (callers:List Frame) (dying:Option Dying) (d:Deferred) (w:World):GOk w (callDeferred p fr callers dying d w):=by
 unfold callDeferred
 simp only[Sem.runT_eq]
 repeat' first
  | exact trivial
  | exact Nat.le_refl _
  | exact GOk.trans (run_drawnH _ _ _ _ _ (by assumption)) (endFatal_gok _ _ _ _ _ _)
  | exact GOk.trans (run_drawnH _ _ _ _ _ (by assumption)) (endThrow_gok _ _ _)
  | exact Nat.le_trans (run_drawn _ _ _ _ _ (by assumption)) (Nat.le_refl _)
  | exact Nat.le_trans (run_drawnH _ _ _ _ _ (by assumption)) (Nat.le_refl _)
  | refine GOk.after ?_ _
  | split
theorem unwind_gok (p:Program) (main:Bool) (fr:Frame) (callers:List Frame) (dying:Option Dying) (w:World):GOk w (unwind p main fr callers dying w):=by
 unfold unwind
 simp only[Sem.runT_eq]
 repeat' first
  | exact trivial
  | exact Nat.le_refl _
  | exact callDeferred_gok _ _ _ _ _ _
  | exact doReturn_gok _ _ _ _ _ _ _
  | exact endPrinting_gok _ _ _ _
  | exact GOk.trans (run_drawn _ _ _ _ _ (by assumption)) (doReturn_gok _ _ _ _ _ _ _)
  | exact Nat.le_trans (run_drawn _ _ _ _ _ (by assumption)) (Nat.le_refl _)
  | exact Nat.le_trans (run_drawnH _ _ _ _ _ (by assumption)) (Nat.le_refl _)
  | refine GOk.after ?_ _
  | split
theorem writeOn_gok (p:Program) (fr:Frame) (d:Dying) (f:Fatal) (w:World):GOk w (writeOn p fr d f w):=by
 unfold writeOn
 simp only[Sem.runT_eq]
 repeat' first
  | exact trivial
  | exact Nat.le_refl _
  | exact endWith_gok _ _ _ _ _
  | exact Nat.le_trans (run_drawn _ _ _ _ _ (by assumption)) (Nat.le_refl _)
  | exact Nat.le_trans (run_drawnH _ _ _ _ _ (by assumption)) (Nat.le_refl _)
  | (rename_i e;exact Nat.le_trans (run_drawn _ _ _ _ _ (congrArg Prod.fst e)) (Nat.le_refl _))
  | (rename_i e;exact Nat.le_trans (run_drawnH _ _ _ _ _ (congrArg Prod.fst e)) (Nat.le_refl _))
  | refine GOk.after ?_ _
  | split
theorem die_gok (p:Program) (fr:Frame) (d:Dying) (w:World):GOk w (die p fr d w):=by
 unfold die
 simp only[Sem.runT_eq]
 repeat' first
  | exact trivial
  | exact Nat.le_refl _
  | exact writeOn_gok _ _ _ _ _
  | exact endWith_gok _ _ _ _ _
  | exact GOk.trans (run_drawnH _ _ _ _ _ (by assumption)) (endPrinting_gok _ _ _ _)
  | exact Nat.le_trans (run_drawn _ _ _ _ _ (by assumption)) (Nat.le_refl _)
  | exact Nat.le_trans (run_drawnH _ _ _ _ _ (by assumption)) (Nat.le_refl _)
  | refine GOk.after ?_ _
  | split
theorem apply_gok (p:Program) (listen:Bool) (fr:Frame) (callers:List Frame) (dying:Option Dying) (s:Sem Next) (w:World):GOk w (stepG.apply p listen fr callers dying s w):=by
 unfold stepG.apply
 cases listen
 all_goals
  simp only[Sem.runT_eq,Bool.false_eq_true,if_false,if_true]
  refine GOk.after ?_ _
  repeat' first
   | exact trivial
   | exact Nat.le_refl _
   | exact GOk.trans (run_drawnH _ _ _ _ _ (by assumption)) (endFatal_gok _ _ _ _ _ _)
   | exact GOk.trans (run_drawnH _ _ _ _ _ (by assumption)) (endThrow_gok _ _ _)
   | exact GOk.trans (run_drawn _ _ _ _ _ (by assumption)) (endThrow_gok _ _ _)
   | exact GOk.trans (run_drawnH _ _ _ _ _ (by assumption)) (early_gok _ _ _ _ _ _)
   | exact Nat.le_trans (run_drawn _ _ _ _ _ (by assumption)) (Nat.le_refl _)
   | exact Nat.le_trans (run_drawnH _ _ _ _ _ (by assumption)) (Nat.le_refl _)
   | refine GOk.after ?_ _
   | split
theorem oper_gok (p:Program) (listen:Bool) (fr:Frame) (callers:List Frame) (dying:Option Dying) (w:World):GOk w (stepG.oper p listen fr callers dying w):=by
 unfold stepG.oper
 repeat' first
  | exact trivial
  | exact apply_gok _ _ _ _ _ _ _
  | split
theorem exec_gok (p:Program) (main listen:Bool) (fr:Frame) (callers:List Frame) (dying:Option Dying) (w:World):GOk w (stepG.exec p main listen fr callers dying w):=by
 unfold stepG.exec
 simp only[Sem.runT_eq]
 repeat' first
  | exact trivial
  | exact Nat.le_refl _
  | exact apply_gok _ _ _ _ _ _ _
  | exact oper_gok _ _ _ _ _ _
  | exact GOk.trans (run_drawn _ _ _ _ _ (by assumption)) (doReturn_gok _ _ _ _ _ _ _)
  | exact GOk.trans (run_drawn _ _ _ _ _ (by assumption)) (apply_gok _ _ _ _ _ _ _)
  | exact Nat.le_trans (run_drawn _ _ _ _ _ (by assumption)) (Nat.le_refl _)
  | exact Nat.le_trans (run_drawnH _ _ _ _ _ (by assumption)) (Nat.le_refl _)
  | exact absurd (by assumption) Bool.false_ne_true
  | refine GOk.after ?_ _
  | (unfold Option.elim;split)
  | split
theorem stepG_gok (p:Program) (main:Bool) (g:Goroutine) (w:World) (listen:Bool):GOk w (stepG p main g w listen):=by
 unfold stepG
 simp only[]
 split
 ·exact die_gok _ _ _ _
 ·exact exec_gok _ _ _ _ _ _ _
 ·exact unwind_gok _ _ _ _ _ _
theorem waitingAt_drawn {rest:Rest} {cases:Array CommCase} {w w':World} (h:waitingAt rest cases w=some w'):w'.drawn=w.drawn:=by
 unfold waitingAt at h
 repeat' first
  | (cases h;rfl)
  | (cases h;done)
  | split at h
theorem communicate_drawn (p:Program) (rest:Rest) (gs:Array Goroutine) (i:Nat) (g:Goroutine) (cases:Array CommCase) (blocking:Bool)
  (shape:CommShape) (w:World) (m':Machine) (h:(communicate p rest gs i g cases blocking shape w).1 = .next m'):w.drawn≤m'.world.drawn:=by
 unfold communicate at h
 simp only[]at h
 repeat' first
  | (simp at h;done)
  | (simp only[Stepped.next.injEq]at h;subst h;exact Nat.le_refl _)
  | (simp only[Stepped.next.injEq]at h;subst h;exact Nat.le_trans (run_drawn _ _ _ _ _ (by assumption)) (Nat.le_refl _))
  | (simp only[Stepped.next.injEq]at h;subst h;exact Nat.le_of_eq (waitingAt_drawn (by assumption)).symm)
  | (simp only[Stepped.next.injEq]at h;subst h;exact Nat.le_trans (run_drawn p _ w _ _ (by assumption)) (Nat.le_trans (run_drawn p _ _ _ _ (by assumption)) (Nat.le_refl _)))
  | (simp only[Stepped.next.injEq]at h;subst h;exact Nat.le_trans (run_drawn p _ w _ _ (by assumption)) (Nat.le_trans (run_drawnH p _ _ _ _ (by assumption)) (Nat.le_refl _)))
  | (injection h with h;subst h;dsimp only;exact Nat.le_trans (run_drawn p _ w _ _ (by assumption)) (Nat.le_refl _))
  | (injection h with h;subst h;dsimp only;exact Nat.le_trans (run_drawn p _ w _ _ (by assumption)) (Nat.le_trans (run_drawn p _ _ _ _ (by assumption)) (Nat.le_refl _)))
  | split at h
theorem look_drawn (p:Program) (gs:Array Goroutine) (rest:Rest) (w:World) (m':Machine) (h:look p gs rest w = .next m'):w.drawn≤m'.world.drawn:=by
 unfold look at h
 simp only[]at h
 repeat' first
  | (simp at h;done)
  | (simp only[Stepped.next.injEq]at h;subst h;exact Nat.le_trans (run_drawn _ _ _ _ _ (by assumption)) (Nat.le_refl _))
  | (injection h with h;subst h;dsimp only;exact Nat.le_trans (run_drawn p _ w _ _ (by assumption)) (Nat.le_refl _))
  | split at h
theorem serve_drawn (p:Program) (m m':Machine) (k:Nat) (h:serve p m k = .next m'):m.world.drawn≤m'.world.drawn:=by
 unfold serve at h
 simp only[]at h
 repeat' first
  | (simp at h;done)
  | (simp only[Stepped.next.injEq]at h;subst h;exact Nat.le_refl _)
  | split at h
theorem askOn_drawn (p:Program) (m m':Machine) (ops:Array MemOp) (h:askOn p m = .machine (.next m') ops):m.world.drawn≤m'.world.drawn:=by
 unfold askOn at h
 simp only[]at h
 repeat' first
  | (simp at h;done)
  | (simp only[Move.machine.injEq]at h;have h3:=serve_drawn _ _ _ _ h.1;dsimp only at h3;exact Nat.le_trans (run_drawn p _ m.world _ _ (by assumption)) h3)
  | (simp only[Move.machine.injEq,Stepped.next.injEq]at h;obtain⟨rfl,_⟩:=h;dsimp only[Machine.advanceTo];exact Nat.le_refl _)
  | (simp only[Move.machine.injEq,Stepped.next.injEq]at h;obtain⟨rfl,_⟩:=h;dsimp only[Machine.advanceTo];exact Nat.le_trans (run_drawn p _ m.world _ _ (by assumption)) (Nat.le_refl _))
  | (simp only[Move.machine.injEq,Stepped.next.injEq]at h;obtain⟨rfl,_⟩:=h;dsimp only[Machine.advanceTo];exact Nat.le_trans (run_drawn p _ m.world _ _ (by assumption)) (Nat.le_trans (run_drawn p _ _ _ _ (by assumption)) (Nat.le_refl _)))
  | split at h
theorem retime_drawn (m:Machine) (k:Nat) (t:Timer) (when period:Nat):(retime m k t when period).2.world.drawn=m.world.drawn:=by
 unfold retime drain
 simp only[]
 repeat' first
  | rfl
  | split
theorem opened_drawn {m m':Machine} {var:Addr} (h:timerOp.opened m var=some m'):m'.world.drawn=m.world.drawn:=by
 unfold timerOp.opened at h
 repeat' first
  | (cases h;rfl)
  | (cases h;done)
  | split at h
theorem endThrow_go {fr:Frame} {t:String} {w w':World} {g:Goroutine} {es:Array Event} (e:endThrow fr t w = .go g w' es):w.drawn≤w'.drawn:=by
 have h:=endThrow_gok fr t w
 rw[e]at h
 exact h
theorem timerOp_drawn {m m':Machine} {op:TimerOp} {v:Value} (h:timerOp m op = .ok (v,m')):m'.world.drawn=m.world.drawn:=by
 cases op
 all_goals
  simp only[timerOp,timerOp.named,Machine.withTimers]at h
  repeat' first
   | (cases h;rfl)
   | (cases h;done)
   | (injection h with h;have h2:=congrArg Prod.snd h;simp only at h2;rw[←h2];exact retime_drawn _ _ _ _ _)
   | (injection h with h;have h2:=congrArg Prod.snd h;simp only at h2;rw[←h2,retime_drawn];exact opened_drawn (by assumption))
   | split at h
theorem runT_drawn (p:Program) (m m':Machine) (i:Nat) (b:Bool) (h:(runT p m i b).1 = .next m'):m.world.drawn≤m'.world.drawn:=by
 simp only[runT]at h
 revert h
 generalize m.gs.swapAt! _ _=gg
 have hg:=stepG_gok p (i==0) gg.1 m.world b
 revert hg
 generalize stepG p _ gg.1 m.world b=s
 intro hg h
 cases s <;> simp only[]at h
 all_goals first
  | (simp at h;done)
  | exact Nat.le_trans hg (communicate_drawn _ _ _ _ _ _ _ _ _ _ h)
  | exact Nat.le_trans hg (look_drawn _ _ _ _ _ h)
  | (simp only[Stepped.next.injEq]at h;subst h;exact hg)
  | (repeat' first
    | (simp at h;done)
    | (simp only[Stepped.next.injEq]at h;subst h;exact hg)
    | (simp only[Stepped.next.injEq]at h;subst h;exact Nat.le_trans hg (Nat.le_of_eq (timerOp_drawn (by assumption)).symm))
    | (simp only[Stepped.next.injEq]at h;subst h;exact Nat.le_trans hg (endThrow_go (by assumption)))
    | split at h)
theorem ask_step_drawn (p:Program) (m m':Machine) (ops:Array MemOp) (h:ask p m = .machine (.next m') ops):m.world.drawn≤m'.world.drawn:=by
 unfold ask at h
 split at h
 ·split at h
  ·cases h
  ·have h1 := run_drawn _ _ _ _ _ (by assumption : (choose (.extern "collector.look" 2)).run p m.world = .ok 1 _)
   split at h
   ·exact Nat.le_trans h1 (Nat.le_trans (look_drawn _ _ _ _ _ (by assumption)) (askOn_drawn _ _ _ _ h))
   ·rename_i hx _ hy
    injection h with h
    exact absurd h (hy _)
  ·exact Nat.le_trans (run_drawn _ _ _ _ _ (by assumption)) (askOn_drawn _ {m with world:=_} _ _ h)
 ·exact askOn_drawn _ _ _ _ h
theorem rd {d:Nat} {p:Program} {α:Type} {s:Sem α} {w w':World} {a:α} (h:s.run p w = .ok a w') (hw:d≤w.drawn):d≤w'.drawn:=Nat.le_trans hw (run_drawn _ _ _ _ _ h)
theorem askOn_go_drawn (p:Program) (m m':Machine) (i:Nat) (h:askOn p m = .goroutine m' i):m.world.drawn≤m'.world.drawn:=by
 unfold askOn at h
 simp only[]at h
 repeat' first
  | (simp at h;done)
  | (simp only[Move.goroutine.injEq]at h;obtain⟨rfl,_⟩:=h;dsimp only[Machine.advanceTo];exact Nat.le_refl _)
  | (simp only[Move.goroutine.injEq]at h;obtain⟨rfl,_⟩:=h;dsimp only[Machine.advanceTo]at *;exact rd (by assumption) (by first|(exact Nat.le_refl _)|(dsimp only;exact Nat.le_refl _)))
  | (simp only[Move.goroutine.injEq]at h;obtain⟨rfl,_⟩:=h;dsimp only[Machine.advanceTo]at *;exact rd (by assumption) (by first|(exact rd (by assumption) (by first|(exact Nat.le_refl _)|(dsimp only;exact Nat.le_refl _)))|(dsimp only;exact rd (by assumption) (by first|(exact Nat.le_refl _)|(dsimp only;exact Nat.le_refl _)))))
  | (simp only[Move.goroutine.injEq]at h;obtain⟨rfl,_⟩:=h;dsimp only[Machine.advanceTo]at *;exact rd (by assumption) (by first|(exact rd (by assumption) (by first|(exact rd (by assumption) (by first|(exact Nat.le_refl _)|(dsimp only;exact Nat.le_refl _)))|(dsimp only;exact rd (by assumption) (by first|(exact Nat.le_refl _)|(dsimp only;exact Nat.le_refl _)))))|(dsimp only;exact rd (by assumption) (by first|(exact rd (by assumption) (by first|(exact Nat.le_refl _)|(dsimp only;exact Nat.le_refl _)))|(dsimp only;exact rd (by assumption) (by first|(exact Nat.le_refl _)|(dsimp only;exact Nat.le_refl _)))))))
  | (simp only[Move.goroutine.injEq]at h;obtain⟨rfl,_⟩:=h;dsimp only[Machine.advanceTo]at *;exact rd (by assumption) (by first|(exact rd (by assumption) (by first|(exact rd (by assumption) (by first|(exact rd (by assumption) (by first|(exact Nat.le_refl _)|(dsimp only;exact Nat.le_refl _)))|(dsimp only;exact rd (by assumption) (by first|(exact Nat.le_refl _)|(dsimp only;exact Nat.le_refl _)))))|(dsimp only;exact rd (by assumption) (by first|(exact rd (by assumption) (by first|(exact Nat.le_refl _)|(dsimp only;exact Nat.le_refl _)))|(dsimp only;exact rd (by assumption) (by first|(exact Nat.le_refl _)|(dsimp only;exact Nat.le_refl _)))))))|(dsimp only;exact rd (by assumption) (by first|(exact rd (by assumption) (by first|(exact rd (by assumption) (by first|(exact Nat.le_refl _)|(dsimp only;exact Nat.le_refl _)))|(dsimp only;exact rd (by assumption) (by first|(exact Nat.le_refl _)|(dsimp only;exact Nat.le_refl _)))))|(dsimp only;exact rd (by assumption) (by first|(exact rd (by assumption) (by first|(exact Nat.le_refl _)|(dsimp only;exact Nat.le_refl _)))|(dsimp only;exact rd (by assumption) (by first|(exact Nat.le_refl _)|(dsimp only;exact Nat.le_refl _)))))))))
  | split at h
theorem ask_go_drawn (p:Program) (m m':Machine) (i:Nat) (h:ask p m = .goroutine m' i):m.world.drawn≤m'.world.drawn:=by
 unfold ask at h
 split at h
 ·split at h
  ·cases h
  ·have h1 := run_drawn _ _ _ _ _ (by assumption : (choose (.extern "collector.look" 2)).run p m.world = .ok 1 _)
   split at h
   ·exact Nat.le_trans h1 (Nat.le_trans (look_drawn _ _ _ _ _ (by assumption)) (askOn_go_drawn _ _ _ _ h))
   ·cases h
  ·exact Nat.le_trans (run_drawn _ _ _ _ _ (by assumption)) (askOn_go_drawn _ {m with world:=_} _ _ h)
 ·exact askOn_go_drawn _ _ _ _ h
theorem move_go_drawn (p:Program) (m m':Machine) (i:Nat) (h:move p m = .goroutine m' i):m.world.drawn≤m'.world.drawn:=by
 unfold move at h
 repeat' first
  | (cases h;done)
  | (simp only[Move.goroutine.injEq]at h;obtain⟨rfl,_⟩:=h;exact Nat.le_refl _)
  | (have h2:=ask_go_drawn _ _ _ _ h;exact h2)
  | split at h
theorem move_drawn (p:Program) (m m':Machine) (ops:Array MemOp) (h:move p m = .machine (.next m') ops):m.world.drawn≤m'.world.drawn:=by
 unfold move at h
 repeat' first
  | (cases h;done)
  | (simp at h;done)
  | (have h2:=ask_step_drawn _ _ _ _ h;exact h2)
  | split at h
theorem step_drawn (p:Program) (m m':Machine) (h:step p m = .next m'):m.world.drawn≤m'.world.drawn:=by
 unfold step stepT at h
 split at h
 ·exact Nat.le_trans (move_go_drawn _ _ _ _ (by assumption)) (runT_drawn _ _ _ _ _ h)
 ·rename_i s ops e
  simp only at h
  rw[h]at e
  exact move_drawn _ _ _ _ e
theorem runN_drawn (p:Program):∀(n:Nat) (m m':Machine),runN p n m = .next m'→m.world.drawn≤m'.world.drawn
 | 0,m,m',h=>by rw[runN]at h;cases h;exact Nat.le_refl _
 | n+1,m,m',h=>by
  rw[runN]at h
  split at h
  ·exact Nat.le_trans (step_drawn _ _ _ (by assumption)) (runN_drawn p n _ _ h)
  ·rename_i hx
   exact absurd h (hx _)
theorem steps_drawn {p:Program} {m m':Machine} (h:Steps p m m'):m.world.drawn≤m'.world.drawn:=by
 obtain⟨n,h⟩:=h
 exact runN_drawn _ _ _ _ h
/-- No call takes a draw back. -/
theorem calls_drawn {P:Program} {f:FuncId} {args:Array Value} {w:World} {R:Ending→World→Prop} (h:Calls P f args w R):Calls P f args w fun e w'=>R e w'∧(e ≠ .outgrown→w.drawn≤w'.drawn):=fun cs=>by
 obtain⟨e,w',fr,h1,h2,h3,h4⟩:=h cs
 refine⟨e,w',fr,⟨h1,fun hne=>?_⟩,h2,h3,h4⟩
 cases e with
 | returned v=>exact steps_drawn h2
 | panicked c=>exact steps_drawn h2
 | outgrown=>exact absurd rfl hne
end Go.Proofs.YtkfinhpfdcjoeaaGreat
