/- Law 15's first, over the contracts of the program's guards. -/
import Derived.Test.YtkfinhpfdcjoeaaGreatNa38
import Derived.Test.YtkfinhpfdcjoeaaGreatNa18
import Derived.Test.YtkfinhpfdcjoeaaGreatNa28
import Derived.Test.YtkfinhpfdcjoeaaGreatNa6
namespace Go.Proofs.YtkfinhpfdcjoeaaGreat
open Go.RowKit
/-- Blocks that are no party's are kept. -/
structure KP (w w':World):Prop where
 sz:w.heap.size≤w'.heap.size
 kp:∀(i:Nat) (cs:Array Value) (ty:TypeId) (z:Nat×Nat),ty≠25→w.heap[i]? = some (.cells cs ty z)→w'.heap[i]? = some (.cells cs ty z)
theorem KP.of_chg {w w':World} (h:Chg (fun _=>False) w w'):KP w w':=⟨h.size,fun _ _ _ _ _ hb=>bE hb h id⟩
theorem KP.trans {a b c:World} (h:KP a b) (k:KP b c):KP a c:=⟨Nat.le_trans h.sz k.sz,fun i cs ty z hn hb=>k.kp i cs ty z hn (h.kp i cs ty z hn hb)⟩
theorem KP.set {w:World} {b i:Nat} {cs:Array Value} {z:Nat×Nat} (hb:w.heap[b]? = some (.cells cs 25 z)) (v:Value):KP w (w.setCell ⟨b,i,none⟩ v):=by
 refine⟨by simp [World.setCell],fun j cs' ty z' hn hj=>?_⟩
 by_cases e:j=b
 ·subst e
  rw[hb]at hj
  injection hj with hj
  injection hj with _ hj
  exact absurd hj.symm hn
 ·rw[set_blk_ne (show j≠(⟨b,i,none⟩:Addr).block from e)]
  exact hj
def GdF (g:Nat) (w:World):Prop:=∃t,w.heap[g]? = some (.cells #[.int .i64 1,.string ⟨#[120]⟩,.string ⟨#[121]⟩,.string ⟨#[109,101]⟩,.string ⟨#[]⟩,.string ⟨#[]⟩,.string ⟨#[]⟩,.string ⟨#[]⟩,.string ⟨#[]⟩,.slice (some ⟨t,0,none⟩) 8 8,.int .i64 1,.int .i64 0,.string ⟨#[98]⟩,.string ⟨#[115]⟩,.slice none 0 0] 48 (0,0))∧w.heap[t]? = some (.cells #[.int .u8 0,.int .u8 0,.int .u8 0,.int .u8 0,.int .u8 0,.int .u8 0,.int .u8 0,.int .u8 0] 5 (0,0))
def AkF (h:Nat) (w:World):Prop:=∃q,w.heap[h]? = some (.cells #[.string ⟨#[120]⟩,.string ⟨#[121]⟩,.int .i64 1,.int .i64 0,.string ⟨#[97]⟩,.string ⟨#[114]⟩,.slice none 0 0,.slice (some ⟨q,0,none⟩) 1 1] 54 (0,0))∧w.heap[q]? = some (.cells #[.int .i64 1,.string ⟨#[120]⟩,.string ⟨#[121]⟩,.string ⟨#[109,101]⟩,.string ⟨#[]⟩,.string ⟨#[]⟩,.string ⟨#[]⟩,.string ⟨#[]⟩,.string ⟨#[]⟩] 34 (0,0))
theorem GdF.kp {g:Nat} {w w':World} (h:GdF g w) (k:KP w w'):GdF g w':=by
 obtain⟨t,h1,h2⟩:=h
 exact⟨t,k.kp _ _ _ _ (by decide) h1,k.kp _ _ _ _ (by decide) h2⟩
theorem AkF.kp {g:Nat} {w w':World} (h:AkF g w) (k:KP w w'):AkF g w':=by
 obtain⟨t,h1,h2⟩:=h
 exact⟨t,k.kp _ _ _ _ (by decide) h1,k.kp _ _ _ _ (by decide) h2⟩
def SpecR.ex18:SpecR KP:=⟨fun v w=>∃t,v = .slice (some ⟨t,0,none⟩) 8 8∧w.heap[t]? = some (.cells #[.int .u8 0,.int .u8 0,.int .u8 0,.int .u8 0,.int .u8 0,.int .u8 0,.int .u8 0,.int .u8 0] 5 (0,0)),fun v w w' k ⟨t,h1,h2⟩=>⟨t,h1,k.kp _ _ _ _ (by decide) h2⟩⟩
def SpecR.ex19:SpecR KP:=⟨fun v w=>∃t,v = .agg #[.int .i64 1,.string ⟨#[120]⟩,.string ⟨#[121]⟩,.string ⟨#[109,101]⟩,.string ⟨#[]⟩,.string ⟨#[]⟩,.string ⟨#[]⟩,.string ⟨#[]⟩,.string ⟨#[]⟩,.slice (some ⟨t,0,none⟩) 8 8]∧w.heap[t]? = some (.cells #[.int .u8 0,.int .u8 0,.int .u8 0,.int .u8 0,.int .u8 0,.int .u8 0,.int .u8 0,.int .u8 0] 5 (0,0)),fun v w w' k ⟨t,h1,h2⟩=>⟨t,h1,k.kp _ _ _ _ (by decide) h2⟩⟩
def SpecR.ex21:SpecR KP:=⟨fun v w=>∃t,v = .agg #[.int .i64 1,.string ⟨#[120]⟩,.string ⟨#[121]⟩,.string ⟨#[109,101]⟩,.string ⟨#[]⟩,.string ⟨#[]⟩,.string ⟨#[]⟩,.string ⟨#[]⟩,.string ⟨#[]⟩,.slice (some ⟨t,0,none⟩) 8 8,.int .i64 1,.int .i64 0,.string ⟨#[98]⟩,.string ⟨#[115]⟩,.slice none 0 0]∧w.heap[t]? = some (.cells #[.int .u8 0,.int .u8 0,.int .u8 0,.int .u8 0,.int .u8 0,.int .u8 0,.int .u8 0,.int .u8 0] 5 (0,0)),fun v w w' k ⟨t,h1,h2⟩=>⟨t,h1,k.kp _ _ _ _ (by decide) h2⟩⟩
def SpecR.ex22:SpecR KP:=⟨fun v w=>∃g,v = .slice (some ⟨g,0,none⟩) 1 1∧GdF g w,fun _ _ _ k ⟨t,h1,h2⟩=>⟨t,h1,h2.kp k⟩⟩
def SpecR.ex27:SpecR KP:=⟨fun v w=>∃q,v = .slice (some ⟨q,0,none⟩) 1 1∧w.heap[q]? = some (.cells #[.int .i64 1,.string ⟨#[120]⟩,.string ⟨#[121]⟩,.string ⟨#[109,101]⟩,.string ⟨#[]⟩,.string ⟨#[]⟩,.string ⟨#[]⟩,.string ⟨#[]⟩,.string ⟨#[]⟩] 34 (0,0)),fun v w w' k ⟨t,h1,h2⟩=>⟨t,h1,k.kp _ _ _ _ (by decide) h2⟩⟩
def SpecR.ex28:SpecR KP:=⟨fun v w=>∃q,v = .agg #[.string ⟨#[120]⟩,.string ⟨#[121]⟩,.int .i64 1,.int .i64 0,.string ⟨#[97]⟩,.string ⟨#[114]⟩,.slice none 0 0,.slice (some ⟨q,0,none⟩) 1 1]∧w.heap[q]? = some (.cells #[.int .i64 1,.string ⟨#[120]⟩,.string ⟨#[121]⟩,.string ⟨#[109,101]⟩,.string ⟨#[]⟩,.string ⟨#[]⟩,.string ⟨#[]⟩,.string ⟨#[]⟩,.string ⟨#[]⟩] 34 (0,0)),fun v w w' k ⟨t,h1,h2⟩=>⟨t,h1,k.kp _ _ _ _ (by decide) h2⟩⟩
def SpecR.ex29:SpecR KP:=⟨fun v w=>∃h,v = .slice (some ⟨h,0,none⟩) 1 1∧AkF h w,fun _ _ _ k ⟨t,h1,h2⟩=>⟨t,h1,h2.kp k⟩⟩
def SpecR.ex30:SpecR KP:=⟨fun v w=>∃g h,v = .agg #[.string ⟨#[109,101]⟩,.slice (some ⟨g,0,none⟩) 1 1,.slice (some ⟨h,0,none⟩) 1 1]∧GdF g w∧AkF h w,fun _ _ _ k ⟨g,h,h1,h2,h3⟩=>⟨g,h,h1,h2.kp k,h3.kp k⟩⟩
def gfF1 (w3:World) (v:Value) (w:World):Prop:=∃b,v = .pointer (some ⟨b,0,none⟩)∧w.heap[b]? = some (.cells #[.string ⟨#[]⟩,.slice none 0 0,.slice none 0 0] 25 (0,0))∧w3.heap.size≤b∧Chg (fun _=>False) w3 w
def gfF2 (w3:World) (v:Value) (w:World):Prop:=∃b g h,v = .pointer (some ⟨b,0,none⟩)∧w.heap[b]? = some (.cells #[.string ⟨#[109,101]⟩,.slice (some ⟨g,0,none⟩) 1 1,.slice (some ⟨h,0,none⟩) 1 1] 25 (0,0))∧GdF g w∧AkF h w∧Chg (fun _=>False) w3 w
theorem gfF1.keep {w3 w w':World} {v:Value} (h:gfF1 w3 v w) (c:Chg (fun _=>False) w w'):gfF1 w3 v w':=by
 obtain⟨b,h1,h2,h3,h4⟩:=h
 exact⟨b,h1,bE h2 c id,h3,h4.trans c (fun _ _ h=>h)⟩
theorem gfF2.keep {w3 w w':World} {v:Value} (h:gfF2 w3 v w) (c:Chg (fun _=>False) w w'):gfF2 w3 v w':=by
 obtain⟨b,g,h0,h1,h2,h3,h4,h5⟩:=h
 exact⟨b,g,h0,h1,bE h2 c id,h3.kp (KP.of_chg c),h4.kp (KP.of_chg c),h5.trans c (fun _ _ h=>h)⟩
theorem run_makeB8 (w:World):(Instr.makeSlice 41 (.int .i64 8) (.int .i64 8)).run Tryz.prog w = .ok (.slice (some ⟨w.heap.size,0,none⟩) 8 8) (w.alloc (.cells #[.int .u8 0,.int .u8 0,.int .u8 0,.int .u8 0,.int .u8 0,.int .u8 0,.int .u8 0,.int .u8 0] 5)):=by
 have:=run_makeSlice (P:=Tryz.prog) w 41 5 Tryz.t5 (.int .u8 0) Tryz.underlying41 (by kernel_rfl) (by kernel_rfl) .i64 .i64 8 8 (by omega) (Int.le_refl _) (by decide) (by decide) (by decide)
 have e:madeCells (Value.int IntKind.u8 0).cells (Int.toNat 8*Tryz.t5.size)=#[.int .u8 0,.int .u8 0,.int .u8 0,.int .u8 0,.int .u8 0,.int .u8 0,.int .u8 0,.int .u8 0]:=by kernel_rfl
 rw[e]at this
 exact this
def gfs4 (Xa Xb Xc:Nat):List (SpecR KP):=[.any,.eq (.pointer (some ⟨Xa,0,none⟩)),.eq (.pointer (some ⟨Xb,0,none⟩)),.eq (.pointer (some ⟨Xc,0,none⟩)),.any,.any,.any,.any,.any,.any,.any,.any,.any,.any,.any,.any,.any,.eq (.agg #[.int .i64 1,.string ⟨#[120]⟩,.string ⟨#[121]⟩,.string ⟨#[109,101]⟩,.string ⟨#[]⟩,.string ⟨#[]⟩,.string ⟨#[]⟩,.string ⟨#[]⟩,.string ⟨#[]⟩]),.ex18,.ex19,.eq (.agg #[.int .i64 1,.int .i64 0,.string ⟨#[98]⟩,.string ⟨#[115]⟩,.slice none 0 0]),.ex21,.ex22,.eq (.pointer (some ⟨Xc,1,none⟩)),.eq (.agg #[.string ⟨#[120]⟩,.string ⟨#[121]⟩]),.eq (.agg #[.int .i64 1,.int .i64 0,.string ⟨#[97]⟩,.string ⟨#[114]⟩,.slice none 0 0]),.eq (.agg #[.int .i64 1,.string ⟨#[120]⟩,.string ⟨#[121]⟩,.string ⟨#[109,101]⟩,.string ⟨#[]⟩,.string ⟨#[]⟩,.string ⟨#[]⟩,.string ⟨#[]⟩,.string ⟨#[]⟩]),.ex27,.ex28,.ex29,.ex30,.any,.any,.any,.any,.any,.any,.any,.any,.any,.any,.any,.any,.any,.any,.any,.any,.any,.any,.any,.any,.any,.any,.any,.any,.any,.any,.any,.any,.any,.any,.any,.any,.any,.any,.any,.any,.any,.any,.any,.any,.any,.any,.any,.any,.any,.any,.any,.any,.any,.any,.any,.any,.any,.any,.any,.any,.any,.any,.any,.any,.any,.any,.any,.any,.any,.any,.any,.any,.any,.any,.any,.any,.any,.any,.any,.any,.any,.any,.any,.any,.any,.any,.any,.any]
theorem gfc_sh:credShort gfC 9223372036854775807:=by unfold credShort;decide
theorem gfma_sh:credShort (gfM gfA.r) 9223372036854775807:=by unfold credShort;decide
theorem gfmb_sh:credShort (gfM gfB.r) 9223372036854775807:=by unfold credShort;decide
theorem gft_ln:gfT.length≤9223372036854775807:=by decide
theorem gfa_ok:FmOk gfA:=by unfold FmOk;decide
theorem gfb_ok:FmOk gfB:=by unfold FmOk;decide
theorem gfr_ln (x:UInt8):([x]:List UInt8).length≤9223372036854775807:=by simp
theorem gf_bytes {w:World} {t:Nat} (h:w.heap[t]? = some (.cells #[.int .u8 0,.int .u8 0,.int .u8 0,.int .u8 0,.int .u8 0,.int .u8 0,.int .u8 0,.int .u8 0] 5 (0,0))):BytesAt (fun i=>i<w.heap.size) w (.slice (some ⟨t,0,none⟩) 8 8) gfT:=by
 refine .inr ⟨t,0,8,rfl,by decide,by decide,lt_blk h,fun i hi=>?_⟩
 have hi8:i<8:=hi
 rw[Nat.zero_add,bC h i]
 rcases (show i=0∨i=1∨i=2∨i=3∨i=4∨i=5∨i=6∨i=7 by omega) with rfl|rfl|rfl|rfl|rfl|rfl|rfl|rfl <;> rfl
theorem gf_party {w:World} {g h:Nat} (hg:GdF g w) (hh:AkF h w):PartyAt (fun i=>i<w.heap.size) w 1 gfP (some ⟨g,0,none⟩) 1 (some ⟨h,0,none⟩) 1:=by
 obtain⟨t,h1,h2⟩:=hg
 obtain⟨q,h3,h4⟩:=hh
 refine⟨by decide,fun i hi=>?_,fun i hi=>?_,fun e=>(by cases e),fun e=>(by cases e),fun _ h=>h,by decide⟩
 ·have:i=0:=by simp [gfP]at hi;omega
  subst this
  refine⟨g,0,rfl,lt_blk h1,⟨⟨?_,⟨some ⟨t,0,none⟩,8,bC h1 9,gf_bytes h2⟩,gfc_sh,gft_ln⟩,?_⟩⟩
  ·exact⟨bC h1 0,bC h1 1,bC h1 2,bC h1 3,bC h1 4,bC h1 5,bC h1 6,bC h1 7,bC h1 8⟩
  ·exact⟨bC h1 10,bC h1 11,bC h1 12,bC h1 13,gfb_ok,none,0,bC h1 14,fun _=>rfl,fun i hi=>absurd hi (Nat.not_lt_zero i)⟩
 ·have:i=0:=by simp [gfP]at hi;omega
  subst this
  refine⟨h,0,rfl,lt_blk h3,⟨⟨bC h3 0,bC h3 1,gfr_ln _,gfr_ln _⟩,?_,some ⟨q,0,none⟩,1,bC h3 7,fun e=>(by cases e),fun i hi=>?_⟩⟩
  ·exact⟨bC h3 2,bC h3 3,bC h3 4,bC h3 5,gfa_ok,none,0,bC h3 6,fun _=>rfl,fun i hi=>absurd hi (Nat.not_lt_zero i)⟩
  ·have:i=0:=by
    have hi2:i<1:=hi
    omega
   subst this
   exact⟨q,0,rfl,lt_blk h4,⟨bC h4 0,bC h4 1,bC h4 2,bC h4 3,bC h4 4,bC h4 5,bC h4 6,bC h4 7,bC h4 8⟩,gfc_sh⟩
theorem gf_zero (w:World):PartyAt (fun i=>i<w.heap.size) w 1 gf0 none 0 none 0:=⟨by decide,fun i hi=>absurd hi (Nat.not_lt_zero i),fun i hi=>absurd hi (Nat.not_lt_zero i),fun _=>rfl,fun _=>rfl,fun _ h=>h,fun _ h=>(by cases h)⟩
theorem gf_creds {w:World} {q:Nat} (h:w.heap[q]? = some (.cells #[.int .i64 1,.string ⟨#[97]⟩,.string ⟨#[114]⟩,.string ⟨#[121,111,117]⟩,.string ⟨#[]⟩,.string ⟨#[]⟩,.string ⟨#[]⟩,.string ⟨#[]⟩,.string ⟨#[]⟩,.int .i64 1,.string ⟨#[98]⟩,.string ⟨#[115]⟩,.string ⟨#[121,111,117]⟩,.string ⟨#[]⟩,.string ⟨#[]⟩,.string ⟨#[]⟩,.string ⟨#[]⟩,.string ⟨#[]⟩] 34 (0,0))):CredsAt (fun i=>i<w.heap.size) w (some ⟨q,0,none⟩) [gfM gfA.r,gfM gfB.r]:=fun i hi=>by
 have hi2:i<2:=hi
 rcases (show i=0∨i=1 by omega) with rfl|rfl
 ·exact⟨q,0,rfl,lt_blk h,⟨bC h 0,bC h 1,bC h 2,bC h 3,bC h 4,bC h 5,bC h 6,bC h 7,bC h 8⟩,gfma_sh⟩
 ·exact⟨q,0,rfl,lt_blk h,⟨bC h 9,bC h 10,bC h 11,bC h 12,bC h 13,bC h 14,bC h 15,bC h 16,bC h 17⟩,gfmb_sh⟩
theorem CredsAt.take1 {D:Nat→Prop} {w:World} {ao:Option Addr} {c d:CredB} (h:CredsAt D w ao [c,d]):CredsAt D w ao [c]:=fun i hi=>by
 have hi2:i<1:=hi
 have:i=0:=by omega
 subst this
 exact h 0 (by simp)
set_option maxRecDepth 100000 in
set_option maxHeartbeats 4000000 in
theorem gf_m (b1 b2:Array UInt8) (w:World):Calls Tryz.prog 14 #[.agg #[.string ⟨b1⟩,.string ⟨b2⟩]] w fun e w'=>e = .returned (.agg #[.int .i64 1,.string ⟨b1⟩,.string ⟨b2⟩,.string ⟨#[121,111,117]⟩,.string ⟨#[]⟩,.string ⟨#[]⟩,.string ⟨#[]⟩,.string ⟨#[]⟩,.string ⟨#[]⟩])∧Chg (fun _=>False) w w':=by
 have hs1:(w.alloc (.cells #[.string ⟨b1⟩,.string ⟨b2⟩] 32)).heap.size=w.heap.size+1:=by simp
 have hend:=heap_alloc_new (w.alloc (.cells #[.string ⟨b1⟩,.string ⟨b2⟩] 32)) (.cells #[.int .i64 1,.string ⟨b1⟩,.string ⟨b2⟩,.string ⟨#[121,111,117]⟩,.string ⟨#[]⟩,.string ⟨#[]⟩,.string ⟨#[]⟩,.string ⟨#[]⟩,.string ⟨#[]⟩] 34)
 rw[hs1]at hend
 have HE:=hid hend
 clear hs1 hend
 go_enter Tryz.func14,Tryz.ntmps14
 go_wp2
 refine bodyPost_ret (results_cell_row (P:=Tryz.prog) rfl _ _ (w.heap.size+1) 34 _ (0,0) _ rfl HE.out Tryz.underlying34 rfl (by kernel_rfl)) rfl ?_
 exact⟨rfl,((Chg.refl _ w).alloc _).alloc _⟩
theorem gf_enter:∀args w,(callFunc 14 args).run Tryz.prog w = .ok (.enter 14 args) w:=enters Tryz.func14 (by kernel_rfl) (by kernel_rfl)
def Spec.lenK (n:Nat):Spec:=⟨fun v _=>∃zo zc,v = .slice zo n zc,fun _ _ _ _ h=>h⟩
def Spec.gfTwo:Spec:=⟨fun v w=>∃q,v = .slice (some ⟨q,0,none⟩) 2 2∧w.heap[q]? = some (.cells #[.int .i64 1,.string ⟨#[97]⟩,.string ⟨#[114]⟩,.string ⟨#[121,111,117]⟩,.string ⟨#[]⟩,.string ⟨#[]⟩,.string ⟨#[]⟩,.string ⟨#[]⟩,.string ⟨#[]⟩,.int .i64 1,.string ⟨#[98]⟩,.string ⟨#[115]⟩,.string ⟨#[121,111,117]⟩,.string ⟨#[]⟩,.string ⟨#[]⟩,.string ⟨#[]⟩,.string ⟨#[]⟩,.string ⟨#[]⟩] 34 (0,0)),fun _ _ _ hc ⟨q,h1,h2⟩=>⟨q,h1,bE h2 hc id⟩⟩
def gfs8 (Xa Xb:Nat):List Spec:=[.any,.eq (.pointer (some ⟨Xa,0,none⟩)),.eq (.pointer (some ⟨Xb,0,none⟩)),.any,.any,.any,.any,.any,.any,.eq (.func (.func 14) #[] #[]),.gfTwo,.any,.any,.any,.any,.any,.any,.any,.any,.any,.any,.any,.any,.any,.any,.any,.any,.any,.any,.any,.any,.any,.any,.any,.any,.any,.any,.any,.any,.any,.any,.any,.any,.eq (.func (.func 14) #[] #[]),.eq (.pointer (some ⟨Xa,2,none⟩)),.eq (.agg #[.string ⟨#[97]⟩,.string ⟨#[114]⟩]),.eq (.agg #[.int .i64 1,.string ⟨#[97]⟩,.string ⟨#[114]⟩,.string ⟨#[121,111,117]⟩,.string ⟨#[]⟩,.string ⟨#[]⟩,.string ⟨#[]⟩,.string ⟨#[]⟩,.string ⟨#[]⟩]),.eq (.func (.func 14) #[] #[]),.eq (.pointer (some ⟨Xb,2,none⟩)),.eq (.agg #[.string ⟨#[98]⟩,.string ⟨#[115]⟩]),.eq (.agg #[.int .i64 1,.string ⟨#[98]⟩,.string ⟨#[115]⟩,.string ⟨#[121,111,117]⟩,.string ⟨#[]⟩,.string ⟨#[]⟩,.string ⟨#[]⟩,.string ⟨#[]⟩,.string ⟨#[]⟩]),.gfTwo,.any,.any,.any,.any,.any,.any,.any,.any,.any,.any,.any,.any,.any,.any,.any,.any,.any,.any,.any,.any,.any,.any,.any,.any,.any,.any,.any,.any,.any,.any,.any,.any,.any,.any,.any,.any,.any,.any,.any,.any,.any,.any,.any,.any,.any,.any,.any,.any,.any,.any,.any,.any,.any,.any,.any,.any,.any,.any,.any,.any,.any,.any,.any]
def gfs9 (Xc B X5 q g h xc:Nat) (xo:Option Addr):List Spec:=[.eq (.bool true),.any,.any,.eq (.pointer (some ⟨Xc,0,none⟩)),.eq (.pointer (some ⟨B,0,none⟩)),.eq (.pointer (some ⟨X5,0,none⟩)),.eq (.int .i64 0),.any,.eq (.int .i64 42),.any,.eq (.slice (some ⟨q,0,none⟩) 2 2),.any,.any,.any,.any,.any,.any,.any,.any,.any,.any,.any,.any,.any,.any,.any,.any,.any,.any,.any,.any,.any,.any,.any,.any,.any,.any,.any,.any,.any,.any,.any,.any,.any,.any,.any,.any,.any,.any,.any,.any,.any,.eq (.int .i64 0),.eq (.bool true),.eq (.bool true),.eq (.pointer (some ⟨X5,4,none⟩)),.eq (.slice xo 2 xc),.eq (.int .i64 2),.eq (.bool true),.eq (.bool true),.eq (.bool true),.eq (.int .i64 42),.eq (.bool true),.eq (.bool true),.eq (.bool true),.eq (.agg #[.string ⟨#[109,101]⟩,.slice (some ⟨g,0,none⟩) 1 1,.slice (some ⟨h,0,none⟩) 1 1]),.eq (.int .i64 0),.eq (.bool true),.eq (.bool true),.eq (.bool true),.eq (.agg #[.string ⟨#[]⟩,.slice none 0 0,.slice none 0 0]),.eq (.int .i64 30),.eq (.bool true),.eq (.bool true),.eq (.bool true),.eq (.agg #[.string ⟨#[109,101]⟩,.slice (some ⟨g,0,none⟩) 1 1,.slice (some ⟨h,0,none⟩) 1 1]),.eq (.agg #[.int .i64 1,.string ⟨#[120]⟩,.string ⟨#[121]⟩,.string ⟨#[109,101]⟩,.string ⟨#[]⟩,.string ⟨#[]⟩,.string ⟨#[]⟩,.string ⟨#[]⟩,.string ⟨#[]⟩]),.lenK 1,.eq (.int .i64 1),.eq (.bool true),.eq (.bool true),.eq (.bool true),.eq (.agg #[.string ⟨#[109,101]⟩,.slice (some ⟨g,0,none⟩) 1 1,.slice (some ⟨h,0,none⟩) 1 1]),.eq (.slice (some ⟨q,0,none⟩) 2 2),.lenK 1,.eq (.int .i64 1),.eq (.bool true),.eq (.bool true),.eq (.bool true),.eq (.agg #[.string ⟨#[109,101]⟩,.slice (some ⟨g,0,none⟩) 1 1,.slice (some ⟨h,0,none⟩) 1 1]),.eq (.slice (some ⟨q,0,none⟩) 2 2),.eq (.slice (some ⟨q,0,none⟩) 1 2),.lenK 0,.eq (.int .i64 0),.eq (.bool true),.eq (.bool true),.eq (.bool true),.eq (.agg #[.string ⟨#[109,101]⟩,.slice (some ⟨g,0,none⟩) 1 1,.slice (some ⟨h,0,none⟩) 1 1]),.eq (.pointer (some ⟨Xc,1,none⟩)),.eq (.agg #[.string ⟨#[120]⟩,.string ⟨#[121]⟩]),.eq (.slice (some ⟨q,0,none⟩) 2 2),.eq (.bool true),.eq (.bool true),.eq (.bool true),.eq (.agg #[.string ⟨#[109,101]⟩,.slice (some ⟨g,0,none⟩) 1 1,.slice (some ⟨h,0,none⟩) 1 1]),.eq (.pointer (some ⟨Xc,1,none⟩)),.eq (.agg #[.string ⟨#[120]⟩,.string ⟨#[121]⟩]),.eq (.bool false),.eq (.bool true),.eq (.bool true),.eq (.bool true),.eq (.agg #[.string ⟨#[109,101]⟩,.slice (some ⟨g,0,none⟩) 1 1,.slice (some ⟨h,0,none⟩) 1 1]),.eq (.int .i64 1),.eq (.bool true),.eq (.bool true)]
set_option maxRecDepth 100000 in
set_option maxHeartbeats 8000000 in
theorem gfirst (HK0:GK) (w:World):Calls Tryz.prog 4 #[] w fun e w'=>e = .returned (.bool true)∧Chg (fun _=>False) w w':=by
 have hs1:(w.alloc (.cells #[.int .i64 1,.int .i64 0,.string ⟨#[97]⟩,.string ⟨#[114]⟩,.slice none 0 0] 46)).heap.size=w.heap.size+1:=by simp
 have hs2:((w.alloc (.cells #[.int .i64 1,.int .i64 0,.string ⟨#[97]⟩,.string ⟨#[114]⟩,.slice none 0 0] 46)).alloc (.cells #[.int .i64 1,.int .i64 0,.string ⟨#[98]⟩,.string ⟨#[115]⟩,.slice none 0 0] 46)).heap.size=w.heap.size+1+1:=by simp
 have hc1:=alc w (.cells #[.int .i64 1,.int .i64 0,.string ⟨#[97]⟩,.string ⟨#[114]⟩,.slice none 0 0] 46)
 have k2:=alc (w.alloc (.cells #[.int .i64 1,.int .i64 0,.string ⟨#[97]⟩,.string ⟨#[114]⟩,.slice none 0 0] 46)) (.cells #[.int .i64 1,.int .i64 0,.string ⟨#[98]⟩,.string ⟨#[115]⟩,.slice none 0 0] 46)
 have k3:=alc ((w.alloc (.cells #[.int .i64 1,.int .i64 0,.string ⟨#[97]⟩,.string ⟨#[114]⟩,.slice none 0 0] 46)).alloc (.cells #[.int .i64 1,.int .i64 0,.string ⟨#[98]⟩,.string ⟨#[115]⟩,.slice none 0 0] 46)) (.cells #[.int .i64 1,.string ⟨#[120]⟩,.string ⟨#[121]⟩,.string ⟨#[109,101]⟩,.string ⟨#[]⟩,.string ⟨#[]⟩,.string ⟨#[]⟩,.string ⟨#[]⟩,.string ⟨#[]⟩] 34)
 have hA:=bE (bE (heap_alloc_new w (.cells #[.int .i64 1,.int .i64 0,.string ⟨#[97]⟩,.string ⟨#[114]⟩,.slice none 0 0] 46)) k2 id) k3 id
 have hB0:=heap_alloc_new (w.alloc (.cells #[.int .i64 1,.int .i64 0,.string ⟨#[97]⟩,.string ⟨#[114]⟩,.slice none 0 0] 46)) (.cells #[.int .i64 1,.int .i64 0,.string ⟨#[98]⟩,.string ⟨#[115]⟩,.slice none 0 0] 46)
 rw[hs1]at hB0
 have hB1:=bE hB0 k3 id
 have hC:=heap_alloc_new ((w.alloc (.cells #[.int .i64 1,.int .i64 0,.string ⟨#[97]⟩,.string ⟨#[114]⟩,.slice none 0 0] 46)).alloc (.cells #[.int .i64 1,.int .i64 0,.string ⟨#[98]⟩,.string ⟨#[115]⟩,.slice none 0 0] 46)) (.cells #[.int .i64 1,.string ⟨#[120]⟩,.string ⟨#[121]⟩,.string ⟨#[109,101]⟩,.string ⟨#[]⟩,.string ⟨#[]⟩,.string ⟨#[]⟩,.string ⟨#[]⟩,.string ⟨#[]⟩] 34)
 rw[hs2]at hC
 have HX:=hid (aI hA (aI hB1 (aI hC ((hc1.trans k2 (fun _ _ h=>h)).trans k3 (fun _ _ h=>h)))))
 have HK:=hid HK0
 clear hs1 hs2 hc1 k2 k3 hA hB0 hB1 hC HK0
 go_enter Tryz.func4,Tryz.ntmps4
 go_wp2
 obtain⟨w3,hw3⟩:∃w3,w3=(((w.alloc (.cells #[.int .i64 1,.int .i64 0,.string ⟨#[97]⟩,.string ⟨#[114]⟩,.slice none 0 0] 46)).alloc (.cells #[.int .i64 1,.int .i64 0,.string ⟨#[98]⟩,.string ⟨#[115]⟩,.slice none 0 0] 46)).alloc (.cells #[.int .i64 1,.string ⟨#[120]⟩,.string ⟨#[121]⟩,.string ⟨#[109,101]⟩,.string ⟨#[]⟩,.string ⟨#[]⟩,.string ⟨#[]⟩,.string ⟨#[]⟩,.string ⟨#[]⟩] 34)):=⟨_,rfl⟩
 rw[←hw3]at HX ⊢
 obtain⟨Xa,hXa⟩:∃X,X=w.heap.size:=⟨_,rfl⟩
 obtain⟨Xb,hXb⟩:∃X,X=w.heap.size+1:=⟨_,rfl⟩
 obtain⟨Xc,hXc⟩:∃X,X=w.heap.size+1+1:=⟨_,rfl⟩
 rw[←hXa]at HX ⊢
 rw[←hXa]at hXb hXc
 rw[←hXc]at HX ⊢
 rw[←hXb]at HX ⊢
 clear hw3 hXa hXb hXc
 refine wp_region_stateAD (KP) (AlS 14 15 4 (fun w=>Chg (fun _=>False) w3 w) (gfF1 w3) (gfF2 w3)) (specAtR (gfs4 Xa Xb Xc)) [17,18,19,20,21,22,23,24,25,26,27,28,29,30,4] [1,2,3] (by kernel_rfl) (by kernel_rfl) (AlS.start (show (4:Nat)<115 by decide) (R0.drew)) (fun t v w w' hc h=>specAtR_st _ t v w w' hc h) (by rfl) (by kernel_rfl) ?start4 ?obs4 ?fin4
 case start4=>
  simp only[List.forall_mem_cons];exact⟨⟨_,rfl,rfl⟩,⟨_,rfl,rfl⟩,⟨_,rfl,rfl⟩,fun _ h=>by cases h⟩
 case obs4=>
  skip
  refine ObsAD.cons none (by kernel_rfl) ?_ ?_
  ·refine ObAD.plain fun L a w hi he hD hW hk K k=>?_
   obtain⟨_,e3,rfl⟩:=hk 3 (by decide)
   clear hk
   have hB:Chg (fun _=>False) w3 w:=hW.ever (B:=fun w=>Chg (fun _=>False) w3 w) (fun w h=>h) (fun v w h=>h.choose_spec.2.2.2) (fun v w h=>by obtain⟨_,_,_,_,_,_,_,h⟩:=h;exact h)
   have z0:=bC (bE HX.out.2.2.1 hB id) 0
   have z1:=bC (bE HX.out.2.2.1 hB id) 1
   have z2:=bC (bE HX.out.2.2.1 hB id) 2
   have z3:=bC (bE HX.out.2.2.1 hB id) 3
   have z4:=bC (bE HX.out.2.2.1 hB id) 4
   have z5:=bC (bE HX.out.2.2.1 hB id) 5
   have z6:=bC (bE HX.out.2.2.1 hB id) 6
   have z7:=bC (bE HX.out.2.2.1 hB id) 7
   have z8:=bC (bE HX.out.2.2.1 hB id) 8
   simp only[lA,lZ,lS]at z0 z1 z2 z3 z4 z5 z6 z7 z8
   have hS:=hid (fun(v:Value) (w2:World) (hc:Chg (fun _=>False) w w2)=>hW.step (j:=0) (d:=(some 17)) v (by decide) hc (fun _ _ h c=>h.trans c (fun _ _ h=>h)) (fun _ _ _ h c=>gfF1.keep h c) (fun _ _ _ h c=>gfF2.keep h c))
   clear hi he hW hD
   go_simp
   exact k _ _ (KP.of_chg R0) (hS.out _ _ R0) rfl
  refine ObsAD.cons none (by kernel_rfl) ?_ ?_
  ·refine ObAD.plain fun L a w hi he hD hW hk K k=>?_
   clear hk
   have hm8:=run_makeB8 w
   have hb8:=heap_alloc_new w (.cells #[.int .u8 0,.int .u8 0,.int .u8 0,.int .u8 0,.int .u8 0,.int .u8 0,.int .u8 0,.int .u8 0] 5)
   have hS:=hid (fun(v:Value) (w2:World) (hc:Chg (fun _=>False) w w2)=>hW.step (j:=1) (d:=(some 18)) v (by decide) hc (fun _ _ h c=>h.trans c (fun _ _ h=>h)) (fun _ _ _ h c=>gfF1.keep h c) (fun _ _ _ h c=>gfF2.keep h c))
   clear hi he hW hD
   go_simp
   exact k _ _ (KP.of_chg (R0.alloc _)) (hS.out _ _ (R0.alloc _)) ⟨_,rfl,hb8⟩
  refine ObsAD.cons none (by kernel_rfl) ?_ ?_
  ·refine ObAD.plain fun L a w hi he hD hW hk K k=>?_
   obtain⟨_,e17,rfl⟩:=hk 17 (by decide)
   obtain⟨_,e18,f18⟩:=hk 18 (by decide)
   clear hk
   obtain⟨t,rfl,ht⟩:=f18
   have hS:=hid (fun(v:Value) (w2:World) (hc:Chg (fun _=>False) w w2)=>hW.step (j:=2) (d:=(some 19)) v (by decide) hc (fun _ _ h c=>h.trans c (fun _ _ h=>h)) (fun _ _ _ h c=>gfF1.keep h c) (fun _ _ _ h c=>gfF2.keep h c))
   clear hi he hW hD
   go_simp
   exact k _ _ (KP.of_chg R0) (hS.out _ _ R0) ⟨_,rfl,ht⟩
  refine ObsAD.cons none (by kernel_rfl) ?_ ?_
  ·refine ObAD.plain fun L a w hi he hD hW hk K k=>?_
   obtain⟨_,e2,rfl⟩:=hk 2 (by decide)
   clear hk
   have hB:Chg (fun _=>False) w3 w:=hW.ever (B:=fun w=>Chg (fun _=>False) w3 w) (fun w h=>h) (fun v w h=>h.choose_spec.2.2.2) (fun v w h=>by obtain⟨_,_,_,_,_,_,_,h⟩:=h;exact h)
   have z0:=bC (bE HX.out.2.1 hB id) 0
   have z1:=bC (bE HX.out.2.1 hB id) 1
   have z2:=bC (bE HX.out.2.1 hB id) 2
   have z3:=bC (bE HX.out.2.1 hB id) 3
   have z4:=bC (bE HX.out.2.1 hB id) 4
   simp only[lA,lZ,lS]at z0 z1 z2 z3 z4
   have hS:=hid (fun(v:Value) (w2:World) (hc:Chg (fun _=>False) w w2)=>hW.step (j:=3) (d:=(some 20)) v (by decide) hc (fun _ _ h c=>h.trans c (fun _ _ h=>h)) (fun _ _ _ h c=>gfF1.keep h c) (fun _ _ _ h c=>gfF2.keep h c))
   clear hi he hW hD
   go_simp
   exact k _ _ (KP.of_chg R0) (hS.out _ _ R0) rfl
  refine ObsAD.cons none (by kernel_rfl) ?_ ?_
  ·refine ObAD.plain fun L a w hi he hD hW hk K k=>?_
   obtain⟨_,e19,f19⟩:=hk 19 (by decide)
   obtain⟨_,e20,rfl⟩:=hk 20 (by decide)
   clear hk
   obtain⟨t,rfl,ht⟩:=f19
   have hS:=hid (fun(v:Value) (w2:World) (hc:Chg (fun _=>False) w w2)=>hW.step (j:=4) (d:=(some 21)) v (by decide) hc (fun _ _ h c=>h.trans c (fun _ _ h=>h)) (fun _ _ _ h c=>gfF1.keep h c) (fun _ _ _ h c=>gfF2.keep h c))
   clear hi he hW hD
   go_simp
   exact k _ _ (KP.of_chg R0) (hS.out _ _ R0) ⟨_,rfl,ht⟩
  refine ObsAD.cons none (by kernel_rfl) ?_ ?_
  ·refine ObAD.plain fun L a w hi he hD hW hk K k=>?_
   obtain⟨_,e21,f21⟩:=hk 21 (by decide)
   clear hk
   obtain⟨t,rfl,ht⟩:=f21
   have hb8:=heap_alloc_new w (.cells #[.int .i64 1,.string ⟨#[120]⟩,.string ⟨#[121]⟩,.string ⟨#[109,101]⟩,.string ⟨#[]⟩,.string ⟨#[]⟩,.string ⟨#[]⟩,.string ⟨#[]⟩,.string ⟨#[]⟩,.slice (some ⟨t,0,none⟩) 8 8,.int .i64 1,.int .i64 0,.string ⟨#[98]⟩,.string ⟨#[115]⟩,.slice none 0 0] 48)
   have hc8:=alc w (.cells #[.int .i64 1,.string ⟨#[120]⟩,.string ⟨#[121]⟩,.string ⟨#[109,101]⟩,.string ⟨#[]⟩,.string ⟨#[]⟩,.string ⟨#[]⟩,.string ⟨#[]⟩,.string ⟨#[]⟩,.slice (some ⟨t,0,none⟩) 8 8,.int .i64 1,.int .i64 0,.string ⟨#[98]⟩,.string ⟨#[115]⟩,.slice none 0 0] 48)
   have hS:=hid (fun(v:Value) (w2:World) (hc:Chg (fun _=>False) w w2)=>hW.step (j:=5) (d:=(some 22)) v (by decide) hc (fun _ _ h c=>h.trans c (fun _ _ h=>h)) (fun _ _ _ h c=>gfF1.keep h c) (fun _ _ _ h c=>gfF2.keep h c))
   clear hi he hW hD
   go_simp
   exact k _ _ (KP.of_chg (R0.alloc _)) (hS.out _ _ (R0.alloc _)) ⟨_,rfl,_,hb8,bE ht hc8 id⟩
  refine ObsAD.cons none (by kernel_rfl) ?_ ?_
  ·refine ObAD.plain fun L a w hi he hD hW hk K k=>?_
   obtain⟨_,e3,rfl⟩:=hk 3 (by decide)
   clear hk
   have hS:=hid (fun(v:Value) (w2:World) (hc:Chg (fun _=>False) w w2)=>hW.step (j:=6) (d:=(some 23)) v (by decide) hc (fun _ _ h c=>h.trans c (fun _ _ h=>h)) (fun _ _ _ h c=>gfF1.keep h c) (fun _ _ _ h c=>gfF2.keep h c))
   clear hi he hW hD
   go_simp
   exact k _ _ (KP.of_chg R0) (hS.out _ _ R0) rfl
  refine ObsAD.cons none (by kernel_rfl) ?_ ?_
  ·refine ObAD.plain fun L a w hi he hD hW hk K k=>?_
   obtain⟨_,e23,rfl⟩:=hk 23 (by decide)
   clear hk
   have hB:Chg (fun _=>False) w3 w:=hW.ever (B:=fun w=>Chg (fun _=>False) w3 w) (fun w h=>h) (fun v w h=>h.choose_spec.2.2.2) (fun v w h=>by obtain⟨_,_,_,_,_,_,_,h⟩:=h;exact h)
   have z0:=bC (bE HX.out.2.2.1 hB id) 0
   have z1:=bC (bE HX.out.2.2.1 hB id) 1
   have z2:=bC (bE HX.out.2.2.1 hB id) 2
   simp only[lA,lZ,lS]at z0 z1 z2
   have hS:=hid (fun(v:Value) (w2:World) (hc:Chg (fun _=>False) w w2)=>hW.step (j:=7) (d:=(some 24)) v (by decide) hc (fun _ _ h c=>h.trans c (fun _ _ h=>h)) (fun _ _ _ h c=>gfF1.keep h c) (fun _ _ _ h c=>gfF2.keep h c))
   clear hi he hW hD
   go_simp
   exact k _ _ (KP.of_chg R0) (hS.out _ _ R0) rfl
  refine ObsAD.cons none (by kernel_rfl) ?_ ?_
  ·refine ObAD.plain fun L a w hi he hD hW hk K k=>?_
   obtain⟨_,e1,rfl⟩:=hk 1 (by decide)
   clear hk
   have hB:Chg (fun _=>False) w3 w:=hW.ever (B:=fun w=>Chg (fun _=>False) w3 w) (fun w h=>h) (fun v w h=>h.choose_spec.2.2.2) (fun v w h=>by obtain⟨_,_,_,_,_,_,_,h⟩:=h;exact h)
   have z0:=bC (bE HX.out.1 hB id) 0
   have z1:=bC (bE HX.out.1 hB id) 1
   have z2:=bC (bE HX.out.1 hB id) 2
   have z3:=bC (bE HX.out.1 hB id) 3
   have z4:=bC (bE HX.out.1 hB id) 4
   simp only[lA,lZ,lS]at z0 z1 z2 z3 z4
   have hS:=hid (fun(v:Value) (w2:World) (hc:Chg (fun _=>False) w w2)=>hW.step (j:=8) (d:=(some 25)) v (by decide) hc (fun _ _ h c=>h.trans c (fun _ _ h=>h)) (fun _ _ _ h c=>gfF1.keep h c) (fun _ _ _ h c=>gfF2.keep h c))
   clear hi he hW hD
   go_simp
   exact k _ _ (KP.of_chg R0) (hS.out _ _ R0) rfl
  refine ObsAD.cons none (by kernel_rfl) ?_ ?_
  ·refine ObAD.plain fun L a w hi he hD hW hk K k=>?_
   obtain⟨_,e3,rfl⟩:=hk 3 (by decide)
   clear hk
   have hB:Chg (fun _=>False) w3 w:=hW.ever (B:=fun w=>Chg (fun _=>False) w3 w) (fun w h=>h) (fun v w h=>h.choose_spec.2.2.2) (fun v w h=>by obtain⟨_,_,_,_,_,_,_,h⟩:=h;exact h)
   have z0:=bC (bE HX.out.2.2.1 hB id) 0
   have z1:=bC (bE HX.out.2.2.1 hB id) 1
   have z2:=bC (bE HX.out.2.2.1 hB id) 2
   have z3:=bC (bE HX.out.2.2.1 hB id) 3
   have z4:=bC (bE HX.out.2.2.1 hB id) 4
   have z5:=bC (bE HX.out.2.2.1 hB id) 5
   have z6:=bC (bE HX.out.2.2.1 hB id) 6
   have z7:=bC (bE HX.out.2.2.1 hB id) 7
   have z8:=bC (bE HX.out.2.2.1 hB id) 8
   simp only[lA,lZ,lS]at z0 z1 z2 z3 z4 z5 z6 z7 z8
   have hS:=hid (fun(v:Value) (w2:World) (hc:Chg (fun _=>False) w w2)=>hW.step (j:=9) (d:=(some 26)) v (by decide) hc (fun _ _ h c=>h.trans c (fun _ _ h=>h)) (fun _ _ _ h c=>gfF1.keep h c) (fun _ _ _ h c=>gfF2.keep h c))
   clear hi he hW hD
   go_simp
   exact k _ _ (KP.of_chg R0) (hS.out _ _ R0) rfl
  refine ObsAD.cons none (by kernel_rfl) ?_ ?_
  ·refine ObAD.plain fun L a w hi he hD hW hk K k=>?_
   obtain⟨_,e26,rfl⟩:=hk 26 (by decide)
   clear hk
   have hb8:=heap_alloc_new w (.cells #[.int .i64 1,.string ⟨#[120]⟩,.string ⟨#[121]⟩,.string ⟨#[109,101]⟩,.string ⟨#[]⟩,.string ⟨#[]⟩,.string ⟨#[]⟩,.string ⟨#[]⟩,.string ⟨#[]⟩] 34)
   have hS:=hid (fun(v:Value) (w2:World) (hc:Chg (fun _=>False) w w2)=>hW.step (j:=10) (d:=(some 27)) v (by decide) hc (fun _ _ h c=>h.trans c (fun _ _ h=>h)) (fun _ _ _ h c=>gfF1.keep h c) (fun _ _ _ h c=>gfF2.keep h c))
   clear hi he hW hD
   go_simp
   exact k _ _ (KP.of_chg (R0.alloc _)) (hS.out _ _ (R0.alloc _)) ⟨_,rfl,hb8⟩
  refine ObsAD.cons none (by kernel_rfl) ?_ ?_
  ·refine ObAD.plain fun L a w hi he hD hW hk K k=>?_
   obtain⟨_,e24,rfl⟩:=hk 24 (by decide)
   obtain⟨_,e25,rfl⟩:=hk 25 (by decide)
   obtain⟨_,e27,f27⟩:=hk 27 (by decide)
   clear hk
   obtain⟨t,rfl,ht⟩:=f27
   have hS:=hid (fun(v:Value) (w2:World) (hc:Chg (fun _=>False) w w2)=>hW.step (j:=11) (d:=(some 28)) v (by decide) hc (fun _ _ h c=>h.trans c (fun _ _ h=>h)) (fun _ _ _ h c=>gfF1.keep h c) (fun _ _ _ h c=>gfF2.keep h c))
   clear hi he hW hD
   go_simp
   exact k _ _ (KP.of_chg R0) (hS.out _ _ R0) ⟨_,rfl,ht⟩
  refine ObsAD.cons none (by kernel_rfl) ?_ ?_
  ·refine ObAD.plain fun L a w hi he hD hW hk K k=>?_
   obtain⟨_,e28,f28⟩:=hk 28 (by decide)
   clear hk
   obtain⟨t,rfl,ht⟩:=f28
   have hb8:=heap_alloc_new w (.cells #[.string ⟨#[120]⟩,.string ⟨#[121]⟩,.int .i64 1,.int .i64 0,.string ⟨#[97]⟩,.string ⟨#[114]⟩,.slice none 0 0,.slice (some ⟨t,0,none⟩) 1 1] 54)
   have hc8:=alc w (.cells #[.string ⟨#[120]⟩,.string ⟨#[121]⟩,.int .i64 1,.int .i64 0,.string ⟨#[97]⟩,.string ⟨#[114]⟩,.slice none 0 0,.slice (some ⟨t,0,none⟩) 1 1] 54)
   have hS:=hid (fun(v:Value) (w2:World) (hc:Chg (fun _=>False) w w2)=>hW.step (j:=12) (d:=(some 29)) v (by decide) hc (fun _ _ h c=>h.trans c (fun _ _ h=>h)) (fun _ _ _ h c=>gfF1.keep h c) (fun _ _ _ h c=>gfF2.keep h c))
   clear hi he hW hD
   go_simp
   exact k _ _ (KP.of_chg (R0.alloc _)) (hS.out _ _ (R0.alloc _)) ⟨_,rfl,_,hb8,bE ht hc8 id⟩
  refine ObsAD.cons none (by kernel_rfl) ?_ ?_
  ·refine ObAD.plain fun L a w hi he hD hW hk K k=>?_
   obtain⟨_,e22,f22⟩:=hk 22 (by decide)
   obtain⟨_,e29,f29⟩:=hk 29 (by decide)
   clear hk
   obtain⟨g,rfl,hg⟩:=f22
   obtain⟨h,rfl,hh⟩:=f29
   have hS:=hid (fun(v:Value) (w2:World) (hc:Chg (fun _=>False) w w2)=>hW.step (j:=13) (d:=(some 30)) v (by decide) hc (fun _ _ h c=>h.trans c (fun _ _ h=>h)) (fun _ _ _ h c=>gfF1.keep h c) (fun _ _ _ h c=>gfF2.keep h c))
   clear hi he hW hD
   go_simp
   exact k _ _ (KP.of_chg R0) (hS.out _ _ R0) ⟨_,_,rfl,hg,hh⟩
  refine ObsAD.cons none (by kernel_rfl) ?_ ?_
  ·refine ObAD.plain fun L a w hi he hD hW hk K k=>?_
   clear hk
   have h0:=hW.p0 hi
   have hsz:=h0.size
   have HS:=hid (aI hW hi)
   clear hi he hW hD
   go_simp
   exact k _ _ (KP.of_chg (R0.alloc _)) (HS.out.1.first (by decide) HS.out.2 ⟨w.heap.size,rfl,heap_alloc_new w _,hsz,h0.alloc _⟩) trivial
  refine ObsAD.cons none (by kernel_rfl) ?_ ?_
  ·refine ObAD.plain fun L a w hi he hD hW hk K k=>?_
   obtain⟨_,e30,f30⟩:=hk 30 (by decide)
   clear hk
   obtain⟨g,h,rfl,hg,hh⟩:=f30
   have hall:L 14=true:=he ⟨14,Ground.data⟩ (by simp) (by decide)
   obtain⟨v2,e4,b,rfl,hb,hle,hc⟩:=hW.p1 hall hi
   have z0:=bC (hb) 0
   have z1:=bC (hb) 1
   have z2:=bC (hb) 2
   simp only[lA,lZ,lS]at z0 z1 z2
   have f0:=froz_blk hb 0
   have f1:=froz_blk hb 1
   have f2:=froz_blk hb 2
   have hb3:=set_blk (set_blk (set_blk hb 0 (.string ⟨#[109,101]⟩)) 1 (.slice (some ⟨g,0,none⟩) 1 1)) 2 (.slice (some ⟨h,0,none⟩) 1 1)
   have hk3:KP w (((w.setCell ⟨b,0,none⟩ (.string ⟨#[109,101]⟩)).setCell ⟨b,1,none⟩ (.slice (some ⟨g,0,none⟩) 1 1)).setCell ⟨b,2,none⟩ (.slice (some ⟨h,0,none⟩) 1 1)):=((KP.set hb _).trans (KP.set (set_blk hb 0 _) _)).trans (KP.set (set_blk (set_blk hb 0 _) 1 _) _)
   have hc3:Chg (fun _=>False) w3 (((w.setCell ⟨b,0,none⟩ (.string ⟨#[109,101]⟩)).setCell ⟨b,1,none⟩ (.slice (some ⟨g,0,none⟩) 1 1)).setCell ⟨b,2,none⟩ (.slice (some ⟨h,0,none⟩) 1 1)):=((hc.setCell (p:=⟨b,0,none⟩) (fun hl=>absurd hl (Nat.not_lt.2 hle)) _).setCell (p:=⟨b,1,none⟩) (fun hl=>absurd hl (Nat.not_lt.2 hle)) _).setCell (p:=⟨b,2,none⟩) (fun hl=>absurd hl (Nat.not_lt.2 hle)) _
   have HS:=hid (aI hW (aI hall (aI e4 (aI hb3 (aI hk3 (aI hc3 (aI (hg.kp hk3) (hh.kp hk3))))))))
   have H9:=hid e30
   clear hW hall hb hle hc hi he hD hb3 hk3 hc3 hg hh
   go_simp
   exact k undef _ HS.out.2.2.2.2.1 (HS.out.1.second (by decide) HS.out.2.1 HS.out.2.2.1 ⟨b,g,h,rfl,HS.out.2.2.2.1,HS.out.2.2.2.2.2.2.1,HS.out.2.2.2.2.2.2.2,HS.out.2.2.2.2.2.1⟩) trivial
  exact ObsAD.nil
 case fin4=>
  intro L vals w9 hL hWL hv
  obtain⟨vv,hvv,B,g,h,rfl,hbP,hg,hh,hc9⟩:=hWL.p2 (hL 15 (by decide))
  simp only[putAll,List.setIfInBounds_toArray,List.set_cons_zero,List.set_cons_succ,lA,lZ,lS,Option.some.injEq]at hvv
  simp only[putAll,List.setIfInBounds_toArray,List.set_cons_zero,List.set_cons_succ,hvv]
  clear hL hWL hvv hv
  have HP:=hid (gf_party hg hh)
  have HW9:=hid (HX.out.2.2.2.trans hc9 (fun _ _ h=>h))
  have HB:=hid (aI hbP (aI (bE HX.out.1 hc9 id) (aI (bE HX.out.2.1 hc9 id) (bE HX.out.2.2.1 hc9 id))))
  clear HX hc9 hg hh hbP
  clear w3
  have y0:=bC (HB.out.1) 0
  have y1:=bC (HB.out.1) 1
  have y2:=bC (HB.out.1) 2
  simp only[lA,lZ,lS]at y0 y1 y2
  have z0:=bC (HB.out.2.2.2) 0
  have z1:=bC (HB.out.2.2.2) 1
  have z2:=bC (HB.out.2.2.2) 2
  have z3:=bC (HB.out.2.2.2) 3
  have z4:=bC (HB.out.2.2.2) 4
  have z5:=bC (HB.out.2.2.2) 5
  have z6:=bC (HB.out.2.2.2) 6
  have z7:=bC (HB.out.2.2.2) 7
  have z8:=bC (HB.out.2.2.2) 8
  simp only[lA,lZ,lS]at z0 z1 z2 z3 z4 z5 z6 z7 z8
  have HQ:Hid (Calls Tryz.prog 12 #[.agg #[.string ⟨#[109,101]⟩,.slice (some ⟨g,0,none⟩) 1 1,.slice (some ⟨h,0,none⟩) 1 1],.agg #[.int .i64 1,.string ⟨#[120]⟩,.string ⟨#[121]⟩,.string ⟨#[109,101]⟩,.string ⟨#[]⟩,.string ⟨#[]⟩,.string ⟨#[]⟩,.string ⟨#[]⟩,.string ⟨#[]⟩]] w9 _):=hid (HK.out.of_ 1 gfP (some ⟨g,0,none⟩) 1 (some ⟨h,0,none⟩) 1 gfC w9 HP.out (by decide) (by decide +kernel) (by unfold credShort;decide))
  go_wp2_with fail
  refine HQ.out.mono ?_
  rintro e w10 ⟨x,kk,rfl,hox,_,hor,hc10⟩
  obtain⟨hk0,hex⟩:=hor.det gf_of
  subst hk0
  obtain⟨xo,xc,hx1,_⟩:=own_val hox
  rw[hex]at hx1
  have hxv:fmV x = .agg #[.int .i64 2,.int .i64 0,.string ⟨#[]⟩,.string ⟨#[]⟩,.slice xo 2 xc]:=congrArg Value.agg hx1
  rw[hxv]
  have hcX:=alc w10 (.cells #[.int .i64 2,.int .i64 0,.string ⟨#[]⟩,.string ⟨#[]⟩,.slice xo 2 xc] 46)
  have hc11:=hc10.trans hcX (fun _ _ h=>h)
  have HB2:=hid (aI (heap_alloc_new w10 (.cells #[.int .i64 2,.int .i64 0,.string ⟨#[]⟩,.string ⟨#[]⟩,.slice xo 2 xc] 46)) (aI (bE HB.out.1 hc11 id) (aI (bE HB.out.2.1 hc11 id) (aI (bE HB.out.2.2.1 hc11 id) (bE HB.out.2.2.2 hc11 id)))))
  have HP2:=hid (HP.out.keep hc11 (fun _ _=>id))
  have HW11:=hid (HW9.out.trans hc11 (fun _ _ h=>h))
  clear y0 y1 y2 z0 z1 z2 z3 z4 z5 z6 z7 z8 HQ hox hor hex hc10 hx1 hxv hcX hc11 HB HP HW9
  have y0:=bC (HB2.out.2.1) 0
  have y1:=bC (HB2.out.2.1) 1
  have y2:=bC (HB2.out.2.1) 2
  simp only[lA,lZ,lS]at y0 y1 y2
  obtain⟨w11,hw11⟩:∃W,W=w10.alloc (.cells #[.int .i64 2,.int .i64 0,.string ⟨#[]⟩,.string ⟨#[]⟩,.slice xo 2 xc] 46):=⟨_,rfl⟩
  have HQ2:Hid (Calls Tryz.prog 12 #[.agg #[.string ⟨#[109,101]⟩,.slice (some ⟨g,0,none⟩) 1 1,.slice (some ⟨h,0,none⟩) 1 1],.agg #[.int .i64 0,.string ⟨#[]⟩,.string ⟨#[]⟩,.string ⟨#[]⟩,.string ⟨#[]⟩,.string ⟨#[]⟩,.string ⟨#[]⟩,.string ⟨#[]⟩,.string ⟨#[]⟩]] (w10.alloc (.cells #[.int .i64 2,.int .i64 0,.string ⟨#[]⟩,.string ⟨#[]⟩,.slice xo 2 xc] 46)) _):=hid (HK.out.of_ 1 gfP (some ⟨g,0,none⟩) 1 (some ⟨h,0,none⟩) 1 noCred _ HP2.out (by decide) (by decide +kernel) (by unfold credShort;decide))
  go_wp2_with fail
  rw[←hw11]at HB2 HP2 HW11 HQ2 ⊢
  clear y0 y1 y2 hw11
  obtain⟨X5,hX5⟩:∃X,X=w10.heap.size:=⟨_,rfl⟩
  rw[←hX5]at HB2 ⊢
  clear hX5
  refine HQ2.out.mono ?_
  rintro e w12 ⟨x2,k2,rfl,hox,_,hor,hc12⟩
  have h42:=gf_none hor
  subst h42
  obtain⟨yo,yc,hx1,_⟩:=own_val hox
  have hxv:fmV x2 = .agg #[.int .i64 (eraseA x2).op,.int .i64 (eraseA x2).k,.string ⟨(eraseA x2).r.1.toArray⟩,.string ⟨(eraseA x2).r.2.toArray⟩,.slice yo (eraseA x2).kids.length yc]:=congrArg Value.agg hx1
  rw[hxv]
  have hcX:=alc w12 (.cells #[.int .i64 (eraseA x2).op,.int .i64 (eraseA x2).k,.string ⟨(eraseA x2).r.1.toArray⟩,.string ⟨(eraseA x2).r.2.toArray⟩,.slice yo (eraseA x2).kids.length yc] 46)
  have hc13:=hc12.trans hcX (fun _ _ h=>h)
  have HB3:=hid (aI (bE HB2.out.1 hc13 id) (aI (bE HB2.out.2.1 hc13 id) (aI (bE HB2.out.2.2.1 hc13 id) (aI (bE HB2.out.2.2.2.1 hc13 id) (bE HB2.out.2.2.2.2 hc13 id)))))
  have HP3:=hid (HP2.out.keep hc13 (fun _ _=>id))
  have HW13:=hid (HW11.out.trans hc13 (fun _ _ h=>h))
  clear HQ2 hox hor hc12 hx1 hxv hcX hc13 HB2 HP2 HW11
  go_wp2_with fail
  obtain⟨w13,hw13⟩:∃W,W=w12.alloc (.cells #[.int .i64 (eraseA x2).op,.int .i64 (eraseA x2).k,.string ⟨(eraseA x2).r.1.toArray⟩,.string ⟨(eraseA x2).r.2.toArray⟩,.slice yo (eraseA x2).kids.length yc] 46):=⟨_,rfl⟩
  rw[←hw13]at HB3 HP3 HW13 ⊢
  obtain⟨X7,hX7⟩:∃X,X=w12.heap.size:=⟨_,rfl⟩
  rw[←hX7]
  clear hw13 hX7
  generalize (eraseA x2).op=o1 at *
  generalize (eraseA x2).k=o2 at *
  generalize (eraseA x2).kids.length=o3 at *
  generalize (eraseA x2).r=o4 at *
  refine wp_region_specs (gfs8 Xa Xb) [43,44,45,46,47,48,49,50,51,10] [1,2,9] (by kernel_rfl) (by kernel_rfl) (by rfl) (by kernel_rfl) ?start8 ?obs8 ?fin8
  case start8=>
   simp only[List.forall_mem_cons];exact⟨⟨_,rfl,rfl⟩,⟨_,rfl,rfl⟩,⟨_,rfl,rfl⟩,fun _ h=>by cases h⟩
  case obs8=>
   skip
   refine Obs.cons none (by kernel_rfl) ?_ ?_
   ·refine Ob.plain fun a w hR hk K k=>?_
    obtain⟨_,e9,f9⟩:=hk 9 (by decide)
    clear hk
    go_simp
    exact k _ _ R0 f9
   refine Obs.cons none (by kernel_rfl) ?_ ?_
   ·refine Ob.plain fun a w hR hk K k=>?_
    obtain⟨_,e1,rfl⟩:=hk 1 (by decide)
    clear hk
    go_simp
    exact k _ _ R0 rfl
   refine Obs.cons none (by kernel_rfl) ?_ ?_
   ·refine Ob.plain fun a w hR hk K k=>?_
    obtain⟨_,e44,rfl⟩:=hk 44 (by decide)
    clear hk
    have z0:=bC (bE HB3.out.2.2.1 hR id) 0
    have z1:=bC (bE HB3.out.2.2.1 hR id) 1
    have z2:=bC (bE HB3.out.2.2.1 hR id) 2
    have z3:=bC (bE HB3.out.2.2.1 hR id) 3
    have z4:=bC (bE HB3.out.2.2.1 hR id) 4
    simp only[lA,lZ,lS]at z0 z1 z2 z3 z4
    go_simp
    exact k _ _ R0 rfl
   refine Obs.cons none (by kernel_rfl) ?_ ?_
   ·refine Ob.plain fun a w hR hk K k=>?_
    obtain⟨_,e43,rfl⟩:=hk 43 (by decide)
    obtain⟨_,e45,rfl⟩:=hk 45 (by decide)
    clear hk
    have hm:=gf_m #[97] #[114] w
    have hen:=gf_enter
    go_simp
    refine hm.mono ?_
    rintro e w5 ⟨rfl,hc5⟩
    exact k _ _ hc5 rfl
   refine Obs.cons none (by kernel_rfl) ?_ ?_
   ·refine Ob.plain fun a w hR hk K k=>?_
    obtain⟨_,e9,f9⟩:=hk 9 (by decide)
    clear hk
    go_simp
    exact k _ _ R0 f9
   refine Obs.cons none (by kernel_rfl) ?_ ?_
   ·refine Ob.plain fun a w hR hk K k=>?_
    obtain⟨_,e2,rfl⟩:=hk 2 (by decide)
    clear hk
    go_simp
    exact k _ _ R0 rfl
   refine Obs.cons none (by kernel_rfl) ?_ ?_
   ·refine Ob.plain fun a w hR hk K k=>?_
    obtain⟨_,e48,rfl⟩:=hk 48 (by decide)
    clear hk
    have z0:=bC (bE HB3.out.2.2.2.1 hR id) 0
    have z1:=bC (bE HB3.out.2.2.2.1 hR id) 1
    have z2:=bC (bE HB3.out.2.2.2.1 hR id) 2
    have z3:=bC (bE HB3.out.2.2.2.1 hR id) 3
    have z4:=bC (bE HB3.out.2.2.2.1 hR id) 4
    simp only[lA,lZ,lS]at z0 z1 z2 z3 z4
    go_simp
    exact k _ _ R0 rfl
   refine Obs.cons none (by kernel_rfl) ?_ ?_
   ·refine Ob.plain fun a w hR hk K k=>?_
    obtain⟨_,e47,rfl⟩:=hk 47 (by decide)
    obtain⟨_,e49,rfl⟩:=hk 49 (by decide)
    clear hk
    have hm:=gf_m #[98] #[115] w
    have hen:=gf_enter
    go_simp
    refine hm.mono ?_
    rintro e w5 ⟨rfl,hc5⟩
    exact k _ _ hc5 rfl
   refine Obs.cons none (by kernel_rfl) ?_ ?_
   ·refine Ob.plain fun a w hR hk K k=>?_
    obtain⟨_,e46,rfl⟩:=hk 46 (by decide)
    obtain⟨_,e50,rfl⟩:=hk 50 (by decide)
    clear hk
    have hb8:=heap_alloc_new w (.cells #[.int .i64 1,.string ⟨#[97]⟩,.string ⟨#[114]⟩,.string ⟨#[121,111,117]⟩,.string ⟨#[]⟩,.string ⟨#[]⟩,.string ⟨#[]⟩,.string ⟨#[]⟩,.string ⟨#[]⟩,.int .i64 1,.string ⟨#[98]⟩,.string ⟨#[115]⟩,.string ⟨#[121,111,117]⟩,.string ⟨#[]⟩,.string ⟨#[]⟩,.string ⟨#[]⟩,.string ⟨#[]⟩,.string ⟨#[]⟩] 34)
    have hc8:=alc w (.cells #[.int .i64 1,.string ⟨#[97]⟩,.string ⟨#[114]⟩,.string ⟨#[121,111,117]⟩,.string ⟨#[]⟩,.string ⟨#[]⟩,.string ⟨#[]⟩,.string ⟨#[]⟩,.string ⟨#[]⟩,.int .i64 1,.string ⟨#[98]⟩,.string ⟨#[115]⟩,.string ⟨#[121,111,117]⟩,.string ⟨#[]⟩,.string ⟨#[]⟩,.string ⟨#[]⟩,.string ⟨#[]⟩,.string ⟨#[]⟩] 34)
    go_simp
    exact k _ _ hc8 ⟨_,rfl,hb8⟩
   refine Obs.cons none (by kernel_rfl) ?_ ?_
   ·refine Ob.plain fun a w hR hk K k=>?_
    obtain⟨_,e51,f51⟩:=hk 51 (by decide)
    clear hk
    go_simp
    exact k _ _ R0 f51
   exact Obs.nil
  case fin8=>
   intro vals w14 hc14 hv
   obtain⟨q,h10,hq⟩:∃q,vals 10 = .slice (some ⟨q,0,none⟩) 2 2∧w14.heap[q]? = some (.cells #[.int .i64 1,.string ⟨#[97]⟩,.string ⟨#[114]⟩,.string ⟨#[121,111,117]⟩,.string ⟨#[]⟩,.string ⟨#[]⟩,.string ⟨#[]⟩,.string ⟨#[]⟩,.string ⟨#[]⟩,.int .i64 1,.string ⟨#[98]⟩,.string ⟨#[115]⟩,.string ⟨#[121,111,117]⟩,.string ⟨#[]⟩,.string ⟨#[]⟩,.string ⟨#[]⟩,.string ⟨#[]⟩,.string ⟨#[]⟩] 34 (0,0)):=hv 10 (by decide)
   simp only[putAll,List.setIfInBounds_toArray,List.set_cons_zero,List.set_cons_succ,h10]
   have HB4:=hid (aI (bE HB3.out.1 hc14 id) (aI (bE HB3.out.2.1 hc14 id) (aI (bE HB3.out.2.2.2.2 hc14 id) (gf_creds hq))))
   have HP4:=hid (HP3.out.keep hc14 (fun _ _=>id))
   have HW14:=hid (HW13.out.trans hc14 (fun _ _ h=>h))
   clear hv h10 hq hc14 HB3 HP3 HW13
   have HC66:Hid (∀w9,Chg (fun _=>False) w14 w9→Calls Tryz.prog 9 #[.agg #[.string ⟨#[109,101]⟩,.slice (some ⟨g,0,none⟩) 1 1,.slice (some ⟨h,0,none⟩) 1 1]] w9 fun e w'=>e = .returned (.int .i64 0)∧Chg (fun _=>False) w9 w'):=hid (fun w9 hw9=>by
    refine(HK.out.right 1 gfP (some ⟨g,0,none⟩) 1 (some ⟨h,0,none⟩) 1 w9 (HP4.out.keep hw9 (fun _ _=>id)) (by decide) (by decide +kernel)).mono ?_
    rintro e w' ⟨kk,rfl,h1,_,h3⟩
    rw[h1.2 gf_right]
    exact⟨rfl,h3⟩)
   have HC71:Hid (∀w9,Chg (fun _=>False) w14 w9→Calls Tryz.prog 9 #[.agg #[.string ⟨#[]⟩,.slice none 0 0,.slice none 0 0]] w9 fun e w'=>e = .returned (.int .i64 30)∧Chg (fun _=>False) w9 w'):=hid (fun w9 hw9=>by
    refine(HK.out.right 1 gf0 none 0 none 0 w9 (gf_zero w9) (by decide) (by decide +kernel)).mono ?_
    rintro e w' ⟨kk,rfl,_,h2,h3⟩
    rw[h2 (by decide +kernel)]
    exact⟨rfl,h3⟩)
   have HC77:Hid (∀w9,Chg (fun _=>False) w14 w9→Calls Tryz.prog 10 #[.agg #[.string ⟨#[109,101]⟩,.slice (some ⟨g,0,none⟩) 1 1,.slice (some ⟨h,0,none⟩) 1 1],.agg #[.int .i64 1,.string ⟨#[120]⟩,.string ⟨#[121]⟩,.string ⟨#[109,101]⟩,.string ⟨#[]⟩,.string ⟨#[]⟩,.string ⟨#[]⟩,.string ⟨#[]⟩,.string ⟨#[]⟩]] w9 fun e w'=>∃zo zc,e = .returned (.slice zo 1 zc)∧Chg (fun _=>False) w9 w'):=hid (fun w9 hw9=>by
    refine(HK.out.acks 1 gfP (some ⟨g,0,none⟩) 1 (some ⟨h,0,none⟩) 1 gfC w9 (HP4.out.keep hw9 (fun _ _=>id)) (by decide) (by decide +kernel) (by unfold credShort;decide)).mono ?_
    rintro e w' ⟨ro,rc,rfl,_,h3⟩
    rw[gf_acks]
    exact⟨_,_,rfl,h3⟩)
   have HC84:Hid (∀w9,Chg (fun _=>False) w14 w9→Calls Tryz.prog 7 #[.agg #[.string ⟨#[109,101]⟩,.slice (some ⟨g,0,none⟩) 1 1,.slice (some ⟨h,0,none⟩) 1 1],.slice (some ⟨q,0,none⟩) 2 2,.string ⟨#[121,111,117]⟩] w9 fun e w'=>∃zo zc,e = .returned (.slice zo 1 zc)∧Chg (fun _=>False) w9 w'):=hid (fun w9 hw9=>by
    refine(HK.out.free 1 gfP (some ⟨g,0,none⟩) 1 (some ⟨h,0,none⟩) 1 (some ⟨q,0,none⟩) 2 [gfM gfA.r,gfM gfB.r] [121,111,117] w9 (HP4.out.keep hw9 (fun _ _=>id)) (by decide) (by decide +kernel) (HB4.out.2.2.2.keep hw9 (fun _ _=>id)) (fun i hi=>Nat.lt_of_lt_of_le hi hw9.size) (fun e=>by cases e) (by decide +kernel) (by decide)).mono ?_
    rintro e w' ⟨xs,zs,zo,zc,rfl,h1,h2,_,h4⟩
    rw[gf_free h1 h2]
    exact⟨_,_,rfl,h4⟩)
   have HC92:Hid (∀w9,Chg (fun _=>False) w14 w9→Calls Tryz.prog 7 #[.agg #[.string ⟨#[109,101]⟩,.slice (some ⟨g,0,none⟩) 1 1,.slice (some ⟨h,0,none⟩) 1 1],.slice (some ⟨q,0,none⟩) 1 2,.string ⟨#[121,111,117]⟩] w9 fun e w'=>∃zo zc,e = .returned (.slice zo 0 zc)∧Chg (fun _=>False) w9 w'):=hid (fun w9 hw9=>by
    refine(HK.out.free 1 gfP (some ⟨g,0,none⟩) 1 (some ⟨h,0,none⟩) 1 (some ⟨q,0,none⟩) 2 [gfM gfA.r] [121,111,117] w9 (HP4.out.keep hw9 (fun _ _=>id)) (by decide) (by decide +kernel) (HB4.out.2.2.2.take1.keep hw9 (fun _ _=>id)) (fun i hi=>Nat.lt_of_lt_of_le hi hw9.size) (fun e=>by cases e) (by decide +kernel) (by decide)).mono ?_
    rintro e w' ⟨xs,zs,zo,zc,rfl,h1,h2,_,h4⟩
    rw[gf_free0 h1 h2]
    exact⟨_,_,rfl,h4⟩)
   have HC101:Hid (∀w9,Chg (fun _=>False) w14 w9→Calls Tryz.prog 11 #[.agg #[.string ⟨#[109,101]⟩,.slice (some ⟨g,0,none⟩) 1 1,.slice (some ⟨h,0,none⟩) 1 1],.agg #[.string ⟨#[120]⟩,.string ⟨#[121]⟩],.slice (some ⟨q,0,none⟩) 2 2,.string ⟨#[121,111,117]⟩] w9 fun e w'=>e = .returned (.bool true)∧Chg (fun _=>False) w9 w'):=hid (fun w9 hw9=>by
    refine(HK.out.told 1 gfP (some ⟨g,0,none⟩) 1 (some ⟨h,0,none⟩) 1 ([120],[121]) (some ⟨q,0,none⟩) 2 [gfM gfA.r,gfM gfB.r] [121,111,117] w9 (HP4.out.keep hw9 (fun _ _=>id)) (by decide) (by decide +kernel) (HB4.out.2.2.2.keep hw9 (fun _ _=>id)) (fun i hi=>Nat.lt_of_lt_of_le hi hw9.size) (fun e=>by cases e) (by decide +kernel) (by decide) (by decide)).mono ?_
    rintro e w' ⟨xs,rfl,h1,h4⟩
    rw[gf_told h1]
    exact⟨rfl,h4⟩)
   have HC107:Hid (∀w9,Chg (fun _=>False) w14 w9→Calls Tryz.prog 11 #[.agg #[.string ⟨#[109,101]⟩,.slice (some ⟨g,0,none⟩) 1 1,.slice (some ⟨h,0,none⟩) 1 1],.agg #[.string ⟨#[120]⟩,.string ⟨#[121]⟩],.slice none 0 0,.string ⟨#[121,111,117]⟩] w9 fun e w'=>e = .returned (.bool false)∧Chg (fun _=>False) w9 w'):=hid (fun w9 hw9=>by
    refine(HK.out.told 1 gfP (some ⟨g,0,none⟩) 1 (some ⟨h,0,none⟩) 1 ([120],[121]) none 0 [] [121,111,117] w9 (HP4.out.keep hw9 (fun _ _=>id)) (by decide) (by decide +kernel) (CredsAt.nil (fun _=>False) _ _) (fun _ h=>h.elim) (fun _=>rfl) (by decide) (by decide) (by decide)).mono ?_
    rintro e w' ⟨xs,rfl,h1,h4⟩
    rw[gf_told0 h1]
    exact⟨rfl,h4⟩)
   have HC112:Hid (∀w9,Chg (fun _=>False) w14 w9→Calls Tryz.prog 15 #[.agg #[.string ⟨#[109,101]⟩,.slice (some ⟨g,0,none⟩) 1 1,.slice (some ⟨h,0,none⟩) 1 1],.pointer none] w9 fun e w'=>e = .returned (.int .i64 1)∧Chg (fun _=>False) w9 w'):=hid (fun w9 hw9=>by
    exact HK.out.checkNil 1 gfP (some ⟨g,0,none⟩) 1 (some ⟨h,0,none⟩) 1 w9 (HP4.out.keep hw9 (fun _ _=>id)) (by decide) (by decide +kernel) gf_right (by simp [gfP]))
   clear HP4
   go_wp2
   refine wp_region_specs (gfs9 Xc B X5 q g h xc xo) [52,53,54,55,56,57,58,59,60,61,62,63,64,65,66,67,68,69,70,71,72,73,74,75,76,77,78,79,80,81,82,83,84,85,86,87,88,89,90,91,92,93,94,95,96,97,98,99,100,101,102,103,104,105,106,107,108,109,110,111,112,113,114,0] [3,4,5,6,8,10] (by kernel_rfl) (by kernel_rfl) (by rfl) (by kernel_rfl) ?start9 ?obs9 ?fin9
   case start9=>
    simp only[List.forall_mem_cons];exact⟨⟨_,rfl,rfl⟩,⟨_,rfl,rfl⟩,⟨_,rfl,rfl⟩,⟨_,rfl,rfl⟩,⟨_,rfl,rfl⟩,⟨_,rfl,rfl⟩,fun _ h=>by cases h⟩
   case obs9=>
    skip
    refine Obs.cons none (by kernel_rfl) ?_ ?_
    ·refine Ob.plain fun a w hR hk K k=>?_
     obtain⟨_,e6,f6⟩:=hk 6 (by decide)
     clear hk
     go_simp
     exact k _ _ R0 f6
    refine Obs.cons none (by kernel_rfl) ?_ ?_
    ·refine Ob.plain fun a w hR hk K k=>?_
     obtain⟨_,e52,rfl⟩:=hk 52 (by decide)
     clear hk
     go_simp
     exact k _ _ R0 rfl
    refine Obs.cons none (by kernel_rfl) ?_ ?_
    ·refine Ob.plain fun a w hR hk K k=>?_
     obtain⟨_,e53,f53⟩:=hk 53 (by decide)
     clear hk
     go_simp
     exact k _ _ R0 f53
    refine Obs.cons (some (54,true)) (by kernel_rfl) ?_ ?_
    ·refine Ob.yes (fun _ _ h=>h) fun a w hR hk K k=>?_
     obtain⟨_,e5,rfl⟩:=hk 5 (by decide)
     clear hk
     go_simp
     exact k _ _ R0 rfl
    refine Obs.cons (some (54,true)) (by kernel_rfl) ?_ ?_
    ·refine Ob.yes (fun _ _ h=>h) fun a w hR hk K k=>?_
     obtain⟨_,e55,rfl⟩:=hk 55 (by decide)
     clear hk
     have z0:=bC (bE HB4.out.1 hR id) 0
     have z1:=bC (bE HB4.out.1 hR id) 1
     have z2:=bC (bE HB4.out.1 hR id) 2
     have z3:=bC (bE HB4.out.1 hR id) 3
     have z4:=bC (bE HB4.out.1 hR id) 4
     simp only[lA,lZ,lS]at z0 z1 z2 z3 z4
     go_simp
     exact k _ _ R0 rfl
    refine Obs.cons (some (54,true)) (by kernel_rfl) ?_ ?_
    ·refine Ob.yes (fun _ _ h=>h) fun a w hR hk K k=>?_
     obtain⟨_,e56,rfl⟩:=hk 56 (by decide)
     clear hk
     go_simp
     exact k _ _ R0 rfl
    refine Obs.cons (some (54,true)) (by kernel_rfl) ?_ ?_
    ·refine Ob.yes (fun _ _ h=>h) fun a w hR hk K k=>?_
     obtain⟨_,e57,rfl⟩:=hk 57 (by decide)
     clear hk
     go_simp
     exact k _ _ R0 rfl
    refine Obs.cons none (by kernel_rfl) ?_ ?_
    ·refine Ob.plain fun a w hR hk K k=>?_
     obtain⟨_,e54,rfl⟩:=hk 54 (by decide)
     obtain⟨_,e58,rfl⟩:=hk 58 (by decide)
     clear hk
     go_simp
     exact k _ _ R0 rfl
    refine Obs.cons none (by kernel_rfl) ?_ ?_
    ·refine Ob.plain fun a w hR hk K k=>?_
     obtain⟨_,e59,f59⟩:=hk 59 (by decide)
     clear hk
     go_simp
     exact k _ _ R0 f59
    refine Obs.cons (some (60,true)) (by kernel_rfl) ?_ ?_
    ·refine Ob.yes (fun _ _ h=>h) fun a w hR hk K k=>?_
     obtain⟨_,e8,f8⟩:=hk 8 (by decide)
     clear hk
     go_simp
     exact k _ _ R0 f8
    refine Obs.cons (some (60,true)) (by kernel_rfl) ?_ ?_
    ·refine Ob.yes (fun _ _ h=>h) fun a w hR hk K k=>?_
     obtain⟨_,e61,rfl⟩:=hk 61 (by decide)
     clear hk
     go_simp
     exact k _ _ R0 rfl
    refine Obs.cons none (by kernel_rfl) ?_ ?_
    ·refine Ob.plain fun a w hR hk K k=>?_
     obtain⟨_,e60,rfl⟩:=hk 60 (by decide)
     obtain⟨_,e62,rfl⟩:=hk 62 (by decide)
     clear hk
     go_simp
     exact k _ _ R0 rfl
    refine Obs.cons none (by kernel_rfl) ?_ ?_
    ·refine Ob.plain fun a w hR hk K k=>?_
     obtain⟨_,e63,f63⟩:=hk 63 (by decide)
     clear hk
     go_simp
     exact k _ _ R0 f63
    refine Obs.cons (some (64,true)) (by kernel_rfl) ?_ ?_
    ·refine Ob.yes (fun _ _ h=>h) fun a w hR hk K k=>?_
     obtain⟨_,e4,rfl⟩:=hk 4 (by decide)
     clear hk
     have z0:=bC (bE HB4.out.2.1 hR id) 0
     have z1:=bC (bE HB4.out.2.1 hR id) 1
     have z2:=bC (bE HB4.out.2.1 hR id) 2
     simp only[lA,lZ,lS]at z0 z1 z2
     go_simp
     exact k _ _ R0 rfl
    refine Obs.cons (some (64,true)) (by kernel_rfl) ?_ ?_
    ·refine Ob.yes (fun _ _ h=>h) fun a w hR hk K k=>?_
     obtain⟨_,e65,rfl⟩:=hk 65 (by decide)
     clear hk
     have hq:=HC66.out w hR
     go_simp
     refine hq.mono ?_
     rintro e w5 ⟨rfl,hc5⟩
     exact k _ _ hc5 rfl
    refine Obs.cons (some (64,true)) (by kernel_rfl) ?_ ?_
    ·refine Ob.yes (fun _ _ h=>h) fun a w hR hk K k=>?_
     obtain⟨_,e66,rfl⟩:=hk 66 (by decide)
     clear hk
     go_simp
     exact k _ _ R0 rfl
    refine Obs.cons none (by kernel_rfl) ?_ ?_
    ·refine Ob.plain fun a w hR hk K k=>?_
     obtain⟨_,e64,rfl⟩:=hk 64 (by decide)
     obtain⟨_,e67,rfl⟩:=hk 67 (by decide)
     clear hk
     go_simp
     exact k _ _ R0 rfl
    refine Obs.cons none (by kernel_rfl) ?_ ?_
    ·refine Ob.plain fun a w hR hk K k=>?_
     obtain⟨_,e68,f68⟩:=hk 68 (by decide)
     clear hk
     go_simp
     exact k _ _ R0 f68
    refine Obs.cons (some (69,true)) (by kernel_rfl) ?_ ?_
    ·refine Ob.yes (fun _ _ h=>h) fun a w hR hk K k=>?_
     clear hk
     go_simp
     exact k _ _ R0 rfl
    refine Obs.cons (some (69,true)) (by kernel_rfl) ?_ ?_
    ·refine Ob.yes (fun _ _ h=>h) fun a w hR hk K k=>?_
     obtain⟨_,e70,rfl⟩:=hk 70 (by decide)
     clear hk
     have hq:=HC71.out w hR
     go_simp
     refine hq.mono ?_
     rintro e w5 ⟨rfl,hc5⟩
     exact k _ _ hc5 rfl
    refine Obs.cons (some (69,true)) (by kernel_rfl) ?_ ?_
    ·refine Ob.yes (fun _ _ h=>h) fun a w hR hk K k=>?_
     obtain⟨_,e71,rfl⟩:=hk 71 (by decide)
     clear hk
     go_simp
     exact k _ _ R0 rfl
    refine Obs.cons none (by kernel_rfl) ?_ ?_
    ·refine Ob.plain fun a w hR hk K k=>?_
     obtain⟨_,e69,rfl⟩:=hk 69 (by decide)
     obtain⟨_,e72,rfl⟩:=hk 72 (by decide)
     clear hk
     go_simp
     exact k _ _ R0 rfl
    refine Obs.cons none (by kernel_rfl) ?_ ?_
    ·refine Ob.plain fun a w hR hk K k=>?_
     obtain⟨_,e73,f73⟩:=hk 73 (by decide)
     clear hk
     go_simp
     exact k _ _ R0 f73
    refine Obs.cons (some (74,true)) (by kernel_rfl) ?_ ?_
    ·refine Ob.yes (fun _ _ h=>h) fun a w hR hk K k=>?_
     obtain⟨_,e4,rfl⟩:=hk 4 (by decide)
     clear hk
     have z0:=bC (bE HB4.out.2.1 hR id) 0
     have z1:=bC (bE HB4.out.2.1 hR id) 1
     have z2:=bC (bE HB4.out.2.1 hR id) 2
     simp only[lA,lZ,lS]at z0 z1 z2
     go_simp
     exact k _ _ R0 rfl
    refine Obs.cons (some (74,true)) (by kernel_rfl) ?_ ?_
    ·refine Ob.yes (fun _ _ h=>h) fun a w hR hk K k=>?_
     obtain⟨_,e3,rfl⟩:=hk 3 (by decide)
     clear hk
     have z0:=bC (bE HB4.out.2.2.1 hR id) 0
     have z1:=bC (bE HB4.out.2.2.1 hR id) 1
     have z2:=bC (bE HB4.out.2.2.1 hR id) 2
     have z3:=bC (bE HB4.out.2.2.1 hR id) 3
     have z4:=bC (bE HB4.out.2.2.1 hR id) 4
     have z5:=bC (bE HB4.out.2.2.1 hR id) 5
     have z6:=bC (bE HB4.out.2.2.1 hR id) 6
     have z7:=bC (bE HB4.out.2.2.1 hR id) 7
     have z8:=bC (bE HB4.out.2.2.1 hR id) 8
     simp only[lA,lZ,lS]at z0 z1 z2 z3 z4 z5 z6 z7 z8
     go_simp
     exact k _ _ R0 rfl
    refine Obs.cons (some (74,true)) (by kernel_rfl) ?_ ?_
    ·refine Ob.yes (fun _ _ h=>h) fun a w hR hk K k=>?_
     obtain⟨_,e75,rfl⟩:=hk 75 (by decide)
     obtain⟨_,e76,rfl⟩:=hk 76 (by decide)
     clear hk
     have hq:=HC77.out w hR
     go_simp
     refine hq.mono ?_
     rintro e w5 ⟨zo,zc,rfl,hc5⟩
     exact k _ _ hc5 ⟨_,_,rfl⟩
    refine Obs.cons (some (74,true)) (by kernel_rfl) ?_ ?_
    ·refine Ob.yes (fun _ _ h=>h) fun a w hR hk K k=>?_
     obtain⟨_,e77,f77⟩:=hk 77 (by decide)
     clear hk
     obtain⟨zo,zc,rfl⟩:=f77
     go_simp
     exact k _ _ R0 rfl
    refine Obs.cons (some (74,true)) (by kernel_rfl) ?_ ?_
    ·refine Ob.yes (fun _ _ h=>h) fun a w hR hk K k=>?_
     obtain⟨_,e78,rfl⟩:=hk 78 (by decide)
     clear hk
     go_simp
     exact k _ _ R0 rfl
    refine Obs.cons none (by kernel_rfl) ?_ ?_
    ·refine Ob.plain fun a w hR hk K k=>?_
     obtain⟨_,e74,rfl⟩:=hk 74 (by decide)
     obtain⟨_,e79,rfl⟩:=hk 79 (by decide)
     clear hk
     go_simp
     exact k _ _ R0 rfl
    refine Obs.cons none (by kernel_rfl) ?_ ?_
    ·refine Ob.plain fun a w hR hk K k=>?_
     obtain⟨_,e80,f80⟩:=hk 80 (by decide)
     clear hk
     go_simp
     exact k _ _ R0 f80
    refine Obs.cons (some (81,true)) (by kernel_rfl) ?_ ?_
    ·refine Ob.yes (fun _ _ h=>h) fun a w hR hk K k=>?_
     obtain⟨_,e4,rfl⟩:=hk 4 (by decide)
     clear hk
     have z0:=bC (bE HB4.out.2.1 hR id) 0
     have z1:=bC (bE HB4.out.2.1 hR id) 1
     have z2:=bC (bE HB4.out.2.1 hR id) 2
     simp only[lA,lZ,lS]at z0 z1 z2
     go_simp
     exact k _ _ R0 rfl
    refine Obs.cons (some (81,true)) (by kernel_rfl) ?_ ?_
    ·refine Ob.yes (fun _ _ h=>h) fun a w hR hk K k=>?_
     obtain⟨_,e10,f10⟩:=hk 10 (by decide)
     clear hk
     go_simp
     exact k _ _ R0 f10
    refine Obs.cons (some (81,true)) (by kernel_rfl) ?_ ?_
    ·refine Ob.yes (fun _ _ h=>h) fun a w hR hk K k=>?_
     obtain⟨_,e82,rfl⟩:=hk 82 (by decide)
     obtain⟨_,e83,rfl⟩:=hk 83 (by decide)
     clear hk
     have hq:=HC84.out w hR
     go_simp
     refine hq.mono ?_
     rintro e w5 ⟨zo,zc,rfl,hc5⟩
     exact k _ _ hc5 ⟨_,_,rfl⟩
    refine Obs.cons (some (81,true)) (by kernel_rfl) ?_ ?_
    ·refine Ob.yes (fun _ _ h=>h) fun a w hR hk K k=>?_
     obtain⟨_,e84,f84⟩:=hk 84 (by decide)
     clear hk
     obtain⟨zo,zc,rfl⟩:=f84
     go_simp
     exact k _ _ R0 rfl
    refine Obs.cons (some (81,true)) (by kernel_rfl) ?_ ?_
    ·refine Ob.yes (fun _ _ h=>h) fun a w hR hk K k=>?_
     obtain⟨_,e85,rfl⟩:=hk 85 (by decide)
     clear hk
     go_simp
     exact k _ _ R0 rfl
    refine Obs.cons none (by kernel_rfl) ?_ ?_
    ·refine Ob.plain fun a w hR hk K k=>?_
     obtain⟨_,e81,rfl⟩:=hk 81 (by decide)
     obtain⟨_,e86,rfl⟩:=hk 86 (by decide)
     clear hk
     go_simp
     exact k _ _ R0 rfl
    refine Obs.cons none (by kernel_rfl) ?_ ?_
    ·refine Ob.plain fun a w hR hk K k=>?_
     obtain⟨_,e87,f87⟩:=hk 87 (by decide)
     clear hk
     go_simp
     exact k _ _ R0 f87
    refine Obs.cons (some (88,true)) (by kernel_rfl) ?_ ?_
    ·refine Ob.yes (fun _ _ h=>h) fun a w hR hk K k=>?_
     obtain⟨_,e4,rfl⟩:=hk 4 (by decide)
     clear hk
     have z0:=bC (bE HB4.out.2.1 hR id) 0
     have z1:=bC (bE HB4.out.2.1 hR id) 1
     have z2:=bC (bE HB4.out.2.1 hR id) 2
     simp only[lA,lZ,lS]at z0 z1 z2
     go_simp
     exact k _ _ R0 rfl
    refine Obs.cons (some (88,true)) (by kernel_rfl) ?_ ?_
    ·refine Ob.yes (fun _ _ h=>h) fun a w hR hk K k=>?_
     obtain⟨_,e10,f10⟩:=hk 10 (by decide)
     clear hk
     go_simp
     exact k _ _ R0 f10
    refine Obs.cons (some (88,true)) (by kernel_rfl) ?_ ?_
    ·refine Ob.yes (fun _ _ h=>h) fun a w hR hk K k=>?_
     obtain⟨_,e90,rfl⟩:=hk 90 (by decide)
     clear hk
     go_simp
     exact k _ _ R0 rfl
    refine Obs.cons (some (88,true)) (by kernel_rfl) ?_ ?_
    ·refine Ob.yes (fun _ _ h=>h) fun a w hR hk K k=>?_
     obtain⟨_,e89,rfl⟩:=hk 89 (by decide)
     obtain⟨_,e91,rfl⟩:=hk 91 (by decide)
     clear hk
     have hq:=HC92.out w hR
     go_simp
     refine hq.mono ?_
     rintro e w5 ⟨zo,zc,rfl,hc5⟩
     exact k _ _ hc5 ⟨_,_,rfl⟩
    refine Obs.cons (some (88,true)) (by kernel_rfl) ?_ ?_
    ·refine Ob.yes (fun _ _ h=>h) fun a w hR hk K k=>?_
     obtain⟨_,e92,f92⟩:=hk 92 (by decide)
     clear hk
     obtain⟨zo,zc,rfl⟩:=f92
     go_simp
     exact k _ _ R0 rfl
    refine Obs.cons (some (88,true)) (by kernel_rfl) ?_ ?_
    ·refine Ob.yes (fun _ _ h=>h) fun a w hR hk K k=>?_
     obtain⟨_,e93,rfl⟩:=hk 93 (by decide)
     clear hk
     go_simp
     exact k _ _ R0 rfl
    refine Obs.cons none (by kernel_rfl) ?_ ?_
    ·refine Ob.plain fun a w hR hk K k=>?_
     obtain⟨_,e88,rfl⟩:=hk 88 (by decide)
     obtain⟨_,e94,rfl⟩:=hk 94 (by decide)
     clear hk
     go_simp
     exact k _ _ R0 rfl
    refine Obs.cons none (by kernel_rfl) ?_ ?_
    ·refine Ob.plain fun a w hR hk K k=>?_
     obtain⟨_,e95,f95⟩:=hk 95 (by decide)
     clear hk
     go_simp
     exact k _ _ R0 f95
    refine Obs.cons (some (96,true)) (by kernel_rfl) ?_ ?_
    ·refine Ob.yes (fun _ _ h=>h) fun a w hR hk K k=>?_
     obtain⟨_,e4,rfl⟩:=hk 4 (by decide)
     clear hk
     have z0:=bC (bE HB4.out.2.1 hR id) 0
     have z1:=bC (bE HB4.out.2.1 hR id) 1
     have z2:=bC (bE HB4.out.2.1 hR id) 2
     simp only[lA,lZ,lS]at z0 z1 z2
     go_simp
     exact k _ _ R0 rfl
    refine Obs.cons (some (96,true)) (by kernel_rfl) ?_ ?_
    ·refine Ob.yes (fun _ _ h=>h) fun a w hR hk K k=>?_
     obtain⟨_,e3,rfl⟩:=hk 3 (by decide)
     clear hk
     go_simp
     exact k _ _ R0 rfl
    refine Obs.cons (some (96,true)) (by kernel_rfl) ?_ ?_
    ·refine Ob.yes (fun _ _ h=>h) fun a w hR hk K k=>?_
     obtain⟨_,e98,rfl⟩:=hk 98 (by decide)
     clear hk
     have z0:=bC (bE HB4.out.2.2.1 hR id) 0
     have z1:=bC (bE HB4.out.2.2.1 hR id) 1
     have z2:=bC (bE HB4.out.2.2.1 hR id) 2
     simp only[lA,lZ,lS]at z0 z1 z2
     go_simp
     exact k _ _ R0 rfl
    refine Obs.cons (some (96,true)) (by kernel_rfl) ?_ ?_
    ·refine Ob.yes (fun _ _ h=>h) fun a w hR hk K k=>?_
     obtain⟨_,e10,f10⟩:=hk 10 (by decide)
     clear hk
     go_simp
     exact k _ _ R0 f10
    refine Obs.cons (some (96,true)) (by kernel_rfl) ?_ ?_
    ·refine Ob.yes (fun _ _ h=>h) fun a w hR hk K k=>?_
     obtain⟨_,e97,rfl⟩:=hk 97 (by decide)
     obtain⟨_,e99,rfl⟩:=hk 99 (by decide)
     obtain⟨_,e100,rfl⟩:=hk 100 (by decide)
     clear hk
     have hq:=HC101.out w hR
     go_simp
     refine hq.mono ?_
     rintro e w5 ⟨rfl,hc5⟩
     exact k _ _ hc5 rfl
    refine Obs.cons none (by kernel_rfl) ?_ ?_
    ·refine Ob.plain fun a w hR hk K k=>?_
     obtain⟨_,e96,rfl⟩:=hk 96 (by decide)
     obtain⟨_,e101,rfl⟩:=hk 101 (by decide)
     clear hk
     go_simp
     exact k _ _ R0 rfl
    refine Obs.cons none (by kernel_rfl) ?_ ?_
    ·refine Ob.plain fun a w hR hk K k=>?_
     obtain⟨_,e102,f102⟩:=hk 102 (by decide)
     clear hk
     go_simp
     exact k _ _ R0 f102
    refine Obs.cons (some (103,true)) (by kernel_rfl) ?_ ?_
    ·refine Ob.yes (fun _ _ h=>h) fun a w hR hk K k=>?_
     obtain⟨_,e4,rfl⟩:=hk 4 (by decide)
     clear hk
     have z0:=bC (bE HB4.out.2.1 hR id) 0
     have z1:=bC (bE HB4.out.2.1 hR id) 1
     have z2:=bC (bE HB4.out.2.1 hR id) 2
     simp only[lA,lZ,lS]at z0 z1 z2
     go_simp
     exact k _ _ R0 rfl
    refine Obs.cons (some (103,true)) (by kernel_rfl) ?_ ?_
    ·refine Ob.yes (fun _ _ h=>h) fun a w hR hk K k=>?_
     obtain⟨_,e3,rfl⟩:=hk 3 (by decide)
     clear hk
     go_simp
     exact k _ _ R0 rfl
    refine Obs.cons (some (103,true)) (by kernel_rfl) ?_ ?_
    ·refine Ob.yes (fun _ _ h=>h) fun a w hR hk K k=>?_
     obtain⟨_,e105,rfl⟩:=hk 105 (by decide)
     clear hk
     have z0:=bC (bE HB4.out.2.2.1 hR id) 0
     have z1:=bC (bE HB4.out.2.2.1 hR id) 1
     have z2:=bC (bE HB4.out.2.2.1 hR id) 2
     simp only[lA,lZ,lS]at z0 z1 z2
     go_simp
     exact k _ _ R0 rfl
    refine Obs.cons (some (103,true)) (by kernel_rfl) ?_ ?_
    ·refine Ob.yes (fun _ _ h=>h) fun a w hR hk K k=>?_
     obtain⟨_,e104,rfl⟩:=hk 104 (by decide)
     obtain⟨_,e106,rfl⟩:=hk 106 (by decide)
     clear hk
     have hq:=HC107.out w hR
     go_simp
     refine hq.mono ?_
     rintro e w5 ⟨rfl,hc5⟩
     exact k _ _ hc5 rfl
    refine Obs.cons (some (103,true)) (by kernel_rfl) ?_ ?_
    ·refine Ob.yes (fun _ _ h=>h) fun a w hR hk K k=>?_
     obtain⟨_,e107,rfl⟩:=hk 107 (by decide)
     clear hk
     go_simp
     exact k _ _ R0 rfl
    refine Obs.cons none (by kernel_rfl) ?_ ?_
    ·refine Ob.plain fun a w hR hk K k=>?_
     obtain⟨_,e103,rfl⟩:=hk 103 (by decide)
     obtain⟨_,e108,rfl⟩:=hk 108 (by decide)
     clear hk
     go_simp
     exact k _ _ R0 rfl
    refine Obs.cons none (by kernel_rfl) ?_ ?_
    ·refine Ob.plain fun a w hR hk K k=>?_
     obtain⟨_,e109,f109⟩:=hk 109 (by decide)
     clear hk
     go_simp
     exact k _ _ R0 f109
    refine Obs.cons (some (110,true)) (by kernel_rfl) ?_ ?_
    ·refine Ob.yes (fun _ _ h=>h) fun a w hR hk K k=>?_
     obtain⟨_,e4,rfl⟩:=hk 4 (by decide)
     clear hk
     have z0:=bC (bE HB4.out.2.1 hR id) 0
     have z1:=bC (bE HB4.out.2.1 hR id) 1
     have z2:=bC (bE HB4.out.2.1 hR id) 2
     simp only[lA,lZ,lS]at z0 z1 z2
     go_simp
     exact k _ _ R0 rfl
    refine Obs.cons (some (110,true)) (by kernel_rfl) ?_ ?_
    ·refine Ob.yes (fun _ _ h=>h) fun a w hR hk K k=>?_
     obtain⟨_,e111,rfl⟩:=hk 111 (by decide)
     clear hk
     have hq:=HC112.out w hR
     go_simp
     refine hq.mono ?_
     rintro e w5 ⟨rfl,hc5⟩
     exact k _ _ hc5 rfl
    refine Obs.cons (some (110,true)) (by kernel_rfl) ?_ ?_
    ·refine Ob.yes (fun _ _ h=>h) fun a w hR hk K k=>?_
     obtain⟨_,e112,rfl⟩:=hk 112 (by decide)
     clear hk
     go_simp
     exact k _ _ R0 rfl
    refine Obs.cons none (by kernel_rfl) ?_ ?_
    ·refine Ob.plain fun a w hR hk K k=>?_
     obtain⟨_,e110,rfl⟩:=hk 110 (by decide)
     obtain⟨_,e113,rfl⟩:=hk 113 (by decide)
     clear hk
     go_simp
     exact k _ _ R0 rfl
    refine Obs.cons none (by kernel_rfl) ?_ ?_
    ·refine Ob.plain fun a w hR hk K k=>?_
     obtain⟨_,e114,f114⟩:=hk 114 (by decide)
     clear hk
     go_simp
     exact k _ _ R0 f114
    exact Obs.nil
   case fin9=>
    intro vals w15 hc15 hv
    have h0:vals 0 = .bool true:=hv 0 (by decide)
    simp only[putAll,List.setIfInBounds_toArray,List.set_cons_zero,List.set_cons_succ,h0]
    have HWE:=hid (HW14.out.trans hc15 (fun _ _ h=>h))
    clear hv hc15 h0
    go_wp2
    go_ret
    exact⟨rfl,HWE.out⟩
end Go.Proofs.YtkfinhpfdcjoeaaGreat
