/- Texts that the proof leans on, in one: PmBrings, PmBrought, PmHolds1, Shelf, NmHas, ShelfSort, NmSet. -/
import Derived.Test.YtanompfdjfgfbaaGreatMb23
import Derived.Shelf.Abstract
import Derived.Shelf.Slices.Turned
import Derived.Shelf.Slices.CompactS
import Derived.Shelf.Slices.Cells
import Derived.Shelf.Spec.SearchS
import Derived.Shelf.Spec.SlicesGrow
import Derived.Test.YtanompfdjfgfbaaGreatProg
import Derived.Test.YtanompfdjfgfbaaGreatMb16
import Derived.Shelf.Sort.Plain
import Derived.Shelf.Slices.In.SortNone
import Derived.Test.YtanompfdjfgfbaaGreatMb5
import Derived.Sort.OwnSorted
/- The functions that brought makes. -/
namespace Go.Proofs.YtanompfdjfgfbaaGreat
open Go.RowKit

/-- The function's value and the credential that they have. -/
structure Has2 (gf : Nat) (fi cap : Array Value) (c : CredB) (Fb Cb : Nat) (w : World) : Prop where
  f : w.heap[Fb]? = some (.cells #[.func (.func gf) fi cap] 33 (0, 0))
  c : w.heap[Cb]? = some (.cells (credBox c) 47 (0, 0))

theorem Has2.keep {gf : Nat} {fi cap : Array Value} {c : CredB} {Fb Cb : Nat} {w w' : World} (h : Has2 gf fi cap c Fb Cb w) (hc : Chg (fun _ => False) w w') : Has2 gf fi cap c Fb Cb w' := ⟨blk_keep h.f hc id, blk_keep h.c hc id⟩

theorem AskAt.later {gf : Nat} {fi cap : Array Value} {p : RoleB → List UInt8 → Bool} {w w' : World} (h : AskAt gf fi cap p w) (hc : Chg (fun _ => False) w w') : AskAt gf fi cap p w' := fun r s W h1 h2 h3 hW => h r s W h1 h2 h3 (hc.trans hW (fun _ _ h => h))

theorem AskAt.ask {gf : Nat} {fi cap : Array Value} {p : RoleB → List UInt8 → Bool} {w : World} (h : AskAt gf fi cap p w) (r : RoleB) (s : List UInt8) (W : World) (h1 : r.1.length ≤ 100000) (h2 : r.2.length ≤ 100000) (h3 : s.length ≤ 100000) (hW : Chg (fun _ => False) w W) :
    Calls Tryz.prog gf (fi ++ (#[.agg #[.string ⟨r.1.toArray⟩, .string ⟨r.2.toArray⟩], .string ⟨s.toArray⟩] ++ cap)) W fun e w' => e = .returned (.bool (p r s)) ∧ Chg (fun _ => False) W w' := by
  rw [← Array.append_assoc]
  exact h r s W h1 h2 h3 hW

section
variable {gf : Nat} {fi cap : Array Value} {c : CredB} {Fb Cb : Nat} {w : World} {p : RoleB → List UInt8 → Bool}

set_option maxRecDepth 100000 in
theorem pbr1 (h : Has2 gf fi cap c Fb Cb w) (hs : credShort c 100000) (eg : ∀ args w, (callFunc gf args).run Tryz.prog w = .ok (.enter gf args) w) (hp : AskAt gf fi cap p w) : TakesS 64 #[.pointer (some ⟨Fb, 0, none⟩), .pointer (some ⟨Cb, 0, none⟩)] (fun s => p c.b s) w := fun s W hl hW => by
  unfold credShort at hs
  have HT := hid (hp.ask c.b s W (by omega) (by omega) hl hW)
  have h2 := h.keep hW
  have z0 := cell_blk h2.f 0
  obtain ⟨c0, c1, c2, c3, c4, c5, c6, c7, c8⟩ := cred_at_blk h2.c
  simp only [Nat.zero_add, List.getElem?_toArray, List.getElem?_cons_zero] at z0 c0 c1 c2 c3 c4 c5 c6 c7 c8
  clear h hs hp hW h2
  show Calls Tryz.prog 64 #[.string ⟨s.toArray⟩, .pointer (some ⟨Fb, 0, none⟩), .pointer (some ⟨Cb, 0, none⟩)] W _
  go_enter Tryz.func64, Tryz.ntmps64
  go_wp2_with fail
  refine HT.out.mono ?_
  rintro e w5 ⟨rfl, hc5⟩
  have HK := hid hc5
  clear hc5 HT z0 c0 c1 c2 c3 c4 c5 c6 c7 c8
  go_wp2
  go_ret
  exact ⟨rfl, HK.out⟩

set_option maxRecDepth 100000 in
theorem pbr2 (h : Has2 gf fi cap c Fb Cb w) (hs : credShort c 100000) (eg : ∀ args w, (callFunc gf args).run Tryz.prog w = .ok (.enter gf args) w) (hp : AskAt gf fi cap p w) : TakesS 65 #[.pointer (some ⟨Fb, 0, none⟩), .pointer (some ⟨Cb, 0, none⟩)] (fun s => p c.b s) w := fun s W hl hW => by
  unfold credShort at hs
  have HT := hid (hp.ask c.b s W (by omega) (by omega) hl hW)
  have h2 := h.keep hW
  have z0 := cell_blk h2.f 0
  obtain ⟨c0, c1, c2, c3, c4, c5, c6, c7, c8⟩ := cred_at_blk h2.c
  simp only [Nat.zero_add, List.getElem?_toArray, List.getElem?_cons_zero] at z0 c0 c1 c2 c3 c4 c5 c6 c7 c8
  clear h hs hp hW h2
  show Calls Tryz.prog 65 #[.string ⟨s.toArray⟩, .pointer (some ⟨Fb, 0, none⟩), .pointer (some ⟨Cb, 0, none⟩)] W _
  go_enter Tryz.func65, Tryz.ntmps65
  go_wp2_with fail
  refine HT.out.mono ?_
  rintro e w5 ⟨rfl, hc5⟩
  have HK := hid hc5
  clear hc5 HT z0 c0 c1 c2 c3 c4 c5 c6 c7 c8
  go_wp2
  go_ret
  exact ⟨rfl, HK.out⟩

set_option maxRecDepth 100000 in
theorem pbr4 (h : Has2 gf fi cap c Fb Cb w) (hs : credShort c 100000) (eg : ∀ args w, (callFunc gf args).run Tryz.prog w = .ok (.enter gf args) w) (hp : AskAt gf fi cap p w) : TakesS 69 #[.pointer (some ⟨Fb, 0, none⟩), .pointer (some ⟨Cb, 0, none⟩)] (fun s => p c.b s && p c.c s) w := fun s W hl hW => by
  unfold credShort at hs
  have HT := hid (hp.ask c.b s W (by omega) (by omega) hl hW)
  have h2 := h.keep hW
  have z0 := cell_blk h2.f 0
  obtain ⟨c0, c1, c2, c3, c4, c5, c6, c7, c8⟩ := cred_at_blk h2.c
  simp only [Nat.zero_add, List.getElem?_toArray, List.getElem?_cons_zero] at z0 c0 c1 c2 c3 c4 c5 c6 c7 c8
  have HH := hid (And.intro hs (And.intro hp (And.intro hW (And.intro h2 hl))))
  clear h hs hp hW h2 hl
  show Calls Tryz.prog 69 #[.string ⟨s.toArray⟩, .pointer (some ⟨Fb, 0, none⟩), .pointer (some ⟨Cb, 0, none⟩)] W _
  go_enter Tryz.func69, Tryz.ntmps69
  go_wp2_with fail
  refine HT.out.mono ?_
  rintro e w5 ⟨rfl, hc5⟩
  have HK := hid hc5
  clear HT z0 c0 c1 c2 c3 c4 c5 c6 c7 c8
  cases hb : p c.b s with
  | false =>
    have HB := hid hb
    clear hb hc5
    go_wp2
    go_ret
    exact ⟨by rw [HB.out]; rfl, HK.out⟩
  | true =>
    have h5 := HH.out.2.2.2.1.keep hc5
    have z0 := cell_blk h5.f 0
    obtain ⟨c0, c1, c2, c3, c4, c5, c6, c7, c8⟩ := cred_at_blk h5.c
    simp only [Nat.zero_add, List.getElem?_toArray, List.getElem?_cons_zero] at z0 c0 c1 c2 c3 c4 c5 c6 c7 c8
    have HT2 := hid (HH.out.2.1.ask c.c s w5 (by have := HH.out.1; omega) (by have := HH.out.1; omega) HH.out.2.2.2.2 (HH.out.2.2.1.trans hc5 (fun _ _ h => h)))
    have HB := hid hb
    clear hb hc5 h5
    go_wp2_with fail
    refine HT2.out.mono ?_
    rintro e w6 ⟨rfl, hc6⟩
    have HK6 := hid (HK.out.trans hc6 (fun _ _ h => h))
    clear hc6 HT2 z0 c0 c1 c2 c3 c4 c5 c6 c7 c8
    go_wp2
    go_ret
    exact ⟨by rw [HB.out]; rfl, HK6.out⟩

set_option maxRecDepth 100000 in
/-- Who is in the role Word2 of b? (Sb: the name's block.) -/
theorem pbr31 {s : List UInt8} {Sb : Nat} (hl0 : s.length ≤ 100000) (h : Has2 gf fi cap c Fb Cb w) (hS : w.heap[Sb]? = some (.cells #[.string ⟨s.toArray⟩] 9 (0, 0))) (hs : credShort c 100000) (eg : ∀ args w, (callFunc gf args).run Tryz.prog w = .ok (.enter gf args) w) (hp : AskAt gf fi cap p w) :
    TakesS 68 #[.pointer (some ⟨Fb, 0, none⟩), .pointer (some ⟨Cb, 0, none⟩), .pointer (some ⟨Sb, 0, none⟩)] (fun b => p (b, c.w2) s) w := fun b W hl hW => by
  unfold credShort at hs
  have HT := hid (hp.ask (b, c.w2) s W hl (by show c.w2.length ≤ _; omega) hl0 hW)
  have h2 := h.keep hW
  have z0 := cell_blk h2.f 0
  have z1 := cell_blk (blk_keep hS hW id) 0
  obtain ⟨c0, c1, c2, c3, c4, c5, c6, c7, c8⟩ := cred_at_blk h2.c
  simp only [Nat.zero_add, List.getElem?_toArray, List.getElem?_cons_zero] at z0 z1 c0 c1 c2 c3 c4 c5 c6 c7 c8
  clear h hs hp hW h2 hS hl hl0
  show Calls Tryz.prog 68 #[.string ⟨b.toArray⟩, .pointer (some ⟨Fb, 0, none⟩), .pointer (some ⟨Cb, 0, none⟩), .pointer (some ⟨Sb, 0, none⟩)] W _
  go_enter Tryz.func68, Tryz.ntmps68
  go_wp2_with fail
  refine HT.out.mono ?_
  rintro e w5 ⟨rfl, hc5⟩
  have HK := hid hc5
  clear hc5 HT z0 z1 c0 c1 c2 c3 c4 c5 c6 c7 c8
  go_wp2
  go_ret
  exact ⟨rfl, HK.out⟩

set_option maxRecDepth 100000 in
/-- Is somebody in the role Word2 of one of those that are in B? (Tb: their list's block.) -/
theorem pbr3 {D : Nat → Prop} {ts : List (List UInt8)} {Tb : Nat} {ao : Option Addr} {cp : Nat} (htn : ts.length ≤ 100000) (hts : ∀ x ∈ ts, x.length ≤ 100000) (h : Has2 gf fi cap c Fb Cb w) (hT : w.heap[Tb]? = some (.cells #[.slice ao ts.length cp] 36 (0, 0))) (hst : StrsAt D w ao ts) (hs : credShort c 100000) (eg : ∀ args w, (callFunc gf args).run Tryz.prog w = .ok (.enter gf args) w) (hp : AskAt gf fi cap p w) :
    TakesS 66 #[.pointer (some ⟨Tb, 0, none⟩), .pointer (some ⟨Fb, 0, none⟩), .pointer (some ⟨Cb, 0, none⟩)] (fun s => ts.any (fun b => p (b, c.w2) s)) w := fun s W hl hW => by
  have hW1 : Chg (fun _ => False) W (W.alloc (.cells #[.string ⟨s.toArray⟩] 9)) := (Chg.refl _ W).alloc _
  have hWW := hW.trans hW1 (fun _ _ h => h)
  have HT := hid (pcontainsFunc 68 #[.pointer (some ⟨Fb, 0, none⟩), .pointer (some ⟨Cb, 0, none⟩), .pointer (some ⟨W.heap.size, 0, none⟩)] (fun b => p (b, c.w2) s) ao cp ts (W.alloc (.cells #[.string ⟨s.toArray⟩] 9)) htn hts (hst.keep hWW (fun _ _ => id)) (enters_of Tryz.func68 (by kernel_rfl) rfl)
    (pbr31 hl (h.keep hWW) (heap_alloc_new W _) hs eg (hp.later hWW)))
  have z1 := cell_blk (blk_keep hT hWW id) 0
  simp only [List.getElem?_toArray, List.getElem?_cons_zero] at z1
  have HC := hid hW1
  have hmf : ∀ (fn : Fn) (first cap : Array Value) (w : World), (Instr.makeFunc fn first cap).run Tryz.prog w = .ok (.func fn first cap) w := fun _ _ _ _ => rfl
  clear h hs hp hW hT hst hW1 hWW hl htn hts eg
  show Calls Tryz.prog 66 #[.string ⟨s.toArray⟩, .pointer (some ⟨Tb, 0, none⟩), .pointer (some ⟨Fb, 0, none⟩), .pointer (some ⟨Cb, 0, none⟩)] W _
  go_enter Tryz.func66, Tryz.ntmps66
  go_wp2_with fail
  refine HT.out.mono ?_
  rintro e w5 ⟨rfl, hc5⟩
  have HK := hid (HC.out.trans hc5 (fun _ _ h => h))
  clear hc5 HT z1
  go_wp2
  go_ret
  exact ⟨rfl, HK.out⟩
end
end Go.Proofs.YtanompfdjfgfbaaGreat

/- Whom a credential brings by one step. -/
namespace Go.Proofs.YtanompfdjfgfbaaGreat
open Go.RowKit

/-- Whom c brings, of the names ns. -/
def brS (p : RoleB → List UInt8 → Bool) (c : CredB) (ns : List (List UInt8)) : List (List UInt8) :=
  if c.kind = 1 then [c.who] else if c.kind = 2 then ns.filter (fun s => p c.b s) else if c.kind = 3 then ns.filter (fun s => ns.any (fun b => p c.b b && p (b, c.w2) s)) else ns.filter (fun s => p c.b s && p c.c s)
theorem brS_1 {p : RoleB → List UInt8 → Bool} {c : CredB} {ns : List (List UInt8)} (h : c.kind = 1) : brS p c ns = [c.who] := by unfold brS; rw [if_pos h]
theorem brS_2 {p : RoleB → List UInt8 → Bool} {c : CredB} {ns : List (List UInt8)} (h : c.kind = 2) : brS p c ns = ns.filter (fun s => p c.b s) := by unfold brS; rw [if_neg (by omega), if_pos h]
theorem brS_3 {p : RoleB → List UInt8 → Bool} {c : CredB} {ns : List (List UInt8)} (h : c.kind = 3) : brS p c ns = ns.filter (fun s => ns.any (fun b => p c.b b && p (b, c.w2) s)) := by unfold brS; rw [if_neg (by omega), if_neg (by omega), if_pos h]
theorem brS_4 {p : RoleB → List UInt8 → Bool} {c : CredB} {ns : List (List UInt8)} (h : c.kind = 4) : brS p c ns = ns.filter (fun s => p c.b s && p c.c s) := by unfold brS; rw [if_neg (by omega), if_neg (by omega), if_neg (by omega)]

set_option maxRecDepth 100000 in
set_option maxHeartbeats 2000000 in
theorem pbrought {D : Nat → Prop} (gf : Nat) (fi cap : Array Value) (p : RoleB → List UInt8 → Bool) (c : CredB) (no : Option Addr) (np : Nat) (ns : List (List UInt8)) (w : World) (hc : isCred c = true) (hcs : credShort c 100000) (hn : ns.length ≤ 100000) (hs : ∀ x ∈ ns, x.length ≤ 100000) (hst : StrsAt D w no ns) (eg : ∀ args w, (callFunc gf args).run Tryz.prog w = .ok (.enter gf args) w) (hp : AskAt gf fi cap p w) :
    Calls Tryz.prog 40 #[.agg #[.int .i64 c.kind, .string ⟨c.head.1.toArray⟩, .string ⟨c.head.2.toArray⟩, .string ⟨c.who.toArray⟩, .string ⟨c.b.1.toArray⟩, .string ⟨c.b.2.toArray⟩, .string ⟨c.c.1.toArray⟩, .string ⟨c.c.2.toArray⟩, .string ⟨c.w2.toArray⟩], .func (.func gf) fi cap, .slice no ns.length np] w (ThosePost (brS p c ns) w) := by
  have hmf : ∀ (fn : Fn) (first cap : Array Value) (w : World), (Instr.makeFunc fn first cap).run Tryz.prog w = .ok (.func fn first cap) w := fun _ _ _ _ => rfl
  have hc2 : Chg (fun _ => False) w ((w.alloc (.cells #[.int .i64 c.kind, .string ⟨c.head.1.toArray⟩, .string ⟨c.head.2.toArray⟩, .string ⟨c.who.toArray⟩, .string ⟨c.b.1.toArray⟩, .string ⟨c.b.2.toArray⟩, .string ⟨c.c.1.toArray⟩, .string ⟨c.c.2.toArray⟩, .string ⟨c.w2.toArray⟩] 47)).alloc (.cells #[.func (.func gf) fi cap] 33)) := ((Chg.refl _ w).alloc _).alloc _
  have hbC : ((w.alloc (.cells #[.int .i64 c.kind, .string ⟨c.head.1.toArray⟩, .string ⟨c.head.2.toArray⟩, .string ⟨c.who.toArray⟩, .string ⟨c.b.1.toArray⟩, .string ⟨c.b.2.toArray⟩, .string ⟨c.c.1.toArray⟩, .string ⟨c.c.2.toArray⟩, .string ⟨c.w2.toArray⟩] 47)).alloc (.cells #[.func (.func gf) fi cap] 33)).heap[w.heap.size]? = some (.cells (credBox c) 47 (0, 0)) := blk_keep (heap_alloc_new w (.cells #[.int .i64 c.kind, .string ⟨c.head.1.toArray⟩, .string ⟨c.head.2.toArray⟩, .string ⟨c.who.toArray⟩, .string ⟨c.b.1.toArray⟩, .string ⟨c.b.2.toArray⟩, .string ⟨c.c.1.toArray⟩, .string ⟨c.c.2.toArray⟩, .string ⟨c.w2.toArray⟩] 47)) ((Chg.refl (fun _ => False) _).alloc (.cells #[.func (.func gf) fi cap] 33)) id
  have hbF : ((w.alloc (.cells #[.int .i64 c.kind, .string ⟨c.head.1.toArray⟩, .string ⟨c.head.2.toArray⟩, .string ⟨c.who.toArray⟩, .string ⟨c.b.1.toArray⟩, .string ⟨c.b.2.toArray⟩, .string ⟨c.c.1.toArray⟩, .string ⟨c.c.2.toArray⟩, .string ⟨c.w2.toArray⟩] 47)).alloc (.cells #[.func (.func gf) fi cap] 33)).heap[w.heap.size + 1]? = some (.cells #[.func (.func gf) fi cap] 33 (0, 0)) := by
    have := heap_alloc_new (w.alloc (.cells #[.int .i64 c.kind, .string ⟨c.head.1.toArray⟩, .string ⟨c.head.2.toArray⟩, .string ⟨c.who.toArray⟩, .string ⟨c.b.1.toArray⟩, .string ⟨c.b.2.toArray⟩, .string ⟨c.c.1.toArray⟩, .string ⟨c.c.2.toArray⟩, .string ⟨c.w2.toArray⟩] 47)) (.cells #[.func (.func gf) fi cap] 33)
    have e : (w.alloc (.cells #[.int .i64 c.kind, .string ⟨c.head.1.toArray⟩, .string ⟨c.head.2.toArray⟩, .string ⟨c.who.toArray⟩, .string ⟨c.b.1.toArray⟩, .string ⟨c.b.2.toArray⟩, .string ⟨c.c.1.toArray⟩, .string ⟨c.c.2.toArray⟩, .string ⟨c.w2.toArray⟩] 47)).heap.size = w.heap.size + 1 := by simp
    rw [e] at this
    exact this
  have h2 : Has2 gf fi cap c (w.heap.size + 1) w.heap.size ((w.alloc (.cells #[.int .i64 c.kind, .string ⟨c.head.1.toArray⟩, .string ⟨c.head.2.toArray⟩, .string ⟨c.who.toArray⟩, .string ⟨c.b.1.toArray⟩, .string ⟨c.b.2.toArray⟩, .string ⟨c.c.1.toArray⟩, .string ⟨c.c.2.toArray⟩, .string ⟨c.w2.toArray⟩] 47)).alloc (.cells #[.func (.func gf) fi cap] 33)) := ⟨hbF, hbC⟩
  have hst2 := hst.keep hc2 (fun _ _ => id)
  have hp2 := hp.later hc2
  obtain ⟨c0, c1, c2, c3, c4, c5, c6, c7, c8⟩ := cred_at_blk hbC
  simp only [Nat.zero_add] at c0 c1 c2 c3 c4 c5 c6 c7 c8
  have HC := hid hc2
  have hkk := isCred_kind hc
  clear hc2 hbC hbF hc
  rcases hkk with hk | hk | hk | hk
  · have d2 : (c.kind == 2) = false := by rw [hk]; rfl
    have d3 : (c.kind == 3) = false := by rw [hk]; rfl
    have d4 : (c.kind == 4) = false := by rw [hk]; rfl
    have HK := hid hk
    have hwl : c.who.length ≤ 100000 := by unfold credShort at hcs; omega
    clear hk hst2 h2 hp2 hp hs hn hst hcs
    go_enter Tryz.func40, Tryz.ntmps40
    go_wp2
    go_ret
    have hs2 := HC.out.size
    have e9 : ((w.alloc (.cells #[.int .i64 c.kind, .string ⟨c.head.1.toArray⟩, .string ⟨c.head.2.toArray⟩, .string ⟨c.who.toArray⟩, .string ⟨c.b.1.toArray⟩, .string ⟨c.b.2.toArray⟩, .string ⟨c.c.1.toArray⟩, .string ⟨c.c.2.toArray⟩, .string ⟨c.w2.toArray⟩] 47)).alloc (.cells #[.func (.func gf) fi cap] 33)).heap.size = w.heap.size + 2 := by simp
    refine ⟨some ⟨w.heap.size + 1 + 1, 0, none⟩, 1, ?_, ?_, HC.out.alloc _⟩
    · rw [brS_1 HK.out]
      rfl
    · rw [brS_1 HK.out]
      intro i hi
      have : i = 0 := by simp at hi; omega
      subst this
      have hb := heap_alloc_new ((w.alloc (.cells #[.int .i64 c.kind, .string ⟨c.head.1.toArray⟩, .string ⟨c.head.2.toArray⟩, .string ⟨c.who.toArray⟩, .string ⟨c.b.1.toArray⟩, .string ⟨c.b.2.toArray⟩, .string ⟨c.c.1.toArray⟩, .string ⟨c.c.2.toArray⟩, .string ⟨c.w2.toArray⟩] 47)).alloc (.cells #[.func (.func gf) fi cap] 33)) (.cells #[.string ⟨c.who.toArray⟩] 9)
      rw [e9] at hb
      exact ⟨w.heap.size + 2, 0, rfl, ⟨by omega, by simp⟩, cell_blk hb 0, by simp; omega⟩
  · have d2 : (c.kind == 2) = true := by rw [hk]; rfl
    have d3 : (c.kind == 3) = false := by rw [hk]; rfl
    have d4 : (c.kind == 4) = false := by rw [hk]; rfl
    have HP := hid (pthose 64 #[.pointer (some ⟨w.heap.size + 1, 0, none⟩), .pointer (some ⟨w.heap.size, 0, none⟩)] (fun s => p c.b s) no np ns ((w.alloc (.cells #[.int .i64 c.kind, .string ⟨c.head.1.toArray⟩, .string ⟨c.head.2.toArray⟩, .string ⟨c.who.toArray⟩, .string ⟨c.b.1.toArray⟩, .string ⟨c.b.2.toArray⟩, .string ⟨c.c.1.toArray⟩, .string ⟨c.c.2.toArray⟩, .string ⟨c.w2.toArray⟩] 47)).alloc (.cells #[.func (.func gf) fi cap] 33)) hn hs hst2 (enters_of Tryz.func64 (by kernel_rfl) rfl) (pbr1 h2 hcs eg hp2))
    have HK := hid hk
    clear hk hst2 h2 hp2 hp hs hn hst hcs
    go_enter Tryz.func40, Tryz.ntmps40
    go_wp2_with fail
    refine HP.out.mono ?_
    rintro e w5 ⟨ao, cp, rfl, h1, h3⟩
    have HR := hid (And.intro h1 h3)
    clear h1 h3 HP c0 c1 c2 c3 c4 c5 c6 c7 c8
    go_wp2
    go_ret
    have hs2 := HC.out.size
    refine ⟨ao, cp, ?_, ?_, HC.out.trans HR.out.2 (fun _ _ h => h)⟩
    · rw [brS_2 HK.out]
      rfl
    · rw [brS_2 HK.out]
      exact HR.out.1.mono (fun i hi => ⟨Nat.le_trans hs2 hi.1, hi.2⟩)
  · have d2 : (c.kind == 2) = false := by rw [hk]; rfl
    have d3 : (c.kind == 3) = true := by rw [hk]; rfl
    have HP := hid (pthose 65 #[.pointer (some ⟨w.heap.size + 1, 0, none⟩), .pointer (some ⟨w.heap.size, 0, none⟩)] (fun s => p c.b s) no np ns ((w.alloc (.cells #[.int .i64 c.kind, .string ⟨c.head.1.toArray⟩, .string ⟨c.head.2.toArray⟩, .string ⟨c.who.toArray⟩, .string ⟨c.b.1.toArray⟩, .string ⟨c.b.2.toArray⟩, .string ⟨c.c.1.toArray⟩, .string ⟨c.c.2.toArray⟩, .string ⟨c.w2.toArray⟩] 47)).alloc (.cells #[.func (.func gf) fi cap] 33)) hn hs hst2 (enters_of Tryz.func65 (by kernel_rfl) rfl) (pbr2 h2 hcs eg hp2))
    have HK := hid hk
    have HB := hid (And.intro hn (And.intro hs (And.intro hst2 (And.intro h2 (And.intro hcs hp2)))))
    clear hk hst2 h2 hp2 hp hs hn hst hcs
    go_enter Tryz.func40, Tryz.ntmps40
    go_wp2_with fail
    refine HP.out.mono ?_
    rintro e w5 ⟨ao, cp, rfl, h1, h3⟩
    have hw6 : Chg (fun _ => False) w5 (w5.alloc (.cells #[.slice ao (ns.filter (fun s => p c.b s)).length cp] 36)) := (Chg.refl _ w5).alloc _
    have h36 := h3.trans hw6 (fun _ _ h => h)
    have hfl : (ns.filter (fun s => p c.b s)).length ≤ 100000 := Nat.le_trans (List.length_filter_le _ _) HB.out.1
    have HP2 := hid (pthose 66 #[.pointer (some ⟨w5.heap.size, 0, none⟩), .pointer (some ⟨w.heap.size + 1, 0, none⟩), .pointer (some ⟨w.heap.size, 0, none⟩)] (fun s => (ns.filter (fun s => p c.b s)).any (fun b => p (b, c.w2) s)) no np ns _ HB.out.1 HB.out.2.1 (HB.out.2.2.1.keep h36 (fun _ _ => id)) (enters_of Tryz.func66 (by kernel_rfl) rfl)
      (pbr3 hfl (fun x hx => HB.out.2.1 x (List.mem_filter.1 hx).1) (HB.out.2.2.2.1.keep h36) (heap_alloc_new w5 _) (h1.keep hw6 (fun _ _ => id)) HB.out.2.2.2.2.1 eg (HB.out.2.2.2.2.2.later h36)))
    have HR := hid h36
    clear h1 h3 hw6 h36 hfl HP c0 c1 c2 c3 c4 c5 c6 c7 c8
    go_wp2_with fail
    refine HP2.out.mono ?_
    rintro e w7 ⟨ao2, cp2, rfl, h1, h3⟩
    simp only [List.any_filter] at h1 ⊢
    have HR2 := hid (And.intro h1 (HR.out.trans h3 (fun _ _ h => h)))
    have HRS := hid HR.out.size
    clear h1 h3 HP2
    go_wp2
    go_ret
    have hs2 := HC.out.size
    refine ⟨ao2, cp2, ?_, ?_, HC.out.trans HR2.out.2 (fun _ _ h => h)⟩
    · rw [brS_3 HK.out]
      rfl
    · rw [brS_3 HK.out]
      exact HR2.out.1.mono (fun i hi => ⟨by have := HRS.out; omega, hi.2⟩)
  · have d2 : (c.kind == 2) = false := by rw [hk]; rfl
    have d3 : (c.kind == 3) = false := by rw [hk]; rfl
    have d4 : (c.kind == 4) = true := by rw [hk]; rfl
    have HP := hid (pthose 69 #[.pointer (some ⟨w.heap.size + 1, 0, none⟩), .pointer (some ⟨w.heap.size, 0, none⟩)] (fun s => p c.b s && p c.c s) no np ns ((w.alloc (.cells #[.int .i64 c.kind, .string ⟨c.head.1.toArray⟩, .string ⟨c.head.2.toArray⟩, .string ⟨c.who.toArray⟩, .string ⟨c.b.1.toArray⟩, .string ⟨c.b.2.toArray⟩, .string ⟨c.c.1.toArray⟩, .string ⟨c.c.2.toArray⟩, .string ⟨c.w2.toArray⟩] 47)).alloc (.cells #[.func (.func gf) fi cap] 33)) hn hs hst2 (enters_of Tryz.func69 (by kernel_rfl) rfl) (pbr4 h2 hcs eg hp2))
    have HK := hid hk
    clear hk hst2 h2 hp2 hp hs hn hst hcs
    go_enter Tryz.func40, Tryz.ntmps40
    go_wp2_with fail
    refine HP.out.mono ?_
    rintro e w5 ⟨ao, cp, rfl, h1, h3⟩
    have HR := hid (And.intro h1 h3)
    clear h1 h3 HP c0 c1 c2 c3 c4 c5 c6 c7 c8
    go_wp2
    go_ret
    have hs2 := HC.out.size
    refine ⟨ao, cp, ?_, ?_, HC.out.trans HR.out.2 (fun _ _ h => h)⟩
    · rw [brS_4 HK.out]
      rfl
    · rw [brS_4 HK.out]
      exact HR.out.1.mono (fun i hi => ⟨Nat.le_trans hs2 hi.1, hi.2⟩)
end Go.Proofs.YtanompfdjfgfbaaGreat

/- The function that Holds defers, where nothing has panicked. -/
namespace Go.Proofs.YtanompfdjfgfbaaGreat
open Go.RowKit

theorem neq20_nil8 (w : World) : (binOp .neq 20 .nilIface .nilIface).run Tryz.prog w = .ok (.bool false) w := by kernel_rfl

theorem postS_end8 {fn : Func} {c₀ : Frame} {cs : List Frame} {R : Ending → FrameMode → World → Prop} {u : FrameMode} {t : Array Value} {w : World} (hr : fn.results = #[]) (h : R (.returned (.tuple #[])) u w) :
    bodyPostS Tryz.prog fn c₀ cs R .normal { tmps := t, defers := [] } ({ c₀ with mode := u } :: cs) w :=
  ⟨rfl, u, rfl, .tuple #[], results_none hr _ _ _, h⟩

theorem mode_self8 {c : Frame} {u : FrameMode} (h : c.mode = u) : ({ c with mode := u } : Frame) = c := by
  subst h
  rfl

set_option maxRecDepth 100000 in
theorem holds1_idle (R : Nat) (w : World) :
    CallsD Tryz.prog 39 #[.pointer (some ⟨R, 0, none⟩)] .returning w fun e u' w' => e = .returned (.tuple #[]) ∧ u' = .returning ∧ w' = w := by
  refine callsD_of_wpS Tryz.func39 rfl fun c₀ cs hu => ?_
  simp only [Tryz.ntmps39, List.size_toArray, List.length_cons, List.length_nil, Nat.reduceAdd, Nat.reduceSub, Array.replicate_succ, Array.replicate_zero, List.push_toArray, List.append_toArray, List.nil_append, List.cons_append]
  have hq := neq20_nil8
  apply wpS_seq
  apply wpS_region
  simp [wpOpsS, go_sem, recoverD, hu, Exit.thenS, hq]
  refine wpS_of_wp ?_
  have HU := hid (mode_self8 hu)
  clear hu
  go_wp2
  rw [← HU.out]
  exact postS_end8 rfl ⟨rfl, rfl, rfl⟩
end Go.Proofs.YtanompfdjfgfbaaGreat

/-
  DERIVED: THE SHELF's CONTRACTS AT THIS DUMP, IN PLAIN WORDS (tools/lay-plain.mjs out of 'TryzShelfA.lean', which tools/lay-shelf.mjs wrote): THE SAME DECLARATIONS UNDER THE SAME NAMES: 'import', 'namespace', 'open', 'def', 'theorem' AND NOTHING ELSE: no command of the shelf's: FOR A HAND-IN. Each laying: the table of numbers ('.._ren') and one theorem, a field a fact of the dump's own or the kernel's comparison; each contract: ONE APPLICATION.
-/
namespace Go.Proofs
open Go.Shelf
def Tryz.lays194_ren : Go.Shelf.Ren := ⟨fun | 194 => 70 | n => n, fun | 31 => 36 | 9 => 9 | 3 => 3 | 4 => 4 | 0 => 0 | n => n, fun | n => n⟩
theorem Tryz.lays194 : Go.Proofs.Lays.n194 Tryz.prog Tryz.lays194_ren := {
  mixed := by kernel_rfl
  f194 := Tryz.func70.trans (congrArg some (by kernel_rfl))
  t0 := Tryz.underlying0
  a0 := Tryz.isAgg0
  z0 := Tryz.sizeOf0
  v0 := Tryz.zeroValue0
  t3 := Tryz.underlying3
  a3 := Tryz.isAgg3
  z3 := Tryz.sizeOf3
  v3 := Tryz.zeroValue3
  t4 := Tryz.underlying4
  a4 := Tryz.isAgg4
  z4 := Tryz.sizeOf4
  v4 := Tryz.zeroValue4
  t9 := Tryz.underlying9
  a9 := Tryz.isAgg9
  z9 := Tryz.sizeOf9
  v9 := Tryz.zeroValue9
  t31 := Tryz.underlying36
  a31 := Tryz.isAgg36
  z31 := Tryz.sizeOf36
  v31 := Tryz.zeroValue36 }
open Go.RowKit Go.Lib Go.Sort in
/-- slices.Compact at []string, over an array: the library's two loops are walked. (LAID: no walk: one application.) -/
theorem Tryz.slices_Compact_string_arr (blk off cap : Nat) (d : Array (List UInt8)) (w : World) (hH : Holds encStr w blk off d) (hsz : d.size ≤ 9223372036854775807) (hcap : d.size ≤ cap) :
    Calls Tryz.prog 70 #[.slice (some ⟨blk, off, none⟩) d.size cap] w fun e w' => e = .returned (.slice (some ⟨blk, off, none⟩) (compactUpTo d d.size).length cap) ∧ ∃ q, w' = putRow encStr (Sort.ahead w q) blk off (compactUpTo d d.size ++ List.replicate (d.size - (compactUpTo d d.size).length) []).toArray := Any.slices_Compact_string_arr Tryz.lays194 blk off cap d w hH hsz hcap
open Go.RowKit Go.Lib Go.Sort in
/-- slices.Compact at []string: "Compact replaces consecutive runs of equal elements with a single copy. This is like the uniq command found on Unix. Compact modifies the contents of the slice s and returns the modified slice, which may have a smaller length. Compact zeroes the elements between the new length and the original length. The result preserves the nilness of s.": IT RETURNS THE SLICE CUT TO 'Lib.compact zs'; ITS CELLS HOLD 'Lib.compact zs', THEN ZERO VALUES up to the old length; all else is as it was, but for the count of draws. IN THE WORDS OF slices.Sort's CONTRACT ('Holds', 'putRow'): so the everyday 'slices.Sort(xs); xs = slices.Compact(xs)' goes from the one contract to the other. It asks 'zs.length ≤ cap' (every slice's: the reslicing 's[:k]' looks at it). Length 0, nil: '.._empty'. (LAID: no walk: one application.) -/
theorem Tryz.slices_Compact_string (blk off cap : Nat) (zs : List (List UInt8)) (w : World) (hH : Holds encStr w blk off zs.toArray) (hsz : zs.length ≤ 9223372036854775807) (hcap : zs.length ≤ cap) :
    Calls Tryz.prog 70 #[.slice (some ⟨blk, off, none⟩) zs.length cap] w fun e w' => e = .returned (.slice (some ⟨blk, off, none⟩) (Lib.compact zs).length cap) ∧ ∃ q, w' = putRow encStr (Sort.ahead w q) blk off (Lib.compact zs ++ List.replicate (zs.length - (Lib.compact zs).length) []).toArray := Any.slices_Compact_string Tryz.lays194 blk off cap zs w hH hsz hcap
open Go.RowKit Go.Lib Go.Sort in
/-- The same at a slice of length 0, a nil one too: it comes back as it is. (LAID: no walk: one application.) -/
theorem Tryz.slices_Compact_string_empty (a : Option Addr) (cap : Nat) (w : World) :
    Calls Tryz.prog 70 #[.slice a 0 cap] w fun e w' => e = .returned (.slice a 0 cap) ∧ w' = w := Any.slices_Compact_string_empty Tryz.lays194 a cap w
open Go.RowKit Go.Lib Go.Sort in
/-- slices.Compact at []string, of an argument. (LAID: no walk: one application.) -/
theorem Tryz.slices_Compact_string_cells (b off n c : Nat) (Sx : Nat → ByteArray) (w : World) (hbig : n ≤ 9223372036854775807) (hcap : n ≤ c) (hc : ∀ i, i < n → w.cell? ⟨b, off + i, none⟩ = some (.string (Sx i))) (hf : ∀ j, j < n → w.frozen? ⟨b, off + j, none⟩ = false) :
    Calls Tryz.prog 70 #[.slice (some ⟨b, off, none⟩) n c] w fun e w' => e = .returned (.slice (some ⟨b, off, none⟩) (Lib.compact (Lib.strsOf Sx n)).length c) ∧ ∃ q, w' = (w.drewN q).setCells b off ((Lib.compact (Lib.strsOf Sx n) ++ List.replicate (n - (Lib.compact (Lib.strsOf Sx n)).length) []).map encStr) := Any.slices_Compact_string_cells Tryz.lays194 b off n c Sx w hbig hcap hc hf
end Go.Proofs

/- The contracts of slices.Contains, of the search in a set, and of the program's Has. -/
namespace Go.Proofs.YtanompfdjfgfbaaGreat
open Go.RowKit

theorem contains_map (ls : List (List UInt8)) (s : List UInt8) : Lib.containsS (ls.map fun l => (⟨l.toArray⟩ : ByteArray)) ⟨s.toArray⟩ = hasS ls s := by
  have h : Lib.containsS (ls.map fun l => (⟨l.toArray⟩ : ByteArray)) ⟨s.toArray⟩ = true ↔ hasS ls s = true := by
    rw [Lib.containsS_iff]
    simp only [hasS, List.contains_eq_mem, decide_eq_true_eq, List.mem_map]
    exact ⟨fun ⟨x, hx, e⟩ => by
      have : x = s := by simpa using congrArg (fun b : ByteArray => b.data.toList) e
      exact this ▸ hx, fun h => ⟨s, h, rfl⟩⟩
  cases h1 : hasS ls s with
  | true => exact h.2 h1
  | false =>
    cases h2 : Lib.containsS (ls.map fun l => (⟨l.toArray⟩ : ByteArray)) ⟨s.toArray⟩ with
    | false => rfl
    | true => rw [h.1 h2] at h1; cases h1

/-- Is it in it, by the right ones? -/
def hasN (ls : List (List UInt8)) (s : List UInt8) : Bool := isName s && hasS ls s

end Go.Proofs.YtanompfdjfgfbaaGreat

/-
  DERIVED: THE SHELF's CONTRACTS AT THIS DUMP, IN PLAIN WORDS (tools/lay-plain.mjs out of 'TryzShelfB9.lean', which tools/lay-shelf.mjs wrote): THE SAME DECLARATIONS UNDER THE SAME NAMES: 'import', 'namespace', 'open', 'def', 'theorem' AND NOTHING ELSE: no command of the shelf's: FOR A HAND-IN. Each laying: the table of numbers ('.._ren') and one theorem, a field a fact of the dump's own or the kernel's comparison; each contract: ONE APPLICATION.
-/
namespace Go.Proofs
open Go.Shelf
def Tryz.lays190_ren : Go.Shelf.Ren := ⟨fun | 190 => 50 | 125 => 73 | 258 => 76 | 128 => 90 | 129 => 91 | 302 => 93 | 303 => 94 | 304 => 95 | 305 => 96 | 306 => 97 | 307 => 98 | 308 => 99 | 309 => 100 | 310 => 101 | 333 => 110 | 329 => 106 | 330 => 107 | 334 => 111 | 335 => 112 | 336 => 113 | 344 => 115 | n => n, fun | 31 => 36 | 9 => 9 | 3 => 3 | 46 => 103 | 0 => 0 | 51 => 119 | 53 => 121 | 4 => 4 | 183 => 112 | 182 => 111 | 131 => 116 | 5 => 5 | 218 => 131 | 222 => 135 | 228 => 140 | 229 => 141 | n => n, fun | n => n⟩
theorem Tryz.lays190 : Go.Proofs.Lays.n190 Tryz.prog Tryz.lays190_ren := {
  mixed := by kernel_rfl
  f125 := Tryz.func73.trans (congrArg some (by kernel_rfl))
  f128 := Tryz.func90.trans (congrArg some (by kernel_rfl))
  f129 := Tryz.func91.trans (congrArg some (by kernel_rfl))
  f190 := Tryz.func50.trans (congrArg some (by kernel_rfl))
  f258 := Tryz.func76.trans (congrArg some (by kernel_rfl))
  f302 := Tryz.func93.trans (congrArg some (by kernel_rfl))
  f303 := Tryz.func94.trans (congrArg some (by kernel_rfl))
  f304 := Tryz.func95.trans (congrArg some (by kernel_rfl))
  f305 := Tryz.func96.trans (congrArg some (by kernel_rfl))
  f306 := Tryz.func97.trans (congrArg some (by kernel_rfl))
  f307 := Tryz.func98.trans (congrArg some (by kernel_rfl))
  f308 := Tryz.func99.trans (congrArg some (by kernel_rfl))
  f309 := Tryz.func100.trans (congrArg some (by kernel_rfl))
  f310 := Tryz.func101.trans (congrArg some (by kernel_rfl))
  f329 := Tryz.func106.trans (congrArg some (by kernel_rfl))
  f330 := Tryz.func107.trans (congrArg some (by kernel_rfl))
  f333 := Tryz.func110.trans (congrArg some (by kernel_rfl))
  f334 := Tryz.func111.trans (congrArg some (by kernel_rfl))
  f335 := Tryz.func112.trans (congrArg some (by kernel_rfl))
  f336 := Tryz.func113.trans (congrArg some (by kernel_rfl))
  f344 := Tryz.func115.trans (congrArg some (by kernel_rfl))
  t0 := Tryz.underlying0
  a0 := Tryz.isAgg0
  z0 := Tryz.sizeOf0
  v0 := Tryz.zeroValue0
  t3 := Tryz.underlying3
  a3 := Tryz.isAgg3
  z3 := Tryz.sizeOf3
  v3 := Tryz.zeroValue3
  t4 := Tryz.underlying4
  a4 := Tryz.isAgg4
  z4 := Tryz.sizeOf4
  v4 := Tryz.zeroValue4
  t5 := Tryz.underlying5
  a5 := Tryz.isAgg5
  z5 := Tryz.sizeOf5
  v5 := Tryz.zeroValue5
  t9 := Tryz.underlying9
  a9 := Tryz.isAgg9
  z9 := Tryz.sizeOf9
  v9 := Tryz.zeroValue9
  t31 := Tryz.underlying36
  a31 := Tryz.isAgg36
  z31 := Tryz.sizeOf36
  v31 := Tryz.zeroValue36
  t46 := Tryz.underlying103
  a46 := Tryz.isAgg103
  z46 := Tryz.sizeOf103
  v46 := Tryz.zeroValue103
  t51 := Tryz.underlying119
  a51 := Tryz.isAgg119
  z51 := Tryz.sizeOf119
  v51 := Tryz.zeroValue119
  t53 := Tryz.underlying121
  a53 := Tryz.isAgg121
  z53 := Tryz.sizeOf121
  v53 := Tryz.zeroValue121
  t131 := Tryz.underlying116
  a131 := Tryz.isAgg116
  z131 := Tryz.sizeOf116
  v131 := Tryz.zeroValue116
  t182 := Tryz.underlying111
  a182 := Tryz.isAgg111
  z182 := Tryz.sizeOf111
  v182 := Tryz.zeroValue111
  t183 := Tryz.underlying112
  a183 := Tryz.isAgg112
  z183 := Tryz.sizeOf112
  v183 := Tryz.zeroValue112
  t218 := Tryz.underlying131
  a218 := Tryz.isAgg131
  z218 := Tryz.sizeOf131
  v218 := Tryz.zeroValue131
  t222 := Tryz.underlying135
  a222 := Tryz.isAgg135
  z222 := Tryz.sizeOf135
  v222 := Tryz.zeroValue135
  t228 := Tryz.underlying140
  a228 := Tryz.isAgg140
  z228 := Tryz.sizeOf140
  v228 := Tryz.zeroValue140
  t229 := Tryz.underlying141
  a229 := Tryz.isAgg141
  z229 := Tryz.sizeOf141
  v229 := Tryz.zeroValue141 }
open Go.Sort Go.RowKit in
theorem Tryz.slices_Sort_string (blk off cap : Nat) (ss : List (List UInt8)) (w : World) (hH : Holds encStr w blk off ss.toArray) (hblk : blk < w.heap.size) (hsz : ss.length < 4611686018427387904) :
    Calls Tryz.prog 50 #[.slice (some ⟨blk, off, none⟩) ss.length cap] w fun e w' =>
      e = .returned (.tuple #[]) ∧ ∃ n os, w' = grow (putRow encStr (Sort.ahead w n) blk off (ss.mergeSort fun x y => decide (x ≤ y)).toArray) os := Any.slices_Sort_string Tryz.lays190 blk off cap ss w hH hblk hsz
open Go.RowKit Go.Sort in
/-- .. and plain. (LAID: no walk: one application.) -/
theorem Tryz.slices_Sort_string_none (p : Option Addr) (cap : Nat) (w : World) :
    Calls Tryz.prog 50 #[.slice p 0 cap] w fun e w' => e = .returned (.tuple #[]) ∧ w' = w := Any.slices_Sort_string_none Tryz.lays190 p cap w
end Go.Proofs

/- The contract of the program's Set. -/
namespace Go.Proofs.YtanompfdjfgfbaaGreat
open Go.RowKit

theorem ahead_drewN (w : World) (q : Nat) : Sort.ahead w q = w.drewN q := rfl

theorem OwnS.own {B : Nat} {w : World} {v : Value} {ls : List (List UInt8)} (h : OwnS B w v ls) : (v = .slice none 0 0 ∧ ls = []) ∨
    ∃ g cap cur, v = .slice (some ⟨g, 0, none⟩) ls.length cap ∧ B ≤ g ∧ w.heap[g]? = some (.cells cur 9 (0, 0)) ∧ ls.length ≤ cap ∧ cap ≤ maxLen ∧ cur.size = cap * 1 ∧ cur.toList.take ls.length = ls.map encStr := by
  rcases h.2 with ⟨rfl, h0⟩ | ⟨g, cap, cur, rfl, hg, hh, h1, h2, h3, h4⟩
  · exact .inl ⟨rfl, List.eq_nil_of_length_eq_zero h0⟩
  · exact .inr ⟨g, cap, cur, rfl, hg, hh, h1, h2, h3, by rw [Nat.mul_one] at h4; exact h4⟩

/-- The sort of a row of the call's own. -/
theorem sort_own {B : Nat} {w : World} {v : Value} {ls : List (List UInt8)} (h : OwnS B w v ls) (hl : ls.length < 4611686018427387904) :
    Calls Tryz.prog 50 #[v] w fun e w' => e = .returned (.tuple #[]) ∧ OwnS B w' v (sortS ls) ∧ (∀ S : Nat → Prop, (∀ k, B ≤ k → S k) → Chg S w w') := by
  rcases h.own with ⟨rfl, rfl⟩ | ⟨g, cap, cur, rfl, hg, hh, h1, h2, h3, h4⟩
  · refine (Tryz.slices_Sort_string_none none 0 w).mono ?_
    rintro e w' ⟨rfl, rfl⟩
    exact ⟨rfl, by rw [show sortS [] = [] by simp [sortS]]; exact h, fun S _ => Chg.refl _ _⟩
  · refine (Tryz.slices_Sort_string g 0 cap ls w (holds_of_block hh h4) (lt_blk hh) hl).mono ?_
    rintro e w' ⟨rfl, n, os, rfl⟩
    refine ⟨rfl, ?_, fun S hS => (Chg.refl S w).grown (grownBy_sorted _) (fun k e _ => by cases e; exact hS _ hg)⟩
    have h5 := ownsRow_sorted (ts := sortS ls) (n := n) (os := os) (sortS_length ls) hg hh h1 h2 h3
    unfold OwnS
    rw [sortS_length]
    exact h5

/-- Compact, of a row of the call's own. -/
theorem compact_own {B : Nat} {w : World} {v : Value} {ls : List (List UInt8)} (h : OwnS B w v ls) (hl : ls.length ≤ 9223372036854775807) :
    Calls Tryz.prog 70 #[v] w fun e w' => (∃ ao cap, e = .returned (.slice ao (Lib.compact ls).length cap) ∧ OwnS B w' (.slice ao (Lib.compact ls).length cap) (Lib.compact ls)) ∧ (∀ S : Nat → Prop, (∀ k, B ≤ k → S k) → Chg S w w') := by
  rcases h.own with ⟨rfl, rfl⟩ | ⟨g, cap, cur, rfl, hg, hh, h1, h2, h3, h4⟩
  · refine (Tryz.slices_Compact_string_empty none 0 w).mono ?_
    rintro e w' ⟨rfl, rfl⟩
    exact ⟨⟨none, 0, rfl, h⟩, fun S _ => Chg.refl _ _⟩
  · refine (Tryz.slices_Compact_string g 0 cap ls w (holds_of_block hh h4) hl h1).mono ?_
    rintro e w' ⟨rfl, q, rfl⟩
    have hcl := Lib.compact_length_le ls
    generalize hts : Lib.compact ls ++ List.replicate (ls.length - (Lib.compact ls).length) [] = ts
    have htl : ts.length = ls.length := by rw [← hts, List.length_append, List.length_replicate]; omega
    have hgr := grownBy_sorted (w := w) (g := g) (n := q) (os := #[]) ts.toArray
    rw [Sort.grow_empty] at hgr
    refine ⟨⟨_, _, rfl, ?_⟩, fun S hS => (Chg.refl S w).grown hgr (fun k e _ => by cases e; exact hS _ hg)⟩
    have h5 := heap_sorted (n := q) (os := #[]) ts.toArray hh
    rw [Sort.grow_empty] at h5
    have h6 := take_putCells cur ts (by omega)
    refine ⟨by simp, .inr ⟨g, cap, _, rfl, hg, h5, by omega, h2, by simp [Sort.putCells, h3], ?_⟩⟩
    have h7 := congrArg (List.take (Lib.compact ls).length) h6
    rw [List.take_take, Nat.min_eq_left (by omega), ← List.map_take, ← hts, List.take_left] at h7
    rw [Nat.mul_one, hts] at *
    exact h7

set_option maxRecDepth 100000 in
set_option maxHeartbeats 2000000 in
theorem set_any {D : Nat → Prop} (ao : Option Addr) (cp : Nat) (ls : List (List UInt8)) (w : World) (hn : ls.length ≤ 16777216) (h : StrsAt D w ao ls) (_ : ∀ i, D i → i < w.heap.size) :
    Calls Tryz.prog 41 #[.slice ao ls.length cp] w (SetPost ls w) := by
  obtain ⟨i0, hi, hz0, hz1, hz2⟩ := info_parts Tryz.info9
  go_enter Tryz.func41, Tryz.ntmps41
  go_wp2
  go_loopw [3, 8] (fun v i wr => ∃ (k : Nat) (out : List (List UInt8)) (ao' : Option Addr) (cap : Nat), i = .int .i64 k ∧ k ≤ ls.length ∧ v = .slice ao' out.length cap ∧ Hid (out = (ls.take k).filter isName) ∧ out.length ≤ k ∧ (∀ x ∈ out, x.length ≤ 9223372036854775807) ∧ OwnS w.heap.size wr (.slice ao' out.length cap) out ∧ Chg (fun _ => False) w wr) (fun _ i _ => ls.length - (intOf i).toNat)
  case atStart => exact ⟨0, [], none, 0, rfl, Nat.zero_le _, rfl, rfl, Nat.zero_le _, (fun _ h => by cases h), World.ownsRow_nil _ _ _ _, Chg.refl _ _⟩
  case round =>
    obtain ⟨k, out, ao', cap', rfl, hk, rfl, hout, hol, hob, ho, hc⟩ := hrel
    by_cases hlt : k < ls.length
    · obtain ⟨b, off, rfl, hbD, c0, hsl⟩ := h k hlt
      replace c0 := hc.cell c0 id
      have HF := hid (List.take_succ_eq_append_getElem hlt)
      clear h
      generalize ls[k] = s at *
      cases hx : isName s with
      | false =>
        have hn2 : Hid (out = (ls.take (k + 1)).filter isName) := hid (by rw [HF.out, List.filter_append, ← hout.out]; simp [hx])
        go_wp2_with (go_at_call 54; refine (right_any s _ hsl).mono ?_; rintro e w' ⟨rfl, rfl⟩; rw [hx])
        go_roundw
        case rel => exact ⟨k + 1, out, ao', cap', by go_num, by omega, rfl, hn2, by omega, hob, ho, hc⟩
        case measure => simp [intOf]; omega
      | true =>
        have hn2 : Hid (out ++ [s] = (ls.take (k + 1)).filter isName) := hid (by rw [HF.out, List.filter_append, ← hout.out]; simp [hx])
        go_wp2_with (first
          | (go_at_call 54; refine (right_any s _ hsl).mono ?_; rintro e w' ⟨rfl, rfl⟩; rw [hx])
          | (at_builtin; refine wpList_append_own_at _ rfl (.tmp 14) (.tmp 16) 36 rfl w.heap.size 9 i0 (.string ⟨#[]⟩) 1 16 Tryz.underlying36 hi hz0 hz1 hz2 rfl (by decide) _ _ _ rfl (World.ownsRow.alloc ho _) ⟨wr.heap.size, 0, none⟩ 1 1 [strV s] rfl rfl ?c1 ?c2 ?c3 ?c4 ?c5 ?_))
        case c1 => exact (cell_one_new _ _ _)
        case c2 => intro u hu; rw [List.mem_singleton.1 hu]; rfl
        case c3 => unfold maxLen; omega
        case c4 => omega
        case c5 => have := hc.size; simp; omega
        intro v' w2 hown hgrow _ hat
        have hl : (out ++ [s]).length = out.length + 1 := by simp
        have ho2 : OwnS w.heap.size w2 v' (out ++ [s]) := by
          unfold OwnS
          rw [hl, List.map_append]
          exact hown
        have hrow : ∀ k, Value.ownBlock (.slice ao' out.length cap') = some k → w.heap.size ≤ k := by
          intro k hk
          rcases ho.2 with ⟨hx, _⟩ | ⟨g, cap', cur, hx, hg, _⟩
          · rw [hx] at hk; cases hk
          · rw [hx] at hk; cases hk; exact hg
        have hc2 : Chg (fun _ => False) w w2 := (hc.alloc _).grown hgrow (fun k e hk => by have := hrow k e; omega)
        have hob2 : ∀ x ∈ out ++ [s], x.length ≤ 9223372036854775807 := fun x hx => (List.mem_append.1 hx).elim (hob x) (fun e => by rw [List.mem_singleton.1 e]; exact hsl)
        obtain ⟨ao3, cap3, hv, _⟩ := ho2.strs hob2
        subst hv
        clear hown hgrow hat hrow ho hc
        rw [hl]
        go_wp2
        go_roundw
        case rel => exact ⟨k + 1, out ++ [s], ao3, cap3, by go_num, by omega, by rw [hl], hn2, by rw [hl]; omega, hob2, ho2, hc2⟩
        case measure => simp [intOf]; omega
    · have hk2 : k = ls.length := by omega
      have ho2 : Hid (out = ls.filter isName) := by
        have := hout.out
        rw [List.take_of_length_le (by omega)] at this
        exact hid this
      have hw : wr = wr := rfl
      clear h hout
      go_wp2_with fail
      refine (sort_own ho (by omega)).mono ?_
      rintro e w2 ⟨rfl, ho3, hch3⟩
      have hc2 : Chg (fun _ => False) w w2 := hc.trans (hch3 (fun k => w.heap.size ≤ k) (fun _ h => h)) (fun i hi hk => by omega)
      clear hch3 hc ho
      go_wp2_with fail
      refine (compact_own ho3 (by rw [sortS_length]; omega)).mono ?_
      rintro e w3 ⟨⟨ao4, cap4, rfl, ho4⟩, hch4⟩
      have hc3 : Chg (fun _ => False) w w3 := hc2.trans (hch4 (fun k => w.heap.size ≤ k) (fun _ h => h)) (fun i hi hk => by omega)
      clear hch4 hc2 ho3
      have hso : SetOf ls (Lib.compact (sortS out)) := by rw [ho2.out]; exact compact_set ls
      have hbd : ∀ x ∈ Lib.compact (sortS out), x.length ≤ 9223372036854775807 := fun x hx => by have := isName_len ((hso.2 x).1 hx).2; omega
      obtain ⟨ao5, cap5, hv, hst⟩ := ho4.strs hbd
      cases hv
      go_wp2
      go_ret
      exact ⟨_, _, _, rfl, hso, hst, hc3⟩
end Go.Proofs.YtanompfdjfgfbaaGreat
