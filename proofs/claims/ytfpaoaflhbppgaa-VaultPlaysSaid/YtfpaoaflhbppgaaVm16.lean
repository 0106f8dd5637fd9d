/- Texts that the proof leans on, in one: PvAll2, FuncNil, VaultFirst, OpenB, RoleCells, CredOpen, CredSized. -/
import Derived.Test.YtfpaoaflhbppgaaVm15
import Derived.Test.YtfpaoaflhbppgaaVm2
import Derived.Test.YtfpaoaflhbppgaaVm6
import Derived.Test.YtfpaoaflhbppgaaRows
import Derived.Test.YtfpaoaflhbppgaaVm1
import Derived.ProofKit
import Derived.OpenShut
import Derived.ShutString
import Derived.ChangeOld
import Derived.Deep.Slices
import Derived.Deep.Fields
import Derived.ChangeSame
import Derived.Test.YtfpaoaflhbppgaaVm7
import Derived.SizedLaws
import Derived.Test.YtfpaoaflhbppgaaVm5
/- The vault's iterator, handed the law's own counting function. -/
namespace Go.Proofs.Ytfpaoaflhbppgaa
open Go.RowKit

set_option maxRecDepth 100000 in
set_option maxHeartbeats 2000000 in
theorem pvcount (N k : Nat) (c : CredB) (v : Value) (W : World) (h : Boxed W N 3 (.int .i64 k)) (hk : k ≤ 1000) :
    Calls Try.prog 26 #[signV c v, .pointer (some ⟨N, 0, none⟩)] W fun e w' => e = .returned (.bool true) ∧ Boxed w' N 3 (.int .i64 ((k + 1 : Nat) : Int)) ∧ Chg (· = N) W w' := by
  have q0 := h.cell
  have q1 := h.frozen
  have hlt := h.lt
  have HB := hid h
  clear h
  unfold signV signBox
  go_enter Try.func26, Try.ntmps26
  go_wp2
  go_ret
  exact ⟨rfl, by rw [show ((k + 1 : Nat) : Int) = (k : Int) + 1 by omega]; exact (HB.out.set _).alloc _, ((Chg.refl (· = N) W).setCell (p := ⟨N, 0, none⟩) (fun _ => rfl) _).alloc _⟩

set_option maxRecDepth 100000 in
set_option maxHeartbeats 4000000 in
theorem pvall2 (N X len cap : Nat) (D : Nat → Prop) (ao : Option Addr) (qs : List EntB) (w : World) (hc : w.cell? ⟨X, 0, none⟩ = some (.slice ao len cap)) (hX : X ≠ N) (hq : qs.length = len) (hlen : len ≤ 256) (hN : Boxed w N 3 (.int .i64 ((0 : Nat) : Int)))
    (hE : EntsAt D w ao qs) (hT : TagsIn D w qs) (hDN : ∀ i, D i → i ≠ N) (hDl : ∀ i, D i → i < w.heap.size) :
    Calls Try.prog 41 #[.func (.func 26) #[] #[.pointer (some ⟨N, 0, none⟩)], .pointer (some ⟨X, 0, none⟩)] w fun e w' => e = .returned (.tuple #[]) ∧ Boxed w' N 3 (.int .i64 (len : Int)) ∧ Chg (· = N) w w' := by
  have HN : Hid (∀ args w, (callFunc 26 args).run Try.prog w = .ok (.enter 26 args) w) := hid (enters_of Try.func26 (by kernel_rfl) rfl)
  have HE := hid (And.intro hE (And.intro hT (And.intro hq (And.intro hDN hDl))))
  have HB := hid hN
  clear hE hT hq hDN hDl hN hX
  go_enter Try.func41, Try.ntmps41
  go_wp2
  clear hc
  go_loopw [7] (fun i wr => ∃ (k : Nat), k ≤ len ∧ i = .int .i64 k ∧ Boxed wr N 3 (.int .i64 (k : Int)) ∧ Chg (· = N) w wr)
    (fun i _ => len - (intOf i).toNat)
  case atStart => exact ⟨0, Nat.zero_le _, rfl, HB.out, Chg.refl _ _⟩
  case round =>
    obtain ⟨k, hk, rfl, hbN, hch⟩ := hrel
    by_cases hlt : k < len
    · have hkq : k < qs.length := by rw [HE.out.2.2.1]; exact hlt
      obtain ⟨b, off, hao, _, hten⟩ := (HE.out.1.keep hch (fun i hi h => HE.out.2.2.2.1 i hi h)).ten hkq
      obtain ⟨x, hx⟩ : ∃ x, x = qs[k] := ⟨_, rfl⟩
      have hti := (HE.out.2.1.keep hch (fun i hi h => HE.out.2.2.2.1 i hi h)) x (by rw [hx]; exact List.getElem_mem hkq)
      rw [← hx] at hten
      have htl : x.tag.length = 8 := by have := hti.1; unfold isSign at this; simp only [Bool.and_eq_true, decide_eq_true_eq] at this; exact this.2
      have hal : Chg (fun _ => False) wr (wr.alloc (.cells #[.int .i64 x.c.kind, .string ⟨x.c.head.1.toArray⟩, .string ⟨x.c.head.2.toArray⟩, .string ⟨x.c.who.toArray⟩, .string ⟨x.c.b.1.toArray⟩, .string ⟨x.c.b.2.toArray⟩, .string ⟨x.c.c.1.toArray⟩, .string ⟨x.c.c.2.toArray⟩, .string ⟨x.c.w2.toArray⟩, .slice x.ta x.tag.length x.cap] 35)) := (Chg.refl _ wr).alloc _
      have hcp := pvcopied (D := D) x.c x.tag x.ta x.cap (wr.alloc (.cells #[.int .i64 x.c.kind, .string ⟨x.c.head.1.toArray⟩, .string ⟨x.c.head.2.toArray⟩, .string ⟨x.c.who.toArray⟩, .string ⟨x.c.b.1.toArray⟩, .string ⟨x.c.b.2.toArray⟩, .string ⟨x.c.c.1.toArray⟩, .string ⟨x.c.c.2.toArray⟩, .string ⟨x.c.w2.toArray⟩, .slice x.ta x.tag.length x.cap] 35)) (by omega) (fun i hi => by have h1 := HE.out.2.2.2.2 i hi; have h2 := hch.size; have h3 := hal.size; omega) (hti.2.keep hal (fun _ _ => id))
      unfold signV signBox at hcp
      have HCP := hid (And.intro hcp (And.intro (hbN.alloc (.cells #[.int .i64 x.c.kind, .string ⟨x.c.head.1.toArray⟩, .string ⟨x.c.head.2.toArray⟩, .string ⟨x.c.who.toArray⟩, .string ⟨x.c.b.1.toArray⟩, .string ⟨x.c.b.2.toArray⟩, .string ⟨x.c.c.1.toArray⟩, .string ⟨x.c.c.2.toArray⟩, .string ⟨x.c.w2.toArray⟩, .slice x.ta x.tag.length x.cap] 35)) (hch.trans hal (fun _ _ h => h.elim))))
      obtain ⟨y0, y1, y2, y3, y4, y5, y6, y7, y8, y9⟩ := hten
      have he := HN.out
      subst hao
      clear hx hti htl hal hcp hbN hch hkq
      go_wp2_with fail
      refine HCP.out.1.mono ?_
      clear y0 y1 y2 y3 y4 y5 y6 y7 y8 y9
      rintro e w5 ⟨ta, tc, rfl, hbt, hc5⟩
      have hN5 := HCP.out.2.1.kept (chg_grown hc5) (by simp)
      have hq := pvcount N k x.c (.slice ta x.tag.length tc) w5 hN5 (by omega)
      unfold signV signBox at hq
      have HQ := hid (And.intro hq (HCP.out.2.2.trans hc5 (fun _ _ h => h.elim)))
      clear hq hN5 hbt hc5 HCP
      unfold signV signBox
      go_wp2_with fail
      refine HQ.out.1.mono ?_
      rintro e w6 ⟨rfl, hN6, hc6⟩
      have HR := hid (And.intro hN6 (HQ.out.2.trans hc6 (fun _ _ h => h)))
      clear hN6 hc6 HQ he
      go_wp2
      go_roundw
      case rel => exact ⟨k + 1, by omega, by go_num, HR.out.1, HR.out.2⟩
      case measure => simp [intOf]; omega
    · have hke : k = len := by omega
      subst hke
      have HR := hid (And.intro hbN hch)
      clear hbN hch
      go_wp2
      go_end0
      exact ⟨rfl, HR.out.1, HR.out.2⟩
end Go.Proofs.Ytfpaoaflhbppgaa

/- A function's value is unlike nil. -/
namespace Go.Proofs.Ytfpaoaflhbppgaa
open Go.RowKit

theorem equalIn_seq_nil (w : World) (d : Nat) (f : Fn) (bs lb : Array Value) : (Op.equalIn (d + 1) 61 (.func f bs lb) .nilFunc).run Try.prog w = .ok false w := by
  simp [Op.equalIn, run_underlying Try.underlying61]

theorem equal_seq_nil (w : World) (f : Fn) (bs lb : Array Value) : (Op.equal 61 (.func f bs lb) .nilFunc).run Try.prog w = .ok false w := equalIn_seq_nil w 9999 f bs lb

theorem neq_seq_nil (w : World) (f : Fn) (bs lb : Array Value) : (binOp .neq 61 (.func f bs lb) .nilFunc).run Try.prog w = .ok (.bool true) w := by
  simp only [binOp]
  simp [equal_seq_nil w f bs lb]
end Go.Proofs.Ytfpaoaflhbppgaa

/- Law 7's first: it answers true, and turns nothing that was there. -/
namespace Go.Proofs.Ytfpaoaflhbppgaa
open Go.RowKit

def d0 : CredB := ⟨1, ([97], [114]), [100], noneR, noneR, []⟩
def o0 : CredB := ⟨1, ([97], [114]), [101], noneR, noneR, []⟩
def z8 : List UInt8 := [0, 0, 0, 0, 0, 0, 0, 0]

/-- What is so amid the three Adds. -/
def ThreeW (O D : Nat → Prop) (g : Nat) (s : SignB) (w6 : World) (L : Nat → Bool) (v : World) : Prop :=
  Chg (fun i => O i ∨ w6.heap.size ≤ i) w6 v ∧ (L 5 = true → L 2 = true) ∧ (L 8 = true → L 5 = true) ∧ (L 2 = false → VAt O D v g [] 1) ∧ (L 2 = true → ∃ O', VAt O' D v g [s] 1 ∧ (∀ i, O' i → O i ∨ w6.heap.size ≤ i))

theorem ThreeW.first {O D : Nat → Prop} {g : Nat} {s : SignB} {w6 v : World} {L : Nat → Bool} (h : ThreeW O D g s w6 L v) (hl : L 2 = false) : VAt O D v g (([] : List EntB).map EntB.s) 1 := h.2.2.2.1 hl

theorem ThreeW.step {O D : Nat → Prop} {g : Nat} {s : SignB} {w6 v : World} {L : Nat → Bool} {i : Nat} (h : ThreeW O D g s w6 L v) (hi : ¬ 2 = i ∧ ¬ 5 = i ∧ ¬ 8 = i) : ThreeW O D g s w6 (upd L i) v := by
  have e2 : upd L i 2 = L 2 := if_neg hi.1
  have e5 : upd L i 5 = L 5 := if_neg hi.2.1
  have e8 : upd L i 8 = L 8 := if_neg hi.2.2
  unfold ThreeW
  rw [e2, e5, e8]
  exact h

theorem ThreeW.add1 {O D : Nat → Prop} {g : Nat} {s : SignB} {w6 v v' : World} {L : Nat → Bool} (h : ThreeW O D g s w6 L v) (hl : L 2 = false) {O1 : Nat → Prop} (hva : VAt O1 D v' g [s] 1) (hO1 : ∀ i, O1 i → O i ∨ v.heap.size ≤ i) (hc : Chg O v v') : ThreeW O D g s w6 (upd L 2) v' := by
  have e2 : upd L 2 2 = true := if_pos rfl
  have e5 : upd L 2 5 = L 5 := if_neg (by decide)
  have e8 : upd L 2 8 = L 8 := if_neg (by decide)
  have hsz := h.1.size
  unfold ThreeW
  rw [e2, e5, e8]
  exact ⟨h.1.trans hc (fun i _ hi => .inl hi), fun _ => rfl, h.2.2.1, fun h' => (by cases h'), fun _ => ⟨O1, hva, fun i hi => (hO1 i hi).imp id (fun h => by omega)⟩⟩

theorem ThreeW.add2 {O D : Nat → Prop} {g : Nat} {s : SignB} {w6 v v' : World} {L : Nat → Bool} {i : Nat} (h : ThreeW O D g s w6 L v) (hi : i = 5 ∨ i = 8) (h5 : i = 8 → L 5 = true) (h2 : L 2 = true) {O1 O2 : Nat → Prop} (hO1 : ∀ i, O1 i → O i ∨ w6.heap.size ≤ i) (hva : VAt O2 D v' g [s] 1) (hO2 : ∀ i, O2 i → O1 i ∨ v.heap.size ≤ i) (hc : Chg O1 v v') : ThreeW O D g s w6 (upd L i) v' := by
  have e2 : upd L i 2 = true := by rcases hi with rfl | rfl <;> (unfold upd; rw [if_neg (by decide)]; exact h2)
  have hsz := h.1.size
  refine ⟨h.1.trans hc (fun i _ hi => hO1 i hi), fun _ => e2, fun h8 => ?_, fun h' => (by rw [e2] at h'; cases h'), fun _ => ⟨O2, hva, fun j hj => (hO2 j hj).elim (hO1 j) (fun h => .inr (by omega))⟩⟩
  rcases hi with rfl | rfl
  · exact if_pos rfl
  · have : upd L 8 5 = L 5 := if_neg (by decide)
    rw [this]; exact h5 rfl

def tfSpecs (g S5 S6 T : Nat) (Q : Nat → Prop) : List (SpecR (Chg Q)) := [.any, .eq (.pointer (some ⟨g, 0, none⟩)), .any, .any, .any, .eq (.pointer (some ⟨S5, 0, none⟩)), .eq (.pointer (some ⟨S6, 0, none⟩)), .eq (.int .i64 0), .eq (.int .i64 41), .eq (.int .i64 40), .any, .any, .any, .any, .any, .any, .any, .any, .any, .any, .any, .any, .any, .any, .any, .any, .any, .any, .any, .eq (.pointer (some ⟨g, 0, none⟩)), .eq (.agg #[.int .i64 1, .string ⟨#[97]⟩, .string ⟨#[114]⟩, .string ⟨#[100]⟩, .string ⟨#[]⟩, .string ⟨#[]⟩, .string ⟨#[]⟩, .string ⟨#[]⟩, .string ⟨#[]⟩, .slice (some ⟨T, 0, none⟩) 8 8]), .eq (.int .i64 0), .eq (.pointer (some ⟨g, 0, none⟩)), .eq (.agg #[.int .i64 1, .string ⟨#[97]⟩, .string ⟨#[114]⟩, .string ⟨#[100]⟩, .string ⟨#[]⟩, .string ⟨#[]⟩, .string ⟨#[]⟩, .string ⟨#[]⟩, .string ⟨#[]⟩, .slice (some ⟨T, 0, none⟩) 8 8]), .eq (.int .i64 41), .eq (.pointer (some ⟨g, 0, none⟩)), .eq (.agg #[.int .i64 1, .string ⟨#[97]⟩, .string ⟨#[114]⟩, .string ⟨#[101]⟩, .string ⟨#[]⟩, .string ⟨#[]⟩, .string ⟨#[]⟩, .string ⟨#[]⟩, .string ⟨#[]⟩, .slice (some ⟨T, 0, none⟩) 8 8]), .eq (.int .i64 40)]

/-- What holds behind the three Adds. -/
structure VF (O D : Nat → Prop) (g S5 S6 T : Nat) (w v : World) : Prop where
  va : VAt O D v g [⟨d0, z8⟩] 1
  c5 : v.heap[S5]? = some (.cells (signBox d0 (.slice (some ⟨T, 0, none⟩) z8.length 8)) 35 (0, 0))
  c6 : v.heap[S6]? = some (.cells (signBox o0 (.slice (some ⟨T, 0, none⟩) z8.length 8)) 35 (0, 0))
  by_ : BytesAt D v (.slice (some ⟨T, 0, none⟩) z8.length 8) z8
  ch : Chg (fun _ => False) w v
  hi : ∀ i, O i → w.heap.size ≤ i

theorem VF.keep {O D : Nat → Prop} {g S5 S6 T : Nat} {w v v' : World} (h : VF O D g S5 S6 T w v) (hc : Chg (fun _ => False) v v') : VF O D g S5 S6 T w v' :=
  ⟨h.va.keep hc (fun _ _ => id), blk_keep h.c5 hc id, blk_keep h.c6 hc id, h.by_.keep hc (fun _ _ => id), h.ch.trans hc (fun _ _ h => h), h.hi⟩

def sE (T : Nat) : EntB := ⟨d0, z8, some ⟨T, 0, none⟩, 8⟩
def oE (T : Nat) : EntB := ⟨o0, z8, some ⟨T, 0, none⟩, 8⟩

theorem tells_one {cs : List CredB} {e : Ending} {w : World} (h : TellsC cs e w) (hl : cs.length = 1) : ∃ ao cap, e = .returned (.slice ao 1 cap) := by
  obtain ⟨ao, cap, h1, _⟩ := h
  rw [hl] at h1
  exact ⟨ao, cap, h1⟩

theorem sE_len (T : Nat) : (sE T).tag.length ≤ 1048576 := by show (8 : Nat) ≤ 1048576; decide
theorem oE_len (T : Nat) : (oE T).tag.length ≤ 1048576 := by show (8 : Nat) ≤ 1048576; decide

theorem first_own {w : World} {T : Nat} (h : w.ownsRow T 5 1 (.slice (some ⟨T, 0, none⟩) 8 8) 8 (madeCells (Value.int .u8 0).cells (8 * 1)).toList) : BytesAt (fun k => T ≤ k ∧ k < w.heap.size) w (.slice (some ⟨T, 0, none⟩) z8.length 8) z8 := by
  have e : (madeCells (Value.int .u8 0).cells (8 * 1)).toList = z8.map cb := by kernel_rfl
  rw [e] at h
  obtain ⟨ao, cap, he, hb⟩ := owns_bytes (l := z8) (show w.ownsRow T 5 1 (.slice (some ⟨T, 0, none⟩) 8 8) z8.length (z8.map cb) from h)
  have : (Value.slice (some ⟨T, 0, none⟩) z8.length 8) = .slice ao z8.length cap := he
  rw [this]
  exact hb

set_option maxRecDepth 100000 in
set_option maxHeartbeats 8000000 in
theorem vfirst (w : World) : Calls Try.prog 4 #[] w fun e w' => e = .returned (.bool true) ∧ Chg (fun _ => False) w w' := by
  obtain ⟨i0, hi, hz0, hz1, hz2⟩ := info_parts Try.info5
  have HI := hid (And.intro hi (And.intro hz0 (And.intro hz1 hz2)))
  clear hi hz0 hz1 hz2
  have HN1 := hid (fun W => pvnew (D := fun _ => False) W 1 (by decide) (by decide))
  have HN2 := hid (fun W => pvnewBad W (-1) (by decide))
  go_enter Try.func4, Try.ntmps4
  go_wp2_with fail
  refine (HN1.out _).mono ?_
  rintro e w1 ⟨g, O, rfl, hva, hO, hc1⟩
  have H1 := hid (And.intro hva (And.intro hO hc1))
  clear hva hO hc1
  go_wp2_with fail
  refine (HN2.out _).mono ?_
  rintro e w2 ⟨rfl, hc2⟩
  have H2 := hid hc2
  clear hc2
  go_wp2_with (refine wpList_make_full _ rfl (.const (.int .i64 8)) (.const (.int .i64 8)) 33 rfl w2.heap.size 5 i0 (.int .u8 0) 1 Try.underlying33 HI.out.1 HI.out.2.1 HI.out.2.2.1 .i64 .i64 8 8 8 rfl rfl rfl rfl (by rw [HI.out.2.2.2]; decide) (by decide) (Nat.le_refl _) ?_; intro w3 hown hgr)
  obtain ⟨T, hT⟩ : ∃ T, T = w2.heap.size := ⟨_, rfl⟩
  rw [← hT] at hown ⊢
  have hbt := first_own hown
  have hc3 : Chg (fun _ => False) w2 w3 := (Chg.refl _ w2).grown hgr (fun k e => by cases e)
  have hc4 : Chg (fun _ => False) w3 ((w3.alloc (.cells #[.int .i64 1, .string ⟨#[97]⟩, .string ⟨#[114]⟩, .string ⟨#[100]⟩, .string ⟨#[]⟩, .string ⟨#[]⟩, .string ⟨#[]⟩, .string ⟨#[]⟩, .string ⟨#[]⟩, .slice (some ⟨T, 0, none⟩) 8 8] 35)).alloc (.cells #[.int .i64 1, .string ⟨#[97]⟩, .string ⟨#[114]⟩, .string ⟨#[101]⟩, .string ⟨#[]⟩, .string ⟨#[]⟩, .string ⟨#[]⟩, .string ⟨#[]⟩, .string ⟨#[]⟩, .slice (some ⟨T, 0, none⟩) 8 8] 35)) := ((Chg.refl _ w3).alloc _).alloc _
  have hb5 : ((w3.alloc (.cells #[.int .i64 1, .string ⟨#[97]⟩, .string ⟨#[114]⟩, .string ⟨#[100]⟩, .string ⟨#[]⟩, .string ⟨#[]⟩, .string ⟨#[]⟩, .string ⟨#[]⟩, .string ⟨#[]⟩, .slice (some ⟨T, 0, none⟩) 8 8] 35)).alloc (.cells #[.int .i64 1, .string ⟨#[97]⟩, .string ⟨#[114]⟩, .string ⟨#[101]⟩, .string ⟨#[]⟩, .string ⟨#[]⟩, .string ⟨#[]⟩, .string ⟨#[]⟩, .string ⟨#[]⟩, .slice (some ⟨T, 0, none⟩) 8 8] 35)).heap[w3.heap.size]? = some (.cells #[.int .i64 1, .string ⟨#[97]⟩, .string ⟨#[114]⟩, .string ⟨#[100]⟩, .string ⟨#[]⟩, .string ⟨#[]⟩, .string ⟨#[]⟩, .string ⟨#[]⟩, .string ⟨#[]⟩, .slice (some ⟨T, 0, none⟩) 8 8] 35 (0, 0)) := blk_keep (heap_alloc_new w3 _) ((Chg.refl (fun _ => False) _).alloc _) id
  have hb6 : ((w3.alloc (.cells #[.int .i64 1, .string ⟨#[97]⟩, .string ⟨#[114]⟩, .string ⟨#[100]⟩, .string ⟨#[]⟩, .string ⟨#[]⟩, .string ⟨#[]⟩, .string ⟨#[]⟩, .string ⟨#[]⟩, .slice (some ⟨T, 0, none⟩) 8 8] 35)).alloc (.cells #[.int .i64 1, .string ⟨#[97]⟩, .string ⟨#[114]⟩, .string ⟨#[101]⟩, .string ⟨#[]⟩, .string ⟨#[]⟩, .string ⟨#[]⟩, .string ⟨#[]⟩, .string ⟨#[]⟩, .slice (some ⟨T, 0, none⟩) 8 8] 35)).heap[w3.heap.size + 1]? = some (.cells #[.int .i64 1, .string ⟨#[97]⟩, .string ⟨#[114]⟩, .string ⟨#[101]⟩, .string ⟨#[]⟩, .string ⟨#[]⟩, .string ⟨#[]⟩, .string ⟨#[]⟩, .string ⟨#[]⟩, .slice (some ⟨T, 0, none⟩) 8 8] 35 (0, 0)) := by
    have := heap_alloc_new (w3.alloc (.cells #[.int .i64 1, .string ⟨#[97]⟩, .string ⟨#[114]⟩, .string ⟨#[100]⟩, .string ⟨#[]⟩, .string ⟨#[]⟩, .string ⟨#[]⟩, .string ⟨#[]⟩, .string ⟨#[]⟩, .slice (some ⟨T, 0, none⟩) 8 8] 35)) (.cells #[.int .i64 1, .string ⟨#[97]⟩, .string ⟨#[114]⟩, .string ⟨#[101]⟩, .string ⟨#[]⟩, .string ⟨#[]⟩, .string ⟨#[]⟩, .string ⟨#[]⟩, .string ⟨#[]⟩, .slice (some ⟨T, 0, none⟩) 8 8] 35)
    rw [World.size_alloc] at this
    exact this
  generalize ((w3.alloc (.cells #[.int .i64 1, .string ⟨#[97]⟩, .string ⟨#[114]⟩, .string ⟨#[100]⟩, .string ⟨#[]⟩, .string ⟨#[]⟩, .string ⟨#[]⟩, .string ⟨#[]⟩, .string ⟨#[]⟩, .slice (some ⟨T, 0, none⟩) 8 8] 35)).alloc (.cells #[.int .i64 1, .string ⟨#[97]⟩, .string ⟨#[114]⟩, .string ⟨#[101]⟩, .string ⟨#[]⟩, .string ⟨#[]⟩, .string ⟨#[]⟩, .string ⟨#[]⟩, .string ⟨#[]⟩, .slice (some ⟨T, 0, none⟩) 8 8] 35)) = w6 at *
  obtain ⟨S5, hS5⟩ : ∃ S5, S5 = w3.heap.size := ⟨_, rfl⟩
  rw [← hS5] at hb5 hb6 ⊢
  obtain ⟨S6, hS6⟩ : ∃ S6, S6 = S5 + 1 := ⟨_, rfl⟩
  rw [← hS6] at hb6 ⊢
  have hc26 := hc3.trans hc4 (fun _ _ h => h)
  have hc06 := (H1.out.2.2.trans H2.out (fun _ _ h => h)).trans hc26 (fun _ _ h => h)
  have hs3 := hc3.size
  have hs4 := hc4.size
  have HX : Hid (w6.heap[S5]? = some (.cells (signBox d0 (.slice (some ⟨T, 0, none⟩) z8.length 8)) 35 (0, 0)) ∧ w6.heap[S6]? = some (.cells (signBox o0 (.slice (some ⟨T, 0, none⟩) z8.length 8)) 35 (0, 0)) ∧ True) := hid ⟨hb5, hb6, trivial⟩
  obtain ⟨D, hD⟩ : ∃ D : Nat → Prop, D = fun k => T ≤ k ∧ k < w3.heap.size := ⟨_, rfl⟩
  have hOl : ∀ i, O i → i < T := fun i hi => by have := H1.out.1.low i hi; have := H2.out.size; omega
  have HQ : Hid (∀ i, i = S5 ∨ i = S6 → ¬ (O i ∨ w6.heap.size ≤ i)) := hid (fun i hi h => by
    have h5 := lt_blk hb5
    have h6 := lt_blk hb6
    rcases hi with rfl | rfl
    · rcases h with h | h
      · have := hOl _ h; omega
      · omega
    · rcases h with h | h
      · have := hOl _ h; omega
      · omega)
  have HD : Hid ((∀ i, D i → i < w6.heap.size) ∧ BytesAt D w6 (.slice (some ⟨T, 0, none⟩) z8.length 8) z8 ∧ (∀ i, D i → ¬ (O i ∨ w6.heap.size ≤ i))) := hid ⟨fun i hi => by rw [hD] at hi; have := hi.2; omega, by rw [hD]; exact hbt.keep hc4 (fun _ _ => id), fun i hi h => by
    rw [hD] at hi
    have h1 := hi.1
    have h2 := hi.2
    rcases h with h | h
    · have := hOl i h; omega
    · omega⟩
  have HVA : Hid (VAt O D w6 g [] 1) := hid ((show VAt O D w1 g [] 1 from H1.out.1).keep (H2.out.trans hc26 (fun _ _ h => h)) (fun _ _ => id))
  have HC6 := hid hc06
  have HO : Hid (∀ i, O i → w.heap.size ≤ i) := hid H1.out.2.1
  have HSH : Hid (credShort d0 1048576 ∧ credShort o0 1048576) := hid ⟨⟨by decide, by decide, by decide, by decide, by decide, by decide, by decide, by decide⟩, ⟨by decide, by decide, by decide, by decide, by decide, by decide, by decide, by decide⟩⟩
  clear hbt hc3 hc4 hb5 hb6 hc26 hc06 hs3 hs4 hOl hown hgr H1 H2 HI HN1 HN2 hT hS5 hS6 hD
  refine wp_region_state (Chg (fun i => O i ∨ w6.heap.size ≤ i)) (ThreeW O D g ⟨d0, z8⟩ w6) (specAtR (tfSpecs g S5 S6 T _)) [29, 30, 31, 32, 33, 34, 35, 36, 37, 7, 8, 9] [1, 5, 6] (by kernel_rfl) (by kernel_rfl) ⟨(Chg.refl _ _).drew, (fun h => by cases h), (fun h => by cases h), (fun _ => VAt.keep HVA.out ((Chg.refl (fun _ => False) _).drew) (fun _ _ => id)), fun h => by cases h⟩ (fun t v w w' hc h => specAtR_st _ t v w w' hc h) (by rfl) (by kernel_rfl) ?start ?obs ?fin
  case start =>
    simp only [List.forall_mem_cons]; exact ⟨⟨_, rfl, rfl⟩, ⟨_, rfl, rfl⟩, ⟨_, rfl, rfl⟩, fun _ h => by cases h⟩
  case obs =>
    clear HC6 HO HVA
    refine ObsL.cons none (by kernel_rfl) ?_ ?_
    · refine ObL.plain fun L a w hi he hW hk K k => ?_
      obtain ⟨_, e1, f1⟩ := hk 1 (by decide)
      clear hk
      have hS := hW.step (i := 0) (by decide)
      clear hi he hW
      go_simp
      exact k _ _ (Chg.refl _ _) hS f1
    refine ObsL.cons none (by kernel_rfl) ?_ ?_
    · refine ObL.plain fun L a w hi he hW hk K k => ?_
      obtain ⟨_, e5, rfl⟩ := hk 5 (by decide)
      clear hk
      obtain ⟨⟨y0, y1, y2, y3, y4, y5, y6, y7, y8⟩, y9⟩ := cred_at_sign (blk_keep HX.out.1 hW.1 (HQ.out _ (by first | exact .inl rfl | exact .inr rfl)))
      simp only [Nat.zero_add, d0, o0, noneR] at y0 y1 y2 y3 y4 y5 y6 y7 y8
      change _ = some (Value.string ⟨#[97]⟩) at y1
      change _ = some (Value.string ⟨#[114]⟩) at y2
      change _ = some (Value.string ⟨#[100]⟩) at y3
      change _ = some (Value.string ⟨#[]⟩) at y4
      change _ = some (Value.string ⟨#[]⟩) at y5
      change _ = some (Value.string ⟨#[]⟩) at y6
      change _ = some (Value.string ⟨#[]⟩) at y7
      change _ = some (Value.string ⟨#[]⟩) at y8
      have hS := hW.step (i := 1) (by decide)
      clear hi he hW
      go_simp
      exact k _ _ (Chg.refl _ _) hS rfl
    refine ObsL.cons none (by kernel_rfl) ?_ ?_
    · refine ObL.plain fun L a w hi he hW hk K k => ?_
      obtain ⟨_, e29, rfl⟩ := hk 29 (by decide)
      obtain ⟨_, e30, rfl⟩ := hk 30 (by decide)
      clear hk
      have hq := pvadd w g [] 1 (sE T) (hW.first hi) (fun i hd => Nat.lt_of_lt_of_le (HD.out.1 i hd) hW.1.size) HSH.out.1 (sE_len T) (HD.out.2.1.keep hW.1 HD.out.2.2)
      have HW := hid hW
      have HI := hid hi
      clear hW hi he
      go_simp
      refine hq.mono ?_
      rintro e w5 ⟨O1, rfl, hva, hO1, hc⟩
      exact k _ _ (hc.mono (fun i hi h => .inl h)) (HW.out.add1 HI.out hva hO1 hc) rfl
    refine ObsL.cons none (by kernel_rfl) ?_ ?_
    · refine ObL.plain fun L a w hi he hW hk K k => ?_
      obtain ⟨_, e1, f1⟩ := hk 1 (by decide)
      clear hk
      have hS := hW.step (i := 3) (by decide)
      clear hi he hW
      go_simp
      exact k _ _ (Chg.refl _ _) hS f1
    refine ObsL.cons none (by kernel_rfl) ?_ ?_
    · refine ObL.plain fun L a w hi he hW hk K k => ?_
      obtain ⟨_, e5, rfl⟩ := hk 5 (by decide)
      clear hk
      obtain ⟨⟨y0, y1, y2, y3, y4, y5, y6, y7, y8⟩, y9⟩ := cred_at_sign (blk_keep HX.out.1 hW.1 (HQ.out _ (by first | exact .inl rfl | exact .inr rfl)))
      simp only [Nat.zero_add, d0, o0, noneR] at y0 y1 y2 y3 y4 y5 y6 y7 y8
      change _ = some (Value.string ⟨#[97]⟩) at y1
      change _ = some (Value.string ⟨#[114]⟩) at y2
      change _ = some (Value.string ⟨#[100]⟩) at y3
      change _ = some (Value.string ⟨#[]⟩) at y4
      change _ = some (Value.string ⟨#[]⟩) at y5
      change _ = some (Value.string ⟨#[]⟩) at y6
      change _ = some (Value.string ⟨#[]⟩) at y7
      change _ = some (Value.string ⟨#[]⟩) at y8
      have hS := hW.step (i := 4) (by decide)
      clear hi he hW
      go_simp
      exact k _ _ (Chg.refl _ _) hS rfl
    refine ObsL.cons none (by kernel_rfl) ?_ ?_
    · refine ObL.plain fun L a w hi he hW hk K k => ?_
      obtain ⟨_, e32, rfl⟩ := hk 32 (by decide)
      obtain ⟨_, e33, rfl⟩ := hk 33 (by decide)
      clear hk
      have h2 : L 2 = true := he ⟨2, Ground.chain⟩ (by simp) (by decide)
      obtain ⟨O1, hva0, hO1⟩ := hW.2.2.2.2 h2
      have hq := pvadd w g [(sE T)] 1 (sE T) hva0 (fun i hd => Nat.lt_of_lt_of_le (HD.out.1 i hd) hW.1.size) HSH.out.1 (sE_len T) (HD.out.2.1.keep hW.1 HD.out.2.2)
      have HW := hid hW
      have H2 := hid (And.intro h2 hO1)
      clear hW hi he hva0 hO1 h2
      go_simp
      refine hq.mono ?_
      rintro e w5 ⟨O2, rfl, hva, hO2, hc⟩
      exact k _ _ (hc.mono (fun i hi h => H2.out.2 i h)) (HW.out.add2 (i := 5) (.inl rfl) (fun h => absurd h (by decide)) H2.out.1 H2.out.2 hva hO2 hc) rfl
    refine ObsL.cons none (by kernel_rfl) ?_ ?_
    · refine ObL.plain fun L a w hi he hW hk K k => ?_
      obtain ⟨_, e1, f1⟩ := hk 1 (by decide)
      clear hk
      have hS := hW.step (i := 6) (by decide)
      clear hi he hW
      go_simp
      exact k _ _ (Chg.refl _ _) hS f1
    refine ObsL.cons none (by kernel_rfl) ?_ ?_
    · refine ObL.plain fun L a w hi he hW hk K k => ?_
      obtain ⟨_, e6, rfl⟩ := hk 6 (by decide)
      clear hk
      obtain ⟨⟨y0, y1, y2, y3, y4, y5, y6, y7, y8⟩, y9⟩ := cred_at_sign (blk_keep HX.out.2.1 hW.1 (HQ.out _ (by first | exact .inl rfl | exact .inr rfl)))
      simp only [Nat.zero_add, d0, o0, noneR] at y0 y1 y2 y3 y4 y5 y6 y7 y8
      change _ = some (Value.string ⟨#[97]⟩) at y1
      change _ = some (Value.string ⟨#[114]⟩) at y2
      change _ = some (Value.string ⟨#[101]⟩) at y3
      change _ = some (Value.string ⟨#[]⟩) at y4
      change _ = some (Value.string ⟨#[]⟩) at y5
      change _ = some (Value.string ⟨#[]⟩) at y6
      change _ = some (Value.string ⟨#[]⟩) at y7
      change _ = some (Value.string ⟨#[]⟩) at y8
      have hS := hW.step (i := 7) (by decide)
      clear hi he hW
      go_simp
      exact k _ _ (Chg.refl _ _) hS rfl
    refine ObsL.cons none (by kernel_rfl) ?_ ?_
    · refine ObL.plain fun L a w hi he hW hk K k => ?_
      obtain ⟨_, e35, rfl⟩ := hk 35 (by decide)
      obtain ⟨_, e36, rfl⟩ := hk 36 (by decide)
      clear hk
      have h5 : L 5 = true := he ⟨5, Ground.chain⟩ (by simp) (by decide)
      have h2 := hW.2.1 h5
      obtain ⟨O1, hva0, hO1⟩ := hW.2.2.2.2 h2
      have hq := pvadd w g [(sE T)] 1 (oE T) hva0 (fun i hd => Nat.lt_of_lt_of_le (HD.out.1 i hd) hW.1.size) HSH.out.2 (oE_len T) (HD.out.2.1.keep hW.1 HD.out.2.2)
      have HW := hid hW
      have H2 := hid (And.intro h2 (And.intro hO1 h5))
      clear hW hi he hva0 hO1 h2 h5
      go_simp
      refine hq.mono ?_
      rintro e w5 ⟨O2, rfl, hva, hO2, hc⟩
      exact k _ _ (hc.mono (fun i hi h => H2.out.2.1 i h)) (HW.out.add2 (i := 8) (.inr rfl) (fun _ => H2.out.2.2) H2.out.1 H2.out.2.1 hva hO2 hc) rfl
    refine ObsL.cons none (by kernel_rfl) ?_ ?_
    · refine ObL.plain fun L a w hi he hW hk K k => ?_
      obtain ⟨_, e31, f31⟩ := hk 31 (by decide)
      clear hk
      have hS := hW.step (i := 9) (by decide)
      clear hi he hW
      go_simp
      exact k _ _ (Chg.refl _ _) hS f31
    refine ObsL.cons none (by kernel_rfl) ?_ ?_
    · refine ObL.plain fun L a w hi he hW hk K k => ?_
      obtain ⟨_, e34, f34⟩ := hk 34 (by decide)
      clear hk
      have hS := hW.step (i := 10) (by decide)
      clear hi he hW
      go_simp
      exact k _ _ (Chg.refl _ _) hS f34
    refine ObsL.cons none (by kernel_rfl) ?_ ?_
    · refine ObL.plain fun L a w hi he hW hk K k => ?_
      obtain ⟨_, e37, f37⟩ := hk 37 (by decide)
      clear hk
      have hS := hW.step (i := 11) (by decide)
      clear hi he hW
      go_simp
      exact k _ _ (Chg.refl _ _) hS f37
    exact ObsL.nil
  case fin =>
    intro L vals w9 hL hWL hv
    have h7 : vals 7 = .int .i64 0 := hv 7 (by decide)
    have h8 : vals 8 = .int .i64 41 := hv 8 (by decide)
    have h9 : vals 9 = .int .i64 40 := hv 9 (by decide)
    obtain ⟨O1, hva, hO1⟩ := hWL.2.2.2.2 (hL 2 (by decide))
    have hO9 : ∀ i, (O i ∨ w6.heap.size ≤ i) → w.heap.size ≤ i := fun i h => by
      have h6 := HC6.out.size
      rcases h with h | h
      · exact HO.out i h
      · omega
    have hch : Chg (fun _ => False) w w9 := HC6.out.trans hWL.1 (fun i hi h => by have := hO9 i h; omega)
    have HV : Hid (VF O1 D g S5 S6 T w w9) := hid ⟨hva, blk_keep HX.out.1 hWL.1 (HQ.out _ (.inl rfl)), blk_keep HX.out.2.1 hWL.1 (HQ.out _ (.inr rfl)), HD.out.2.1.keep hWL.1 HD.out.2.2, hch, fun i hi => hO9 i (hO1 i hi)⟩
    clear hL hWL hv hva hO1 hch hO9 HX HQ HD HC6 HO HVA
    simp only [putAll, List.setIfInBounds_toArray, List.set_cons_zero, List.set_cons_succ, h7, h8, h9]
    clear h7 h8 h9
    obtain ⟨⟨x0, x1, x2, x3, x4, x5, x6, x7, x8⟩, x9⟩ := cred_at_sign HV.out.c5
    simp only [Nat.zero_add, d0, o0, noneR] at x0 x1 x2 x3 x4 x5 x6 x7 x8
    change _ = some (Value.string ⟨#[97]⟩) at x1
    change _ = some (Value.string ⟨#[114]⟩) at x2
    change _ = some (Value.string ⟨#[100]⟩) at x3
    change _ = some (Value.string ⟨#[]⟩) at x4
    change _ = some (Value.string ⟨#[]⟩) at x5
    change _ = some (Value.string ⟨#[]⟩) at x6
    change _ = some (Value.string ⟨#[]⟩) at x7
    change _ = some (Value.string ⟨#[]⟩) at x8
    have HG : Hid (Calls Try.prog 6 #[.pointer (some ⟨g, 0, none⟩), .agg #[.int .i64 1, .string ⟨#[97]⟩, .string ⟨#[114]⟩, .string ⟨#[100]⟩, .string ⟨#[]⟩, .string ⟨#[]⟩, .string ⟨#[]⟩, .string ⟨#[]⟩, .string ⟨#[]⟩]] w9 fun e w' => GotV [sE T] d0 e w' ∧ Chg (fun _ => False) w9 w') := hid (pvget w9 g [sE T] 1 d0 HV.out.va HSH.out.1)
    go_wp2_with fail
    refine HG.out.mono ?_
    clear HG x0 x1 x2 x3 x4 x5 x6 x7 x8 x9
    rintro e w10 ⟨⟨t, ta, xcap, rfl, hbt, ht⟩, hc10⟩
    have ht2 : t = ⟨d0, z8⟩ := by rw [ht]; rfl
    subst ht2
    clear ht
    rw [show (getV [sE T] d0).isSome = true from rfl]
    have HV10 := hid (HV.out.keep hc10)
    have HBX := hid hbt
    clear HV hc10 hbt
    obtain ⟨qs, ao, len, vcap, hqs, hql, hheld, hgc⟩ : ∃ qs ao len cap, qs.map EntB.s = [⟨d0, z8⟩] ∧ qs.length = len ∧ HeldAt (fun i => O1 i ∧ i ≠ g) w10 ao cap qs ∧ w10.heap[g]? = some (.cells #[.int .i64 1, .slice ao len cap] 65 (0, 0)) := by
      obtain ⟨qs, ao, cap, h1, h2, h3, h4, _⟩ := HV10.out.va
      exact ⟨qs, ao, qs.length, cap, h1, rfl, h4, h2⟩
    have hlen1 : len = 1 := by have := congrArg List.length hqs; simp at this; omega
    have hO10 : ∀ i, O1 i → i < w10.heap.size := HV10.out.va.low
    have HH := hid (And.intro hqs (And.intro hql (And.intro hheld (And.intro hgc (And.intro hlen1 hO10)))))
    clear hqs hql hheld hgc hlen1 hO10
    have hz : (signV d0 (.slice ta z8.length xcap)) = .agg #[.int .i64 1, .string ⟨#[97]⟩, .string ⟨#[114]⟩, .string ⟨#[100]⟩, .string ⟨#[]⟩, .string ⟨#[]⟩, .string ⟨#[]⟩, .string ⟨#[]⟩, .string ⟨#[]⟩, .slice ta 8 xcap] := rfl
    rw [hz]
    clear hz
    go_wp2_with fail
    have hXB := heap_alloc_new w10 (.cells #[.int .i64 1, .string ⟨#[97]⟩, .string ⟨#[114]⟩, .string ⟨#[100]⟩, .string ⟨#[]⟩, .string ⟨#[]⟩, .string ⟨#[]⟩, .string ⟨#[]⟩, .string ⟨#[]⟩, .slice ta 8 xcap] 35)
    have hNB := Boxed.new (w10.alloc (.cells #[.int .i64 1, .string ⟨#[97]⟩, .string ⟨#[114]⟩, .string ⟨#[100]⟩, .string ⟨#[]⟩, .string ⟨#[]⟩, .string ⟨#[]⟩, .string ⟨#[]⟩, .string ⟨#[]⟩, .slice ta 8 xcap] 35)) 3 (.int .i64 0)
    rw [World.size_alloc] at hNB
    have hc12 : Chg (fun _ => False) w10 ((w10.alloc (.cells #[.int .i64 1, .string ⟨#[97]⟩, .string ⟨#[114]⟩, .string ⟨#[100]⟩, .string ⟨#[]⟩, .string ⟨#[]⟩, .string ⟨#[]⟩, .string ⟨#[]⟩, .string ⟨#[]⟩, .slice ta 8 xcap] 35)).alloc (.cells #[.int .i64 0] 3)) := ((Chg.refl _ _).alloc _).alloc _
    have hXB2 := blk_keep hXB ((Chg.refl (fun _ => False) _).alloc (.cells #[.int .i64 0] 3)) id
    have hsz : ((w10.alloc (.cells #[.int .i64 1, .string ⟨#[97]⟩, .string ⟨#[114]⟩, .string ⟨#[100]⟩, .string ⟨#[]⟩, .string ⟨#[]⟩, .string ⟨#[]⟩, .string ⟨#[]⟩, .string ⟨#[]⟩, .slice ta 8 xcap] 35)).alloc (.cells #[.int .i64 0] 3)).heap.size = w10.heap.size + 2 := by simp
    clear hXB
    generalize ((w10.alloc (.cells #[.int .i64 1, .string ⟨#[97]⟩, .string ⟨#[114]⟩, .string ⟨#[100]⟩, .string ⟨#[]⟩, .string ⟨#[]⟩, .string ⟨#[]⟩, .string ⟨#[]⟩, .string ⟨#[]⟩, .slice ta 8 xcap] 35)).alloc (.cells #[.int .i64 0] 3)) = w12 at *
    have HAL := hid (pvall0 (some ⟨g, 0, none⟩) ao len vcap w12 (pvlist w12 g 1 ao len vcap (blk_keep HH.out.2.2.2.1 hc12 id)))
    obtain ⟨Xb, hXb⟩ : ∃ Xb, Xb = w10.heap.size := ⟨_, rfl⟩
    rw [← hXb] at hNB hXB2 hsz ⊢
    have h12 := hid (And.intro hNB (And.intro hc12 (And.intro hXB2 (And.intro hsz hXb))))
    clear hNB hc12 hXB2 hsz hXb
    have he41 := enters_of Try.func41 (by kernel_rfl) rfl
    refine HAL.out.mono ?_
    clear HAL
    rintro e w13 ⟨rfl, rfl⟩
    obtain ⟨XX, hXX⟩ : ∃ XX, XX = w12.heap.size := ⟨_, rfl⟩
    have hbXX := Boxed.new w12 45 (.slice ao len vcap)
    rw [← hXX] at hbXX ⊢
    have hc13 : Chg (fun _ => False) w12 (w12.alloc (.cells #[.slice ao len vcap] 45)) := (Chg.refl _ _).alloc _
    generalize (w12.alloc (.cells #[.slice ao len vcap] 45)) = w13 at *
    have hN13 : Boxed w13 (Xb + 1) 3 (.int .i64 ((0 : Nat) : Int)) := h12.out.1.kept (chg_grown hc13) (by simp)
    have hc1013 := h12.out.2.1.trans hc13 (fun _ _ h => h)
    have HSEQ := hid (pvall2 (Xb + 1) XX len vcap (fun i => O1 i ∧ i ≠ g) ao qs w13 hbXX.cell (by have := h12.out.2.2.2.1; omega) HH.out.2.1 (by have := HH.out.2.2.2.2.1; omega) hN13 (HH.out.2.2.1.ents.keep hc1013 (fun _ _ => id)) (HH.out.2.2.1.tags.keep hc1013 (fun _ _ => id)) (fun i hi e => by have h1 := HH.out.2.2.2.2.2 i hi.1; have h2 := h12.out.2.2.2.2; omega) (fun i hi => by have h1 := HH.out.2.2.2.2.2 i hi.1; have h2 := hc1013.size; omega))
    have h13 := hid (And.intro hc1013 (blk_keep h12.out.2.2.1 hc13 id))
    clear hbXX hc13 hN13 hc1013 hXX
    have hfn := fun w f bs lb => neq_seq_nil w f bs lb
    go_wp2_with fail
    refine HSEQ.out.mono ?_
    clear HSEQ he41 hfn
    rintro e w14 ⟨rfl, hN14, hc14⟩
    have hc1014 : Chg (fun _ => False) w10 w14 := h13.out.1.trans hc14 (fun i hi e => by have := h12.out.2.2.2.2; omega)
    have HV14 := hid (HV10.out.keep hc1014)
    have HB14 : Hid (w14.heap[Xb]? = some (.cells (signBox d0 (.slice ta z8.length xcap)) 35 (0, 0)) ∧ BytesAt (fun _ => True) w14 (.slice ta z8.length xcap) z8 ∧ Boxed w14 (Xb + 1) 3 (.int .i64 1)) := hid ⟨blk_keep h13.out.2 hc14 (show ¬ Xb = Xb + 1 by omega), HBX.out.keep hc1014 (fun _ _ => id), by have := HH.out.2.2.2.2.1; subst this; exact hN14⟩
    clear hN14 hc14 hc1014 h13 HBX HV10 HH h12
    have HS := hid (show Calls Try.prog 18 #[.agg #[.int .i64 1, .string ⟨#[97]⟩, .string ⟨#[114]⟩, .string ⟨#[100]⟩, .string ⟨#[]⟩, .string ⟨#[]⟩, .string ⟨#[]⟩, .string ⟨#[]⟩, .string ⟨#[]⟩, .slice ta 8 xcap], .agg #[.int .i64 1, .string ⟨#[97]⟩, .string ⟨#[114]⟩, .string ⟨#[100]⟩, .string ⟨#[]⟩, .string ⟨#[]⟩, .string ⟨#[]⟩, .string ⟨#[]⟩, .string ⟨#[]⟩, .slice (some ⟨T, 0, none⟩) 8 8]] w14 fun e w' => e = .returned (.bool true) ∧ Chg (fun _ => False) w14 w' from rssame_yes d0 z8 ta (some ⟨T, 0, none⟩) xcap 8 w14 HB14.out.2.1 HV14.out.by_)
    obtain ⟨⟨u0, u1, u2, u3, u4, u5, u6, u7, u8⟩, u9⟩ := cred_at_sign HB14.out.1
    simp only [Nat.zero_add, d0, o0, noneR] at u0 u1 u2 u3 u4 u5 u6 u7 u8
    change _ = some (Value.string ⟨#[97]⟩) at u1
    change _ = some (Value.string ⟨#[114]⟩) at u2
    change _ = some (Value.string ⟨#[100]⟩) at u3
    change _ = some (Value.string ⟨#[]⟩) at u4
    change _ = some (Value.string ⟨#[]⟩) at u5
    change _ = some (Value.string ⟨#[]⟩) at u6
    change _ = some (Value.string ⟨#[]⟩) at u7
    change _ = some (Value.string ⟨#[]⟩) at u8
    change w14.cell? _ = some (.slice ta 8 xcap) at u9
    obtain ⟨⟨x0, x1, x2, x3, x4, x5, x6, x7, x8⟩, x9⟩ := cred_at_sign HV14.out.c5
    simp only [Nat.zero_add, d0, o0, noneR] at x0 x1 x2 x3 x4 x5 x6 x7 x8
    change _ = some (Value.string ⟨#[97]⟩) at x1
    change _ = some (Value.string ⟨#[114]⟩) at x2
    change _ = some (Value.string ⟨#[100]⟩) at x3
    change _ = some (Value.string ⟨#[]⟩) at x4
    change _ = some (Value.string ⟨#[]⟩) at x5
    change _ = some (Value.string ⟨#[]⟩) at x6
    change _ = some (Value.string ⟨#[]⟩) at x7
    change _ = some (Value.string ⟨#[]⟩) at x8
    change w14.cell? _ = some (.slice (some ⟨T, 0, none⟩) 8 8) at x9
    go_wp2_with fail
    refine HS.out.mono ?_
    clear HS u0 u1 u2 u3 u4 u5 u6 u7 u8 u9 x0 x1 x2 x3 x4 x5 x6 x7 x8 x9
    rintro e w15 ⟨rfl, hc⟩
    have HV15 := hid (HV14.out.keep hc)
    have q0 := (HB14.out.2.2.kept (chg_grown hc) (by simp)).cell
    clear hc HB14
    have HS : Hid (Calls Try.prog 9 #[.pointer (some ⟨g, 0, none⟩)] w15 fun e w' => e = .returned (.int .i64 1) ∧ Chg (fun _ => False) w15 w') := hid (pvlen w15 g [sE T] 1 HV15.out.va)
    go_wp2_with fail
    refine HS.out.mono ?_
    clear HS q0
    rintro e w16 ⟨rfl, hc⟩
    have HV16 := hid (HV15.out.keep hc)
    clear hc
    have HS : Hid (Calls Try.prog 10 #[.pointer (some ⟨g, 0, none⟩)] w16 fun e w' => e = .returned (.int .i64 0) ∧ Chg (fun _ => False) w16 w') := hid (pvroom w16 g [sE T] 1 HV16.out.va (by decide) (by decide) (by show (1 : Nat) ≤ 256; decide))
    go_wp2_with fail
    refine HS.out.mono ?_
    clear HS 
    rintro e w17 ⟨rfl, hc⟩
    have HV17 := hid (HV16.out.keep hc)
    clear hc
    have HS : Hid (Calls Try.prog 21 #[.pointer (some ⟨g, 0, none⟩), .agg #[.string ⟨#[97]⟩, .string ⟨#[114]⟩]] w17 fun e w' => (∃ ao cap, e = .returned (.slice ao 1 cap)) ∧ Chg (fun _ => False) w17 w') := hid ((pvhead w17 g [sE T] 1 HV17.out.va ([97], [114])).mono fun _ _ h => ⟨tells_one h.1 rfl, h.2⟩)
    obtain ⟨⟨x0, x1, x2, x3, x4, x5, x6, x7, x8⟩, x9⟩ := cred_at_sign HV17.out.c5
    simp only [Nat.zero_add, d0, o0, noneR] at x0 x1 x2 x3 x4 x5 x6 x7 x8
    change _ = some (Value.string ⟨#[97]⟩) at x1
    change _ = some (Value.string ⟨#[114]⟩) at x2
    change _ = some (Value.string ⟨#[100]⟩) at x3
    change _ = some (Value.string ⟨#[]⟩) at x4
    change _ = some (Value.string ⟨#[]⟩) at x5
    change _ = some (Value.string ⟨#[]⟩) at x6
    change _ = some (Value.string ⟨#[]⟩) at x7
    change _ = some (Value.string ⟨#[]⟩) at x8
    go_wp2_with fail
    refine HS.out.mono ?_
    clear HS x0 x1 x2 x3 x4 x5 x6 x7 x8 x9
    rintro e w18 ⟨⟨lo, lc, rfl⟩, hc⟩
    have HV18 := hid (HV17.out.keep hc)
    clear hc
    have HS : Hid (Calls Try.prog 12 #[.pointer (some ⟨g, 0, none⟩), .string ⟨#[97]⟩] w18 fun e w' => (∃ ao cap, e = .returned (.slice ao 1 cap)) ∧ Chg (fun _ => False) w18 w') := hid ((pvissuer w18 g [sE T] 1 HV18.out.va [97]).mono fun _ _ h => ⟨tells_one h.1 rfl, h.2⟩)
    go_wp2_with fail
    refine HS.out.mono ?_
    clear HS 
    rintro e w19 ⟨⟨lo, lc, rfl⟩, hc⟩
    have HV19 := hid (HV18.out.keep hc)
    clear hc
    have HS : Hid (Calls Try.prog 23 #[.pointer (some ⟨g, 0, none⟩), .string ⟨#[100]⟩] w19 fun e w' => (∃ ao cap, e = .returned (.slice ao 1 cap)) ∧ Chg (fun _ => False) w19 w') := hid ((pvsubject w19 g [sE T] 1 HV19.out.va [100]).mono fun _ _ h => ⟨tells_one h.1 rfl, h.2⟩)
    go_wp2_with fail
    refine HS.out.mono ?_
    clear HS 
    rintro e w20 ⟨⟨lo, lc, rfl⟩, hc⟩
    have HV20 := hid (HV19.out.keep hc)
    clear hc
    have HS : Hid (Calls Try.prog 24 #[.pointer (some ⟨g, 0, none⟩), .string ⟨#[114]⟩] w20 fun e w' => (∃ ao cap, e = .returned (.slice ao 1 cap)) ∧ Chg (fun _ => False) w20 w') := hid ((pvword w20 g [sE T] 1 HV20.out.va [114]).mono fun _ _ h => ⟨tells_one h.1 rfl, h.2⟩)
    go_wp2_with fail
    refine HS.out.mono ?_
    clear HS 
    rintro e w21 ⟨⟨lo, lc, rfl⟩, hc⟩
    have HV21 := hid (HV20.out.keep hc)
    clear hc
    have HS : Hid (Calls Try.prog 11 #[.pointer (some ⟨g, 0, none⟩)] w21 fun e w' => (∃ ao cap, e = .returned (.slice ao 1 cap)) ∧ Chg (fun _ => False) w21 w') := hid ((pvcreds w21 g [sE T] 1 HV21.out.va).mono fun _ _ h => ⟨tells_one h.1 rfl, h.2⟩)
    go_wp2_with fail
    refine HS.out.mono ?_
    clear HS 
    rintro e w22 ⟨⟨lo, lc, rfl⟩, hc⟩
    have HV22 := hid (HV21.out.keep hc)
    clear hc
    have HS : Hid (Calls Try.prog 8 #[.pointer (some ⟨g, 0, none⟩), .agg #[.int .i64 1, .string ⟨#[97]⟩, .string ⟨#[114]⟩, .string ⟨#[101]⟩, .string ⟨#[]⟩, .string ⟨#[]⟩, .string ⟨#[]⟩, .string ⟨#[]⟩, .string ⟨#[]⟩]] w22 fun e w' => e = .returned (.int .i64 42) ∧ Chg O1 w22 w') := hid ((pvdrop w22 g [sE T] 1 o0 HV22.out.va HSH.out.2).mono fun _ _ h => by obtain ⟨_, h1, _, _, h4⟩ := h; exact ⟨h1, h4⟩)
    obtain ⟨⟨x0, x1, x2, x3, x4, x5, x6, x7, x8⟩, x9⟩ := cred_at_sign HV22.out.c6
    simp only [Nat.zero_add, d0, o0, noneR] at x0 x1 x2 x3 x4 x5 x6 x7 x8
    change _ = some (Value.string ⟨#[97]⟩) at x1
    change _ = some (Value.string ⟨#[114]⟩) at x2
    change _ = some (Value.string ⟨#[101]⟩) at x3
    change _ = some (Value.string ⟨#[]⟩) at x4
    change _ = some (Value.string ⟨#[]⟩) at x5
    change _ = some (Value.string ⟨#[]⟩) at x6
    change _ = some (Value.string ⟨#[]⟩) at x7
    change _ = some (Value.string ⟨#[]⟩) at x8
    go_wp2_with fail
    refine HS.out.mono ?_
    clear HS x0 x1 x2 x3 x4 x5 x6 x7 x8 x9
    rintro e w23 ⟨rfl, hc⟩
    have HEND : Hid (Chg (fun _ => False) w w23) := hid (HV22.out.ch.trans hc (fun i hi h => by have := HV22.out.hi i h; omega))
    clear hc HV22
    go_wp2
    go_ret
    exact ⟨rfl, HEND.out⟩
end Go.Proofs.Ytfpaoaflhbppgaa

/- The arguments of laws, opened to cells: bytes, a small array. -/
namespace Go.Proofs.Ytfpaoaflhbppgaa
open Go.ChangeShapes Go.WideShapes Go.ChangeAt Go.RowKit Go.Deep

theorem Try.own : ownKnob Try.prog.godebug = none := by kernel_rfl
theorem Try.laidOut : laidOutB Try.prog = true := by kernel_rfl

theorem spot_none {w : World} {a : Addr} {v : Value} (h : w.cell? a = some v) : a = ⟨a.block, a.off, none⟩ := by
  obtain ⟨b, o, s⟩ := a
  cases s with
  | none => rfl
  | some x =>
    simp only [World.cell?] at h
    split at h
    · simp at h
    · cases h

theorem add_zero (a : Addr) : a.add 0 = a := by
  unfold Addr.add
  simp

theorem wf_u8 {n : Int} (h : (Lit.int .u8 n).wf = true) : 0 ≤ n ∧ n ≤ 255 := by
  have hmin : IntKind.u8.min = 0 := rfl
  have hmax : IntKind.u8.max = 255 := rfl
  simp only [Lit.wf, Bool.and_eq_true, decide_eq_true_eq] at h
  omega

theorem wf_i64 {n : Int} (h : (Lit.int .i64 n).wf = true) : -9223372036854775808 ≤ n ∧ n ≤ 9223372036854775807 := by
  have hmin : IntKind.i64.min = -9223372036854775808 := rfl
  have hmax : IntKind.i64.max = 9223372036854775807 := rfl
  simp only [Lit.wf, Bool.and_eq_true, decide_eq_true_eq] at h
  omega

section
variable {H : Type} {enc : TypeId × Value → H} {w : World} {base : Nat} {held : Bool} {fuel : Nat}

theorem open_bytes {cs : List Value} {x : DataW H × List MemPlace} (h : DataW.trod enc Try.prog w base (fun _ => true) held fuel 33 cs = some x) :
    ∃ (ao : Option Addr) (cap : Nat) (l : List UInt8), cs = [.slice ao l.length cap] ∧ l.length ≤ 9223372036854775807 ∧ BytesAt (fun k => k < w.heap.size) w (.slice ao l.length cap) l := by
  rcases open_ints Try.underlying33 Try.underlying5 (by kernel_rfl) h with ⟨rfl, _⟩ | ⟨a, len, cap, zs, rfl, _, hl, hm, hz, _, hcell, hwz⟩
  · exact ⟨none, 0, [], rfl, by simp, BytesAt.nil _ _⟩
  · simp only [if_true] at hz
    have hlen : ((zs.take len).map fun n => UInt8.ofNat n.toNat).length = len := by simp; omega
    refine ⟨some a, cap, (zs.take len).map fun n => UInt8.ofNat n.toNat, by rw [hlen], by rw [hlen]; unfold maxLen at hm; omega, ?_⟩
    rw [hlen]
    by_cases h0 : len = 0
    · subst h0
      exact .inl ⟨some a, cap, rfl, by simp, fun h => by cases h⟩
    · have h1 := hcell 0 (by omega)
      rw [add_zero] at h1
      have ha := spot_none h1
      have hlt := World.block_lt_of_cell? w _ h1
      refine .inr ⟨a.block, a.off, cap, by rw [hlen]; exact congrArg (fun z => Value.slice (some z) len cap) ha, by rw [hlen]; exact hl, hm, hlt, fun i hi => ?_⟩
      rw [hlen] at hi
      have h2 := hcell i (by omega)
      rw [ha, add_off] at h2
      rw [h2]
      have hget : zs.getD i 0 = zs[i]'(by omega) := by simp [List.getD, show i < zs.length by omega]
      have hb := wf_u8 (hwz _ (List.getElem_mem (show i < zs.length by omega)))
      rw [hget]
      congr 2
      simp only [List.getElem_map, List.getElem_take]
      rw [ofNat_u8 _ (by omega)]
      omega

theorem okWide_array {P : Program} {w : World} {r : Reach} {base : Nat} {t e : TypeId} {n : Nat} {v : Value} (ht : P.underlying t = some (.array n e)) (h : Value.okWide P w r base t v) : ∃ cs, v = .agg cs ∧ cs.size = P.cellsOf t := by
  simp only [Value.okWide, ht] at h
  obtain ⟨cs, h1, h2, _⟩ := h
  exact ⟨cs, h1, h2⟩

end

end Go.Proofs.Ytfpaoaflhbppgaa

/- A role that came in, opened to its cells. -/
namespace Go.Proofs.Ytfpaoaflhbppgaa
open Go.ChangeShapes Go.WideShapes Go.ChangeAt Go.RowKit Go.Deep

theorem choose_roles {α : Type} (n : Nat) (p : Nat → α → Prop) (h : ∀ i, i < n → ∃ x, p i x) : ∃ l : List α, l.length = n ∧ ∀ i (hi : i < l.length), p i l[i] := by
  induction n with
  | zero => exact ⟨[], rfl, fun i hi => by simp at hi⟩
  | succ n ih =>
    obtain ⟨l, hl, hp⟩ := ih (fun i hi => h i (by omega))
    obtain ⟨x, hx⟩ := h n (by omega)
    refine ⟨l ++ [x], by simp [hl], fun i hi => ?_⟩
    by_cases hin : i < l.length
    · rw [List.getElem_append_left hin]
      exact hp i hin
    · have : i = n := by simp [hl] at hi; omega
      subst this
      rw [List.getElem_append_right (by omega)]
      simpa [hl] using hx

section
variable {H : Type} {enc : TypeId × Value → H} {w : World} {base : Nat} {held : Bool} {fuel : Nat}

set_option maxRecDepth 100000 in
/-- Two cells that are read as a role. -/
theorem open_role_cells {spare : Nat → Bool} {cs : List Value} {x : DataW H × List MemPlace} (h : DataW.trod enc Try.prog w base spare held fuel 30 cs = some x) :
    ∃ r : RoleB, cs = roleCells r ∧ r.1.length ≤ 9223372036854775807 ∧ r.2.length ≤ 9223372036854775807 ∧ 1 + r.1.length + r.2.length ≤ Rows.uptoBulk x.1 := by
  obtain ⟨y0, y1, n, rfl, hl, h0, h1⟩ := trod_struct2 Try.underlying30 h
  have hc : Try.prog.cellsOf 30 = 2 := by kernel_rfl
  rw [hc] at hl
  match cs, hl with
  | [c0, c1], _ =>
    have e0 : DataW.trod enc Try.prog w base spare held n 9 [c0] = some y0 := h0
    have e1 : DataW.trod enc Try.prog w base spare held n 9 [c1] = some y1 := h1
    obtain ⟨s0, hs0, rfl, hm0⟩ := DataW.trod_string Try.underlying9 e0
    obtain ⟨s1, hs1, rfl, hm1⟩ := DataW.trod_string Try.underlying9 e1
    simp only [List.cons.injEq, and_true] at hs0 hs1
    subst hs0
    subst hs1
    unfold maxLen at hm0 hm1
    refine ⟨(s0.data.toList, s1.data.toList), rfl, hm0, hm1, ?_⟩
    simp [Rows.uptoBulk, Rows.uptoBulkAll]
    omega

set_option maxRecDepth 100000 in
/-- A role that came in. -/
theorem open_role {base0 : Nat} {r : Reach} {v : Value} {d : DataW H} {ps : List MemPlace} {spare : Nat → Bool} (hval : Value.okWide Try.prog w r base0 30 v) (hd : DataW.Trod enc Try.prog w base spare held 30 v d ps) :
    ∃ x : RoleB, v = roleV x ∧ x.1.length ≤ 9223372036854775807 ∧ x.2.length ≤ 9223372036854775807 ∧ 1 + x.1.length + x.2.length ≤ Rows.uptoBulk d := by
  obtain ⟨cs, rfl, _⟩ := okWide_struct Try.underlying30 hval
  obtain ⟨n, hn⟩ := hd
  obtain ⟨x, hx, h1, h2, h3⟩ := open_role_cells hn
  refine ⟨x, ?_, h1, h2, h3⟩
  have : cs.toList = roleCells x := hx
  have e : cs = (roleCells x).toArray := by rw [← this]
  rw [e]
  rfl
end
end Go.Proofs.Ytfpaoaflhbppgaa

/- Credentials that came in, one or a list, opened to cells; how much they hold. -/
namespace Go.Proofs.Ytfpaoaflhbppgaa
open Go.ChangeShapes Go.WideShapes Go.ChangeAt Go.RowKit Go.Deep

theorem cred_at_cells' {w : World} {g o : Nat} {c : CredB} (h : ∀ j, j < 9 → w.cell? ⟨g, o + j, none⟩ = (credCells c)[j]?) : CredAt w g o c :=
  ⟨h 0 (by omega), h 1 (by omega), h 2 (by omega), h 3 (by omega), h 4 (by omega), h 5 (by omega), h 6 (by omega), h 7 (by omega), h 8 (by omega)⟩

section
variable {H : Type} {enc : TypeId × Value → H} {w : World} {base : Nat} {held : Bool} {fuel : Nat}

set_option maxRecDepth 100000 in
/-- Nine cells that are read as a credential. -/
theorem open_cred_cells {spare : Nat → Bool} {cs : List Value} {x : DataW H × List MemPlace} (h : DataW.trod enc Try.prog w base spare held fuel 32 cs = some x) :
    ∃ c : CredB, cs = credCells c ∧ credShort c 9223372036854775807 ∧ sizeC c ≤ 3 * Rows.uptoBulk x.1 := by
  obtain ⟨xs, n, _, rfl, hl, hlen, hf⟩ := DataW.trod_struct Try.underlying32 h
  have hc : Try.prog.cellsOf 32 = 9 := by kernel_rfl
  have hr : Try.prog.cellsOf 30 = 2 := by kernel_rfl
  rw [hc] at hl
  match cs, hl, xs, hlen with
  | [c0, c1, c2, c3, c4, c5, c6, c7, c8], _, [y0, y1, y2, y3, y4, y5], _ =>
    have e0 : DataW.trod enc Try.prog w base spare held n 3 [c0] = some y0 := hf 0 _ rfl
    have e1 : DataW.trod enc Try.prog w base spare held n 30 [c1, c2] = some y1 := hf 1 _ rfl
    have e2 : DataW.trod enc Try.prog w base spare held n 9 [c3] = some y2 := hf 2 _ rfl
    have e3 : DataW.trod enc Try.prog w base spare held n 30 [c4, c5] = some y3 := hf 3 _ rfl
    have e4 : DataW.trod enc Try.prog w base spare held n 30 [c6, c7] = some y4 := hf 4 _ rfl
    have e5 : DataW.trod enc Try.prog w base spare held n 9 [c8] = some y5 := hf 5 _ rfl
    obtain ⟨k, hk, rfl, _⟩ := DataW.trod_int Try.underlying3 e0
    obtain ⟨hd, h1, a1, a2, a3⟩ := open_role_cells e1
    obtain ⟨s2, hs2, rfl, hm2⟩ := DataW.trod_string Try.underlying9 e2
    obtain ⟨b, h3, b1, b2, b3⟩ := open_role_cells e3
    obtain ⟨c, h4, d1, d2, d3⟩ := open_role_cells e4
    obtain ⟨s5, hs5, rfl, hm5⟩ := DataW.trod_string Try.underlying9 e5
    simp only [roleCells, List.cons.injEq, and_true] at hk h1 hs2 h3 h4 hs5
    obtain ⟨h1a, h1b⟩ := h1
    obtain ⟨h3a, h3b⟩ := h3
    obtain ⟨h4a, h4b⟩ := h4
    subst hk h1a h1b hs2 h3a h3b h4a h4b hs5
    unfold maxLen at hm2 hm5
    refine ⟨⟨k, hd, s2.data.toList, b, c, s5.data.toList⟩, rfl, ⟨a1, a2, hm2, b1, b2, d1, d2, hm5⟩, ?_⟩
    simp only [sizeC, Rows.uptoBulk, Rows.uptoBulkAll, List.map_cons, List.map_nil]
    omega

set_option maxRecDepth 100000 in
/-- A credential that came in. -/
theorem open_cred {base0 : Nat} {r : Reach} {v : Value} {d : DataW H} {ps : List MemPlace} {spare : Nat → Bool} (hval : Value.okWide Try.prog w r base0 32 v) (hd : DataW.Trod enc Try.prog w base spare held 32 v d ps) :
    ∃ x : CredB, v = credV x ∧ credShort x 9223372036854775807 ∧ sizeC x ≤ 3 * Rows.uptoBulk d := by
  obtain ⟨cs, rfl, _⟩ := okWide_struct Try.underlying32 hval
  obtain ⟨n, hn⟩ := hd
  obtain ⟨x, hx, h1, h2⟩ := open_cred_cells hn
  refine ⟨x, ?_, h1, h2⟩
  have : cs.toList = credCells x := hx
  have e : cs = (credCells x).toArray := by rw [← this]
  rw [e]
  rfl

theorem bulk_creds (D : Nat → DataW H) : ∀ (l : List CredB), (∀ i (h : i < l.length), sizeC l[i] ≤ 3 * Rows.uptoBulk (D i)) → totalC l ≤ 3 * Rows.uptoBulkAll ((List.range l.length).map D)
  | [], _ => Nat.zero_le _
  | x :: l, h => by
    have ih := bulk_creds (fun i => D (i + 1)) l (fun i hi => h (i + 1) (by simp only [List.length_cons]; omega))
    rw [List.length_cons, List.range_succ_eq_map, List.map_cons, List.map_map]
    simp only [totalC, Rows.uptoBulkAll]
    have h0 := h 0 (by simp)
    simp only [List.getElem_cons_zero] at h0
    have e : (List.range l.length).map (D ∘ Nat.succ) = (List.range l.length).map (fun i => D (i + 1)) := rfl
    rw [e]
    omega

set_option maxRecDepth 100000 in
/-- A list of credentials that came in. -/
theorem open_creds {cs : List Value} {x : DataW H × List MemPlace} (h : DataW.trod enc Try.prog w base (fun _ => true) held fuel 41 cs = some x) :
    ∃ (ao : Option Addr) (cap : Nat) (ls : List CredB), cs = [.slice ao ls.length cap] ∧ CredsAt (fun k => k < w.heap.size) w ao ls ∧ totalC ls ≤ 3 * Rows.uptoBulk x.1 ∧ (ao = none → cap = 0) := by
  rcases open_slice Try.underlying41 h with ⟨rfl, rfl⟩ | ⟨a, len, cap, m, n, D, Pl, rfl, _, hl, hm, hmm, rfl, hi⟩
  · exact ⟨none, 0, [], rfl, CredsAt.nil _ _ _, Nat.zero_le _, fun _ => rfl⟩
  · simp only [if_true] at hmm
    have hc9 : Try.prog.cellsOf 32 = 9 := by kernel_rfl
    have each : ∀ i, i < len → ∃ y : CredB, (∃ b off, some a = some ⟨b, off, none⟩ ∧ b < w.heap.size ∧ CredAt w b (off + i * 9) y ∧ credShort y 9223372036854775807) ∧ sizeC y ≤ 3 * Rows.uptoBulk (D i) := by
      intro i hil
      obtain ⟨cs', hcs, ht⟩ := hi i (by omega)
      rw [hc9] at hcs
      obtain ⟨r, hr, h1, h2⟩ := open_cred_cells ht
      subst hr
      obtain ⟨_, _, hat⟩ := World.cells?_some hcs
      have hs : a = ⟨a.block, a.off, none⟩ := by
        obtain ⟨cs'', hcs'', ht''⟩ := hi 0 (by omega)
        rw [hc9] at hcs''
        obtain ⟨r'', hr'', _⟩ := open_cred_cells ht''
        subst hr''
        obtain ⟨_, _, hat''⟩ := World.cells?_some hcs''
        have q := hat'' 0 (by decide)
        rw [Nat.zero_mul, add_zero, add_zero] at q
        exact spot_none q
      have hall : ∀ j, j < 9 → w.cell? ⟨a.block, a.off + i * 9 + j, none⟩ = (credCells r)[j]? := fun j hj => by
        have q := hat j (by simpa [credCells] using hj)
        rw [hs, add_off, add_off] at q
        exact q
      have hat9 := cred_at_cells' hall
      exact ⟨r, ⟨a.block, a.off, congrArg some hs, World.block_lt_of_cell? w ⟨a.block, a.off + i * 9, none⟩ hat9.k0, hat9, h1⟩, h2⟩
    obtain ⟨xs, hlen, hp⟩ := choose_roles len _ each
    subst hlen
    refine ⟨some a, cap, xs, rfl, fun i hi => (hp i hi).1, ?_, fun e => by cases e⟩
    have := bulk_creds D xs (fun i hi => (hp i hi).2)
    simp only [Rows.uptoBulk]
    omega
end
end Go.Proofs.Ytfpaoaflhbppgaa

/- How much a credential that came in can hold, by the reach of every claim. -/
namespace Go.Proofs.Ytfpaoaflhbppgaa
open Go.ChangeShapes Go.WideShapes Go.ChangeAt Go.RowKit Go.Deep

/-- Each string and slice of a datum is within the reach. -/
def InReach {H : Type} (t : TypeId) (d : DataW H) : Prop := ∀ n ∈ DataW.weights Try.prog t d, n ≤ reachBytes

theorem InReach.of {H : Type} {ts : List TypeId} {ds : List (DataW H)} (h : (DataW.weightsEach Try.prog ts ds).all (· ≤ reachBytes) = true) {j : Nat} {t : TypeId} {d : DataW H} (ht : ts[j]? = some t) (hd : ds[j]? = some d) : InReach t d := fun n hn => by
  simpa using List.all_eq_true.1 h n (DataW.weights_mem_each ht hd n hn)

theorem InReach.str {H : Type} {t : TypeId} {l : List UInt8} (h : InReach t (DataW.lit (H := H) (.string l))) : l.length ≤ reachBytes := h _ (by simp [DataW.weights])

section
variable {H : Type} {enc : TypeId × Value → H} {w : World} {base : Nat} {held : Bool} {fuel : Nat}

set_option maxRecDepth 100000 in
theorem reach_role_cells {spare : Nat → Bool} {cs : List Value} {x : DataW H × List MemPlace} (h : DataW.trod enc Try.prog w base spare held fuel 30 cs = some x) (hr : InReach 30 x.1) :
    ∃ r : RoleB, cs = roleCells r ∧ r.1.length ≤ reachBytes ∧ r.2.length ≤ reachBytes := by
  obtain ⟨y0, y1, n, rfl, hl, h0, h1⟩ := trod_struct2 Try.underlying30 h
  have hc : Try.prog.cellsOf 30 = 2 := by kernel_rfl
  rw [hc] at hl
  match cs, hl with
  | [c0, c1], _ =>
    have e0 : DataW.trod enc Try.prog w base spare held n 9 [c0] = some y0 := h0
    have e1 : DataW.trod enc Try.prog w base spare held n 9 [c1] = some y1 := h1
    obtain ⟨s0, hs0, rfl, hm0⟩ := DataW.trod_string Try.underlying9 e0
    obtain ⟨s1, hs1, rfl, hm1⟩ := DataW.trod_string Try.underlying9 e1
    simp only [List.cons.injEq, and_true] at hs0 hs1
    subst hs0
    subst hs1
    refine ⟨(s0.data.toList, s1.data.toList), rfl, hr _ ?_, hr _ ?_⟩
    · simp [DataW.weights, DataW.weightsEach, Try.underlying30]
    · simp [DataW.weights, DataW.weightsEach, Try.underlying30]

set_option maxRecDepth 100000 in
theorem reach_cred_cells {spare : Nat → Bool} {cs : List Value} {x : DataW H × List MemPlace} (h : DataW.trod enc Try.prog w base spare held fuel 32 cs = some x) (hr0 : InReach 32 x.1) :
    ∃ c : CredB, cs = credCells c ∧ credShort c reachBytes := by
  obtain ⟨xs, n, _, rfl, hl, hlen, hf⟩ := DataW.trod_struct Try.underlying32 h
  have hc : Try.prog.cellsOf 32 = 9 := by kernel_rfl
  rw [hc] at hl
  match cs, hl, xs, hlen with
  | [c0, c1, c2, c3, c4, c5, c6, c7, c8], _, [y0, y1, y2, y3, y4, y5], _ =>
    have e0 : DataW.trod enc Try.prog w base spare held n 3 [c0] = some y0 := hf 0 _ rfl
    have e1 : DataW.trod enc Try.prog w base spare held n 30 [c1, c2] = some y1 := hf 1 _ rfl
    have e2 : DataW.trod enc Try.prog w base spare held n 9 [c3] = some y2 := hf 2 _ rfl
    have e3 : DataW.trod enc Try.prog w base spare held n 30 [c4, c5] = some y3 := hf 3 _ rfl
    have e4 : DataW.trod enc Try.prog w base spare held n 30 [c6, c7] = some y4 := hf 4 _ rfl
    have e5 : DataW.trod enc Try.prog w base spare held n 9 [c8] = some y5 := hf 5 _ rfl
    have hw : ∀ (j : Nat) (t : TypeId) (d : DataW H), [3, 30, 9, 30, 30, 9][j]? = some t → [y0.1, y1.1, y2.1, y3.1, y4.1, y5.1][j]? = some d → InReach t d := by
      intro j t d ht hd k hk
      refine hr0 k ?_
      have := DataW.weights_mem_each (P := Try.prog) ht hd k hk
      simpa [DataW.weights, Try.underlying32] using this
    obtain ⟨k, hk, rfl, _⟩ := DataW.trod_int Try.underlying3 e0
    obtain ⟨hd, h1, a1, a2⟩ := reach_role_cells e1 (hw 1 _ _ rfl rfl)
    obtain ⟨s2, hs2, hy2, _⟩ := DataW.trod_string Try.underlying9 e2
    obtain ⟨b, h3, b1, b2⟩ := reach_role_cells e3 (hw 3 _ _ rfl rfl)
    obtain ⟨c, h4, d1, d2⟩ := reach_role_cells e4 (hw 4 _ _ rfl rfl)
    obtain ⟨s5, hs5, hy5, _⟩ := DataW.trod_string Try.underlying9 e5
    have r2 := hw 2 9 _ rfl rfl
    have r5 := hw 5 9 _ rfl rfl
    rw [hy2] at r2
    rw [hy5] at r5
    simp only [roleCells, List.cons.injEq, and_true] at hk h1 hs2 h3 h4 hs5
    obtain ⟨h1a, h1b⟩ := h1
    obtain ⟨h3a, h3b⟩ := h3
    obtain ⟨h4a, h4b⟩ := h4
    subst hk h1a h1b hs2 h3a h3b h4a h4b hs5
    exact ⟨⟨k, hd, s2.data.toList, b, c, s5.data.toList⟩, rfl, a1, a2, r2.str, b1, b2, d1, d2, r5.str⟩

theorem sizeC_reach {c : CredB} (h : credShort c reachBytes) : sizeC c ≤ 1125899906842644 := by
  obtain ⟨s1, s2, s3, s4, s5, s6, s7, s8⟩ := h
  unfold reachBytes at *
  unfold sizeC
  omega

set_option maxRecDepth 100000 in
/-- A credential that came in. -/
theorem reach_cred {base0 : Nat} {r : Reach} {v : Value} {d : DataW H} {ps : List MemPlace} {spare : Nat → Bool} (hval : Value.okWide Try.prog w r base0 32 v) (hd : DataW.Trod enc Try.prog w base spare held 32 v d ps) (hr : InReach 32 d) :
    ∃ x : CredB, v = credV x ∧ credShort x 9223372036854775807 ∧ sizeC x ≤ 1125899906842644 := by
  obtain ⟨cs, rfl, _⟩ := okWide_struct Try.underlying32 hval
  obtain ⟨n, hn⟩ := hd
  obtain ⟨x, hx, h1⟩ := reach_cred_cells hn hr
  refine ⟨x, ?_, h1.mono (by decide), sizeC_reach h1⟩
  have : cs.toList = credCells x := hx
  have e : cs = (credCells x).toArray := by rw [← this]
  rw [e]
  rfl
end
end Go.Proofs.Ytfpaoaflhbppgaa
