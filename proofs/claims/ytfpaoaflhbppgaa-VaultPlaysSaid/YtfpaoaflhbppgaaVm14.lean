/- Texts that the proof leans on, in one: PvAdd, PvDrop. -/
import Derived.Test.YtfpaoaflhbppgaaVm13
/- The last region of the vault's Add: a new list is laid in. -/
namespace Go.Proofs.Ytfpaoaflhbppgaa
open Go.RowKit

def paSpecs (A g lo n cap kk : Nat) (hB : g < lo) (ao : Option Addr) (s : EntB) (J : EntB → List EntB) : List (SpecR (Chg (· = g))) := [.eq (.pointer (some ⟨g, 0, none⟩)), .any, .any, .eq (.pointer (some ⟨A, 0, none⟩)), .any, .eq (.int .i64 (kk : Nat)), .any, .any, .any, .any, .any, .any, .any, .any, .any, .any, .any, .any, .any, .any, .any, .any, .any, .any, .any, .any, .any, .any, .any, .any, .eq (.pointer (some ⟨g, 0, none⟩)), .eq (.pointer (some ⟨g, 0, none⟩)), .eq (.pointer (some ⟨g, 0, none⟩)), .eq (.pointer (some ⟨g, 1, none⟩)), .eq (.slice ao n cap), .eq (.int .i64 (kk : Nat)), .eq (.slice ao kk cap), .eq (signV s.c (.slice s.ta s.tag.length s.cap)), .sgn g lo hB s.c s.tag, .oneE g lo hB s, .eq (.pointer (some ⟨g, 0, none⟩)), .eq (.pointer (some ⟨g, 0, none⟩)), .eq (.pointer (some ⟨g, 1, none⟩)), .eq (.slice ao n cap), .eq (.int .i64 (kk : Nat)), .eq (.slice (lowA ao cap kk) (n - kk) (cap - kk)), .partsE g lo hB s 3 J, .joinedE g lo hB s J, .eq (.pointer (some ⟨g, 0, none⟩)), .eq (.pointer (some ⟨g, 1, none⟩))]

/-- What Add still owes behind its questions. -/
def AddEnd (O : Nat → Prop) (g : Nat) (m : Int) (ss : List SignB) (w2 : World) (e : Ending) (w' : World) : Prop := e = .returned (.int .i64 0) ∧ NewF O g m ss w2 w'

/-- What Add leaves behind. -/
def AddP (O D : Nat → Prop) (w : World) (g : Nat) (es : List EntB) (m : Int) (s : EntB) (e : Ending) (w' : World) : Prop :=
  ∃ O' : Nat → Prop, e = .returned (.int .i64 (addErr es m s)) ∧ VAt O' D w' g ((addV es m s).map EntB.s) m ∧ (∀ i, O' i → O i ∨ w.heap.size ≤ i) ∧ Chg O w w'

theorem addP_no {O D : Nat → Prop} {w w' : World} {g : Nat} {es : List EntB} {m : Int} {s : EntB} {k : Int} (h : VAt O D w g (es.map EntB.s) m) (hc : Chg (fun _ => False) w w') (he : (addErr es m s : Int) = k) (hk : k ≠ 0) : AddP O D w g es m s (.returned (.int .i64 k)) w' := by
  refine ⟨O, by rw [he], ?_, fun i hi => .inl hi, hc.mono (fun _ _ h => h.elim)⟩
  have : addV es m s = es := by
    unfold addV
    rw [if_neg (by omega)]
  rw [this]
  exact h.keep hc (fun _ _ => id)

theorem addP_yes {O D : Nat → Prop} {w w2 w' : World} {g : Nat} {es : List EntB} {m : Int} {s : EntB} (hO : O g) (hc : Chg (fun _ => False) w w2) (hOl : ∀ i, O i → i < w.heap.size) (he : addErr es m s = 0) (hm : ((es.length + 1 : Nat) : Int) ≤ m ∧ m ≤ 256) (hF : NewF O g m ((insV s es).map EntB.s) w2 w') : AddP O D w g es m s (.returned (.int .i64 0)) w' := by
  obtain ⟨qs, ao, cap, h1, h2, h3, h4⟩ := hF
  have hq : qs.length = es.length + 1 := by have := congrArg List.length h1; simpa [insV_len] using this
  have hsz := hc.size
  refine ⟨fun i => O i ∨ w2.heap.size ≤ i ∧ i < w'.heap.size, by rw [he]; rfl, ?_, fun i hi => hi.imp id (fun h => by omega), (hc.mono (fun _ _ h => h.elim)).trans h4 (fun i _ e => by have : i = g := e; rw [this]; exact hO)⟩
  have : addV es m s = insV s es := by unfold addV; rw [if_pos he]
  rw [this]
  refine ⟨qs, ao, cap, h1, h2, .inl hO, h3, fun i hi => ?_, ?_⟩
  · rcases hi with h | h
    · have := hOl i h; have := h4.size; omega
    · exact h.2
  · rw [hq]; exact hm

set_option maxRecDepth 100000 in
set_option maxHeartbeats 8000000 in
theorem pvadd {O D : Nat → Prop} (w : World) (g : Nat) (es : List EntB) (m : Int) (s : EntB) (hva : VAt O D w g (es.map EntB.s) m) (hD : ∀ i, D i → i < w.heap.size) (hsh : credShort s.c 1048576) (htl : s.tag.length ≤ 1048576) (hby : BytesAt D w (.slice s.ta s.tag.length s.cap) s.tag) :
    Calls Try.prog 7 #[.pointer (some ⟨g, 0, none⟩), signV s.c (.slice s.ta s.tag.length s.cap)] w (AddP O D w g es m s) := by
  have hs63 : credShort s.c 9223372036854775807 := short_more hsh (by decide)
  obtain ⟨qs, ao, cap, h1, h2, h3, h4, h5, h6, h7⟩ := id hva
  obtain ⟨n, hn⟩ : ∃ n, qs.length = n := ⟨_, rfl⟩
  have hne : es.length = n := by have := congrArg List.length h1; simp at this; omega
  rw [hn] at h2
  have hn256 : n ≤ 256 := by have := h4.most; omega
  have hc1 : Chg (fun _ => False) w (w.alloc (.cells #[.int .i64 s.c.kind, .string ⟨s.c.head.1.toArray⟩, .string ⟨s.c.head.2.toArray⟩, .string ⟨s.c.who.toArray⟩, .string ⟨s.c.b.1.toArray⟩, .string ⟨s.c.b.2.toArray⟩, .string ⟨s.c.c.1.toArray⟩, .string ⟨s.c.c.2.toArray⟩, .string ⟨s.c.w2.toArray⟩, .slice s.ta s.tag.length s.cap] 35)) := (Chg.refl _ w).alloc _
  have HV : Hid (VAt O D (w.alloc (.cells #[.int .i64 s.c.kind, .string ⟨s.c.head.1.toArray⟩, .string ⟨s.c.head.2.toArray⟩, .string ⟨s.c.who.toArray⟩, .string ⟨s.c.b.1.toArray⟩, .string ⟨s.c.b.2.toArray⟩, .string ⟨s.c.c.1.toArray⟩, .string ⟨s.c.c.2.toArray⟩, .string ⟨s.c.w2.toArray⟩, .slice s.ta s.tag.length s.cap] 35)) g (es.map EntB.s) m ∧ (w.alloc (.cells #[.int .i64 s.c.kind, .string ⟨s.c.head.1.toArray⟩, .string ⟨s.c.head.2.toArray⟩, .string ⟨s.c.who.toArray⟩, .string ⟨s.c.b.1.toArray⟩, .string ⟨s.c.b.2.toArray⟩, .string ⟨s.c.c.1.toArray⟩, .string ⟨s.c.c.2.toArray⟩, .string ⟨s.c.w2.toArray⟩, .slice s.ta s.tag.length s.cap] 35)).heap[w.heap.size]? = some (.cells (signBox s.c (.slice s.ta s.tag.length s.cap)) 35 (0, 0)) ∧ (w.alloc (.cells #[.int .i64 s.c.kind, .string ⟨s.c.head.1.toArray⟩, .string ⟨s.c.head.2.toArray⟩, .string ⟨s.c.who.toArray⟩, .string ⟨s.c.b.1.toArray⟩, .string ⟨s.c.b.2.toArray⟩, .string ⟨s.c.c.1.toArray⟩, .string ⟨s.c.c.2.toArray⟩, .string ⟨s.c.w2.toArray⟩, .slice s.ta s.tag.length s.cap] 35)).heap[g]? = some (.cells #[.int .i64 m, .slice ao n cap] 65 (0, 0)) ∧ HeldAt (fun i => O i ∧ i ≠ g) (w.alloc (.cells #[.int .i64 s.c.kind, .string ⟨s.c.head.1.toArray⟩, .string ⟨s.c.head.2.toArray⟩, .string ⟨s.c.who.toArray⟩, .string ⟨s.c.b.1.toArray⟩, .string ⟨s.c.b.2.toArray⟩, .string ⟨s.c.c.1.toArray⟩, .string ⟨s.c.c.2.toArray⟩, .string ⟨s.c.w2.toArray⟩, .slice s.ta s.tag.length s.cap] 35)) ao cap qs ∧ BytesAt D (w.alloc (.cells #[.int .i64 s.c.kind, .string ⟨s.c.head.1.toArray⟩, .string ⟨s.c.head.2.toArray⟩, .string ⟨s.c.who.toArray⟩, .string ⟨s.c.b.1.toArray⟩, .string ⟨s.c.b.2.toArray⟩, .string ⟨s.c.c.1.toArray⟩, .string ⟨s.c.c.2.toArray⟩, .string ⟨s.c.w2.toArray⟩, .slice s.ta s.tag.length s.cap] 35)) (.slice s.ta s.tag.length s.cap) s.tag ∧ Chg (fun _ => False) w (w.alloc (.cells #[.int .i64 s.c.kind, .string ⟨s.c.head.1.toArray⟩, .string ⟨s.c.head.2.toArray⟩, .string ⟨s.c.who.toArray⟩, .string ⟨s.c.b.1.toArray⟩, .string ⟨s.c.b.2.toArray⟩, .string ⟨s.c.c.1.toArray⟩, .string ⟨s.c.c.2.toArray⟩, .string ⟨s.c.w2.toArray⟩, .slice s.ta s.tag.length s.cap] 35))) := hid ⟨hva.keep hc1 (fun _ _ => id), heap_alloc_new w _, blk_keep h2 hc1 id, h4.keep hc1 (fun _ _ => id), hby.keep hc1 (fun _ _ => id), hc1⟩
  have HE : Hid (VAt O D w g (es.map EntB.s) m ∧ qs.map EntB.s = es.map EntB.s ∧ qs.length = n ∧ es.length = n ∧ O g ∧ (∀ i, O i → i < w.heap.size) ∧ (n : Int) ≤ m ∧ m ≤ 256) := hid ⟨hva, h1, hn, hne, h3, h5, by rw [← hn]; exact h6, h7⟩
  have HT0 : Hid (s.tag.length ≤ 1048576 ∧ (∀ i, D i → i < w.heap.size)) := hid ⟨htl, hD⟩
  have HS := hid hs63
  have HR := hid (pcright s.c (w.alloc (.cells #[.int .i64 s.c.kind, .string ⟨s.c.head.1.toArray⟩, .string ⟨s.c.head.2.toArray⟩, .string ⟨s.c.who.toArray⟩, .string ⟨s.c.b.1.toArray⟩, .string ⟨s.c.b.2.toArray⟩, .string ⟨s.c.c.1.toArray⟩, .string ⟨s.c.c.2.toArray⟩, .string ⟨s.c.w2.toArray⟩, .slice s.ta s.tag.length s.cap] 35)) hs63)
  clear hs63 h1 h2 h3 h4 h5 h6 h7 hn hne hc1 hva hD hsh htl hby
  unfold credV credBox at HR
  show Calls Try.prog 7 #[.pointer (some ⟨g, 0, none⟩), .agg #[.int .i64 s.c.kind, .string ⟨s.c.head.1.toArray⟩, .string ⟨s.c.head.2.toArray⟩, .string ⟨s.c.who.toArray⟩, .string ⟨s.c.b.1.toArray⟩, .string ⟨s.c.b.2.toArray⟩, .string ⟨s.c.c.1.toArray⟩, .string ⟨s.c.c.2.toArray⟩, .string ⟨s.c.w2.toArray⟩, .slice s.ta s.tag.length s.cap]] w _
  obtain ⟨⟨y0, y1, y2, y3, y4, y5, y6, y7, y8⟩, y9⟩ := cred_at_sign HV.out.2.1
  simp only [Nat.zero_add] at y0 y1 y2 y3 y4 y5 y6 y7 y8
  go_enter Try.func7, Try.ntmps7
  go_wp2_with fail
  refine HR.out.mono ?_
  clear HR y0 y1 y2 y3 y4 y5 y6 y7 y8 y9
  rintro e w2 ⟨rfl, hc2⟩
  have HV2 : Hid (VAt O D w2 g (es.map EntB.s) m ∧ w2.heap[w.heap.size]? = some (.cells (signBox s.c (.slice s.ta s.tag.length s.cap)) 35 (0, 0)) ∧ w2.heap[g]? = some (.cells #[.int .i64 m, .slice ao n cap] 65 (0, 0)) ∧ HeldAt (fun i => O i ∧ i ≠ g) w2 ao cap qs ∧ BytesAt D w2 (.slice s.ta s.tag.length s.cap) s.tag ∧ Chg (fun _ => False) w w2) := hid ⟨HV.out.1.keep hc2 (fun _ _ => id), blk_keep HV.out.2.1 hc2 id, blk_keep HV.out.2.2.1 hc2 id, HV.out.2.2.2.1.keep hc2 (fun _ _ => id), HV.out.2.2.2.2.1.keep hc2 (fun _ _ => id), HV.out.2.2.2.2.2.trans hc2 (fun _ _ h => h)⟩
  clear HV hc2
  obtain ⟨A, hA⟩ : ∃ A, A = w.heap.size := ⟨_, rfl⟩
  rw [← hA] at HV2 ⊢
  have HAe := hid hA
  clear hA
  obtain ⟨tn, htn⟩ : ∃ tn, tn = s.tag.length := ⟨_, rfl⟩
  have HTN := hid htn
  by_cases hr : isCred s.c = true
  · have HRT := hid hr
    rw [hr]
    clear hr
    obtain ⟨⟨y0, y1, y2, y3, y4, y5, y6, y7, y8⟩, y9⟩ := cred_at_sign HV2.out.2.1
    simp only [Nat.zero_add] at y0 y1 y2 y3 y4 y5 y6 y7 y8
    rw [← htn] at y9 ⊢
    clear htn
    by_cases h8 : tn = 8
    · have z1 : ((tn : Int) != 8) = false := by rw [h8]; rfl
      have HIS : Hid (isSign s.s = true) := hid (by unfold isSign; simp only [Bool.and_eq_true, decide_eq_true_eq]; exact ⟨HRT.out, by show s.tag.length = 8; rw [← HTN.out]; exact h8⟩)
      clear h8
      have hf := pvfind s.c g m ao n cap qs (es.map EntB.s) w2 HV2.out.2.2.1 HE.out.2.1.symm HE.out.2.2.1 HV2.out.2.2.2.1.ents (by rw [← HE.out.2.1]; exact HV2.out.2.2.2.1.ok) hn256 HS.out
      unfold credV credBox at hf
      have HF := hid hf
      clear hf
      go_wp2_with fail
      refine HF.out.mono ?_
      clear HF z1 y0 y1 y2 y3 y4 y5 y6 y7 y8 y9
      rintro e w3 ⟨kk, rfl, hcut, hc3⟩
      have HV3 : Hid (VAt O D w3 g (es.map EntB.s) m ∧ w3.heap[A]? = some (.cells (signBox s.c (.slice s.ta s.tag.length s.cap)) 35 (0, 0)) ∧ w3.heap[g]? = some (.cells #[.int .i64 m, .slice ao n cap] 65 (0, 0)) ∧ HeldAt (fun i => O i ∧ i ≠ g) w3 ao cap qs ∧ BytesAt D w3 (.slice s.ta s.tag.length s.cap) s.tag ∧ Chg (fun _ => False) w w3) := hid ⟨HV2.out.1.keep hc3 (fun _ _ => id), blk_keep HV2.out.2.1 hc3 id, blk_keep HV2.out.2.2.1 hc3 id, HV2.out.2.2.2.1.keep hc3 (fun _ _ => id), HV2.out.2.2.2.2.1.keep hc3 (fun _ _ => id), HV2.out.2.2.2.2.2.trans hc3 (fun _ _ h => h)⟩
      clear HV2 hc3
      have HCUT := hid hcut
      clear hcut
      by_cases hh : hasG (es.map EntB.s) s.c = true
      · rw [hh]
        have HEND := hid (addP_no HE.out.1 HV3.out.2.2.2.2.2 (s := s) (k := 41) (by unfold addErr; rw [if_pos HIS.out, ← hasV_map, if_pos hh]; rfl) (by decide))
        clear hh
        go_wp2
        go_ret
        exact HEND.out
      · have hhf : hasG (es.map EntB.s) s.c = false := by simpa using hh
        rw [hhf]
        have HHN := hid hhf
        clear hh hhf
        have HRM := hid (pvroom w3 g es m HV3.out.1 (by have := HE.out.2.2.2.2.2.2.1; omega) HE.out.2.2.2.2.2.2.2 (by rw [HE.out.2.2.2.1]; exact hn256))
        go_wp2_with fail
        refine HRM.out.mono ?_
        clear HRM
        rintro e w4 ⟨rfl, hc4⟩
        have HV4 : Hid (w4.heap[A]? = some (.cells (signBox s.c (.slice s.ta s.tag.length s.cap)) 35 (0, 0)) ∧ w4.heap[g]? = some (.cells #[.int .i64 m, .slice ao n cap] 65 (0, 0)) ∧ HeldAt (fun i => O i ∧ i ≠ g) w4 ao cap qs ∧ BytesAt D w4 (.slice s.ta s.tag.length s.cap) s.tag ∧ Chg (fun _ => False) w w4) := hid ⟨blk_keep HV3.out.2.1 hc4 id, blk_keep HV3.out.2.2.1 hc4 id, HV3.out.2.2.2.1.keep hc4 (fun _ _ => id), HV3.out.2.2.2.2.1.keep hc4 (fun _ _ => id), HV3.out.2.2.2.2.2.trans hc4 (fun _ _ h => h)⟩
        clear HV3 hc4
        obtain ⟨rm, hrm⟩ : ∃ rm : Int, rm = m - (es.length : Nat) := ⟨_, rfl⟩
        rw [← hrm]
        have HRE := hid hrm
        clear hrm
        by_cases hz : rm = 0
        · have z1 : (rm == 0) = true := by rw [hz]; rfl
          have HEND := hid (addP_no HE.out.1 HV4.out.2.2.2.2 (s := s) (k := 40) (by unfold addErr; rw [if_pos HIS.out, ← hasV_map, HHN.out, if_neg (by decide), if_pos (by have := HRE.out; omega)]; rfl) (by decide))
          clear hz
          go_wp2
          go_ret
          exact HEND.out
        · have z1 : (rm == 0) = false := by simpa using hz
          have HLM : Hid (((es.length + 1 : Nat) : Int) ≤ m ∧ m ≤ 256) := hid ⟨by have h1 := HRE.out; have h2 := HE.out.2.2.2.2.2.2.1; have h3 := HE.out.2.2.2.1; omega, HE.out.2.2.2.2.2.2.2⟩
          have HERR : Hid (addErr es m s = 0) := hid (by unfold addErr; rw [if_pos HIS.out, ← hasV_map, HHN.out, if_neg (by decide), if_neg (by have := HLM.out; omega)])
          have HYES : Hid (∀ w', NewF O g m ((insV s es).map EntB.s) w4 w' → AddP O D w g es m s (.returned (.int .i64 0)) w') := hid fun w' hF => addP_yes HE.out.2.2.2.2.1 HV4.out.2.2.2.2 HE.out.2.2.2.2.2.1 HERR.out HLM.out hF
          have hcq : CutAt (qs.map EntB.s) s.c kk := by rw [HE.out.2.1]; exact HCUT.out
          have hkn : kk ≤ n := by have := HCUT.out.le; simp at this; have := HE.out.2.2.2.1; omega
          have HINS : Hid (∀ x : EntB, x.s = s.s → (qs.take kk ++ x :: qs.drop kk).map EntB.s = (insV s es).map EntB.s ∧ HeldOk ((qs.take kk ++ x :: qs.drop kk).map EntB.s)) := hid (fun x hx => by
            have hok := HV4.out.2.2.1.ok
            have h1 : (qs.take kk ++ x :: qs.drop kk).map EntB.s = (qs.map EntB.s).take kk ++ s.s :: (qs.map EntB.s).drop kk := by rw [List.map_append, List.map_cons, List.map_take, List.map_drop, hx]
            have hokE : HeldOk (es.map EntB.s) := by rw [← HE.out.2.1]; exact hok
            have hng : hasG (qs.map EntB.s) s.c = false := by rw [HE.out.2.1]; exact HHN.out
            refine ⟨?_, ?_⟩
            · rw [h1, insV_cut HCUT.out (by rw [← hasV_map]; exact HHN.out) hokE, List.map_append, List.map_cons, List.map_take, List.map_drop, HE.out.2.1]
            · rw [h1]; exact hok.ins HIS.out hcq hng)
          have HJL : Hid (∀ x : EntB, (qs.take kk ++ x :: qs.drop kk).length ≤ 4194304) := hid (fun x => by simp only [List.length_append, List.length_cons, List.length_take, List.length_drop]; have := HE.out.2.2.1; omega)
          have HJ : Hid (∀ x : EntB, joinE [⟨ao, cap, qs.take kk⟩, ⟨some ⟨0, 0, none⟩, 1, [x]⟩, ⟨lowA ao cap kk, cap - kk, qs.drop kk⟩] = qs.take kk ++ x :: qs.drop kk) := hid (fun x => by simp [joinE])
          have HDONE : Hid (∀ (W : World) (x : EntB) (v : Value), Chg (fun _ => False) w4 W → x.s = s.s → OwnE w4.heap.size W v (qs.take kk ++ x :: qs.drop kk) → BytesAt (fun k => w4.heap.size ≤ k ∧ k < W.heap.size) W (.slice x.ta x.tag.length x.cap) x.tag → ∃ ao2 cap2, v = .slice ao2 (qs.take kk ++ x :: qs.drop kk).length cap2 ∧ NewF O g m ((insV s es).map EntB.s) w4 (W.setCell ⟨g, 1, none⟩ (.slice ao2 (qs.take kk ++ x :: qs.drop kk).length cap2))) := hid (fun W x v hR hx hv hbt => by
            obtain ⟨hm1, hok⟩ := HINS.out x hx
            have hgl := lt_blk HV4.out.2.1
            have hd := new_done (O := O) hgl HV4.out.2.1 hR hv hok (by simp only [List.length_append, List.length_cons, List.length_take, List.length_drop]; have := HE.out.2.2.1; have h2 := HLM.out; have h3 := HE.out.2.2.2.1; omega) (fun t ht => by
              have hq : t ∈ qs ∨ t = x := by
                rcases List.mem_append.1 ht with h | h
                · exact .inl (List.mem_of_mem_take h)
                · rcases List.mem_cons.1 h with h | h
                  · exact .inr h
                  · exact .inl (List.mem_of_mem_drop h)
              rcases hq with h | h
              · exact (((HV4.out.2.2.1.tags t h).2).keep hR (fun _ _ => id)).mono (fun i hi => ⟨.inl hi.1, hi.2⟩)
              · rw [h]; exact hbt.mono (fun i hi => ⟨.inr hi, by omega⟩))
            obtain ⟨ao2, cap2, h1, h2⟩ := hd
            exact ⟨ao2, cap2, h1, by rw [← hm1]; exact h2⟩)
          have HX : Hid (w4.heap[g]? = some (.cells #[.int .i64 m, .slice ao n cap] 65 (0, 0)) ∧ w4.heap[A]? = some (.cells (signBox s.c (.slice s.ta s.tag.length s.cap)) 35 (0, 0)) ∧ EntsAt (fun i => O i ∧ i ≠ g) w4 ao qs) := hid ⟨HV4.out.2.1, HV4.out.1, HV4.out.2.2.1.ents⟩
          have HT : Hid (s.tag.length ≤ 140737488355328 ∧ (∀ i, D i → i < w4.heap.size) ∧ BytesAt D w4 (.slice s.ta s.tag.length s.cap) s.tag) := hid ⟨by have := HT0.out.1; omega, fun i hi => by have := HT0.out.2 i hi; have := HV4.out.2.2.2.2.size; omega, HV4.out.2.2.2.1⟩
          have hcl : n ≤ cap := by have := HV4.out.2.2.1.len; have := HE.out.2.2.1; omega
          have HQ : Hid (qs.length = n ∧ kk ≤ n ∧ n ≤ cap ∧ (ao = none → cap = 0)) := hid ⟨HE.out.2.2.1, hkn, hcl, HV4.out.2.2.1.z⟩
          have HK : Hid ((kk ≤ cap) = True ∧ (kk ≤ n) = True ∧ (n ≤ cap) = True) := hid ⟨by simp; omega, by simp; omega, by simp; omega⟩
          have hB : g < w4.heap.size := lt_blk HV4.out.2.1
          obtain ⟨J, hJ⟩ : ∃ J : EntB → List EntB, J = fun x => qs.take kk ++ x :: qs.drop kk := ⟨_, rfl⟩
          have HJ' : Hid (∀ (x : EntB) (bx : Nat), joinE [⟨ao, cap, qs.take kk⟩, ⟨some ⟨bx, 0, none⟩, 1, [x]⟩, ⟨lowA ao cap kk, cap - kk, qs.drop kk⟩] = J x) := hid (fun x bx => by rw [hJ]; simp [joinE])
          have HJL' : Hid (∀ x : EntB, (J x).length ≤ 4194304) := hid (fun x => by rw [hJ]; exact HJL.out x)
          have HDONE' : Hid (∀ (W : World) (x : EntB) (v : Value), Chg (fun _ => False) w4 W → x.s = s.s → OwnE w4.heap.size W v (J x) → BytesAt (fun k => w4.heap.size ≤ k ∧ k < W.heap.size) W (.slice x.ta x.tag.length x.cap) x.tag → ∃ ao2 n2 cap2, v = .slice ao2 n2 cap2 ∧ NewF O g m ((insV s es).map EntB.s) w4 (W.setCell ⟨g, 1, none⟩ (.slice ao2 n2 cap2))) := hid (fun W x v hR hx hv hbt => by
            rw [hJ] at hv
            obtain ⟨ao2, cap2, h1, h2⟩ := HDONE.out W x v hR hx hv hbt
            exact ⟨ao2, _, cap2, h1, h2⟩)
          clear HJ HJL HDONE HINS HRE HHN HERR HLM HIS HRT HCUT hcq hkn hz hJ hcl
          have HW4 : Hid (Chg (fun _ => False) w w4) := hid HV4.out.2.2.2.2
          clear HV4
          go_wp2_with fail
          clear z1
          refine wp_region_state (Chg (· = g)) (LastW 20 18 w4 (NewF O g m ((insV s es).map EntB.s) w4)) (specAtR (paSpecs A g w4.heap.size n cap kk hB ao s J)) [30, 31, 32, 33, 34, 35, 36, 37, 38, 39, 40, 41, 42, 43, 44, 45, 46, 47, 48, 49] [0, 3, 5] (by kernel_rfl) (by kernel_rfl) (LastW.start _ _ _ _ (Chg.refl _ _).drew) (fun t v w w' hc h => specAtR_st _ t v w w' hc h) (by rfl) (by kernel_rfl) ?start ?obs ?fin
          case start =>
            simp only [List.forall_mem_cons]; exact ⟨⟨_, rfl, rfl⟩, ⟨_, rfl, rfl⟩, ⟨_, rfl, rfl⟩, fun _ h => by cases h⟩
          case obs =>
            clear HYES HE
            refine ObsL.cons none (by kernel_rfl) ?_ ?_
            · refine ObL.plain fun L a w hi he hW hk K k => ?_
              obtain ⟨_, e0, f0⟩ := hk 0 (by decide)
              clear hk
              have hS := hW.step (by decide) hi (Chg.refl _ _)
              clear hi he hW
              go_simp
              exact k _ _ (Chg.refl _ _) hS f0
            refine ObsL.cons none (by kernel_rfl) ?_ ?_
            · refine ObL.plain fun L a w hi he hW hk K k => ?_
              obtain ⟨_, e0, f0⟩ := hk 0 (by decide)
              clear hk
              have hS := hW.step (by decide) hi (Chg.refl _ _)
              clear hi he hW
              go_simp
              exact k _ _ (Chg.refl _ _) hS f0
            refine ObsL.cons none (by kernel_rfl) ?_ ?_
            · refine ObL.plain fun L a w hi he hW hk K k => ?_
              obtain ⟨_, e31, rfl⟩ := hk 31 (by decide)
              clear hk
              have hS := hW.step (by decide) hi (Chg.refl _ _)
              clear hi he hW
              go_simp
              exact k _ _ (Chg.refl _ _) hS rfl
            refine ObsL.cons none (by kernel_rfl) ?_ ?_
            · refine ObL.plain fun L a w hi he hW hk K k => ?_
              obtain ⟨_, e32, rfl⟩ := hk 32 (by decide)
              clear hk
              have hS := hW.step (by decide) hi (Chg.refl _ _)
              clear hi he hW
              go_simp
              exact k _ _ (Chg.refl _ _) hS rfl
            refine ObsL.cons none (by kernel_rfl) ?_ ?_
            · refine ObL.plain fun L a w hi he hW hk K k => ?_
              obtain ⟨_, e33, rfl⟩ := hk 33 (by decide)
              clear hk
              have y1 := (hW.early (by decide) hi).cell (cell_blk HX.out.1 1) id
              have hS := hW.step (by decide) hi (Chg.refl _ _)
              clear hi he hW
              go_simp
              exact k _ _ (Chg.refl _ _) hS rfl
            refine ObsL.cons none (by kernel_rfl) ?_ ?_
            · refine ObL.plain fun L a w hi he hW hk K k => ?_
              obtain ⟨_, e5, f5⟩ := hk 5 (by decide)
              clear hk
              have hS := hW.step (by decide) hi (Chg.refl _ _)
              clear hi he hW
              go_simp
              exact k _ _ (Chg.refl _ _) hS f5
            refine ObsL.cons none (by kernel_rfl) ?_ ?_
            · refine ObL.plain fun L a w hi he hW hk K k => ?_
              obtain ⟨_, e34, rfl⟩ := hk 34 (by decide)
              obtain ⟨_, e35, rfl⟩ := hk 35 (by decide)
              clear hk
              have hS := hW.step (by decide) hi (Chg.refl _ _)
              have z1 := HK.out.1
              clear hi he hW
              go_simp
              exact k _ _ (Chg.refl _ _) hS rfl
            refine ObsL.cons none (by kernel_rfl) ?_ ?_
            · refine ObL.plain fun L a w hi he hW hk K k => ?_
              obtain ⟨_, e3, rfl⟩ := hk 3 (by decide)
              clear hk
              obtain ⟨⟨y0, y1, y2, y3, y4, y5, y6, y7, y8⟩, y9⟩ := cred_at_sign (blk_keep HX.out.2.1 (hW.early (by decide) hi) id)
              simp only [Nat.zero_add] at y0 y1 y2 y3 y4 y5 y6 y7 y8
              have hS := hW.step (by decide) hi (Chg.refl _ _)
              clear hi he hW
              go_simp
              exact k _ _ (Chg.refl _ _) hS rfl
            refine ObsL.cons none (by kernel_rfl) ?_ ?_
            · refine ObL.plain fun L a w hi he hW hk K k => ?_
              obtain ⟨_, e37, rfl⟩ := hk 37 (by decide)
              clear hk
              have hR := hW.early (by decide) hi
              have hq := pvcopied s.c s.tag s.ta s.cap w HT.out.1 (fun i hi => Nat.lt_of_lt_of_le (HT.out.2.1 i hi) hR.size) (HT.out.2.2.keep hR (fun _ _ => id))
              have HW := hid (And.intro hW (And.intro hi hR.size))
              clear hW hi he hR
              go_simp
              refine hq.mono ?_
              rintro e w5 ⟨ta, tc, rfl, hbt, hcc⟩
              exact k _ _ (hcc.mono (fun _ _ h => h.elim)) (HW.out.1.step (by decide) HW.out.2.1 hcc) ⟨ta, tc, rfl, hbt.mono (fun i hi => ⟨Nat.le_trans HW.out.2.2 hi.1, hi.2⟩)⟩
            refine ObsL.cons none (by kernel_rfl) ?_ ?_
            · refine ObL.plain fun L a w hi he hW hk K k => ?_
              obtain ⟨_, e38, f38⟩ := hk 38 (by decide)
              clear hk
              obtain ⟨ta, tc, rfl, hbt⟩ := f38
              have hR := hW.early (by decide) hi
              have hal : Chg (fun _ => False) w (w.alloc (.cells #[.int .i64 s.c.kind, .string ⟨s.c.head.1.toArray⟩, .string ⟨s.c.head.2.toArray⟩, .string ⟨s.c.who.toArray⟩, .string ⟨s.c.b.1.toArray⟩, .string ⟨s.c.b.2.toArray⟩, .string ⟨s.c.c.1.toArray⟩, .string ⟨s.c.c.2.toArray⟩, .string ⟨s.c.w2.toArray⟩, .slice ta s.tag.length tc] 35)) := (Chg.refl _ w).alloc _
              have HF := hid (And.intro hR (And.intro hal (And.intro (heap_alloc_new w (.cells #[.int .i64 s.c.kind, .string ⟨s.c.head.1.toArray⟩, .string ⟨s.c.head.2.toArray⟩, .string ⟨s.c.who.toArray⟩, .string ⟨s.c.b.1.toArray⟩, .string ⟨s.c.b.2.toArray⟩, .string ⟨s.c.c.1.toArray⟩, .string ⟨s.c.c.2.toArray⟩, .string ⟨s.c.w2.toArray⟩, .slice ta s.tag.length tc] 35)) (hbt.keep hal (fun _ _ => id)))))
              have HS := hid (hW.step (by decide) hi hal)
              clear hi he hW hR hal hbt
              unfold signV signBox at e38
              go_simp
              exact k _ _ (HF.out.2.1.mono (fun _ _ h => h.elim)) HS.out ⟨⟨s.c, s.tag, ta, tc⟩, _, rfl, rfl, HF.out.1.size, HF.out.2.2.1, HF.out.2.2.2.mono (fun i hi => ⟨hi.1, Nat.lt_of_lt_of_le hi.2 HF.out.2.1.size⟩)⟩
            refine ObsL.cons none (by kernel_rfl) ?_ ?_
            · refine ObL.plain fun L a w hi he hW hk K k => ?_
              obtain ⟨_, e0, f0⟩ := hk 0 (by decide)
              clear hk
              have hS := hW.step (by decide) hi (Chg.refl _ _)
              clear hi he hW
              go_simp
              exact k _ _ (Chg.refl _ _) hS f0
            refine ObsL.cons none (by kernel_rfl) ?_ ?_
            · refine ObL.plain fun L a w hi he hW hk K k => ?_
              obtain ⟨_, e40, rfl⟩ := hk 40 (by decide)
              clear hk
              have hS := hW.step (by decide) hi (Chg.refl _ _)
              clear hi he hW
              go_simp
              exact k _ _ (Chg.refl _ _) hS rfl
            refine ObsL.cons none (by kernel_rfl) ?_ ?_
            · refine ObL.plain fun L a w hi he hW hk K k => ?_
              obtain ⟨_, e41, rfl⟩ := hk 41 (by decide)
              clear hk
              have hS := hW.step (by decide) hi (Chg.refl _ _)
              clear hi he hW
              go_simp
              exact k _ _ (Chg.refl _ _) hS rfl
            refine ObsL.cons none (by kernel_rfl) ?_ ?_
            · refine ObL.plain fun L a w hi he hW hk K k => ?_
              obtain ⟨_, e42, rfl⟩ := hk 42 (by decide)
              clear hk
              have y1 := (hW.early (by decide) hi).cell (cell_blk HX.out.1 1) id
              have hS := hW.step (by decide) hi (Chg.refl _ _)
              clear hi he hW
              go_simp
              exact k _ _ (Chg.refl _ _) hS rfl
            refine ObsL.cons none (by kernel_rfl) ?_ ?_
            · refine ObL.plain fun L a w hi he hW hk K k => ?_
              obtain ⟨_, e5, f5⟩ := hk 5 (by decide)
              clear hk
              have hS := hW.step (by decide) hi (Chg.refl _ _)
              clear hi he hW
              go_simp
              exact k _ _ (Chg.refl _ _) hS f5
            refine ObsL.cons none (by kernel_rfl) ?_ ?_
            · refine ObL.plain fun L a w hi he hW hk K k => ?_
              obtain ⟨_, e43, rfl⟩ := hk 43 (by decide)
              obtain ⟨_, e44, rfl⟩ := hk 44 (by decide)
              clear hk
              have hS := hW.step (by decide) hi (Chg.refl _ _)
              have z1 := HK.out.2.1
              have z2 := HK.out.2.2
              clear hi he hW
              go_simp
              exact k _ _ (Chg.refl _ _) hS rfl
            refine ObsL.cons none (by kernel_rfl) ?_ ?_
            · refine ObL.plain fun L a w hi he hW hk K k => ?_
              obtain ⟨_, e36, rfl⟩ := hk 36 (by decide)
              obtain ⟨_, e39, f39⟩ := hk 39 (by decide)
              obtain ⟨_, e45, rfl⟩ := hk 45 (by decide)
              clear hk
              obtain ⟨x, bx, hxs, rfl, hbx, hblk, hbt⟩ := f39
              have hR := hW.early (by decide) hi
              have hal : Chg (fun _ => False) w (w.alloc (.cells #[.slice ao kk cap, .slice (some ⟨bx, 0, none⟩) 1 1, .slice (lowA ao cap kk) (n - kk) (cap - kk)] 45)) := (Chg.refl _ w).alloc _
              have hP := parts_three HQ.out.1 HQ.out.2.1 HQ.out.2.2.1 HQ.out.2.2.2 (HX.out.2.2.keep hR (fun _ _ => id)) hblk (show ¬ bx = g by omega) hal (heap_alloc_new w (.cells #[.slice ao kk cap, .slice (some ⟨bx, 0, none⟩) 1 1, .slice (lowA ao cap kk) (n - kk) (cap - kk)] 45))
              have HF := hid (And.intro hR.size (And.intro hal (And.intro hP (hbt.keep hal (fun _ _ => id)))))
              have HS := hid (hW.step (by decide) hi hal)
              have HXS := hid hxs
              clear hi he hW hR hal hbt hP hblk hxs
              go_simp
              exact k _ _ (HF.out.2.1.mono (fun _ _ h => h.elim)) HS.out ⟨x, _, _, HXS.out, rfl, rfl, HJ'.out x _, HF.out.1, HF.out.2.2.1, HF.out.2.2.2.mono (fun i hi => ⟨hi.1, Nat.lt_of_lt_of_le hi.2 HF.out.2.1.size⟩)⟩
            refine ObsL.cons none (by kernel_rfl) ?_ ?_
            · refine ObL.plain fun L a w hi he hW hk K k => ?_
              obtain ⟨_, e46, f46⟩ := hk 46 (by decide)
              clear hk
              obtain ⟨x, gb, ps, hxs, rfl, hp3, hjo, hgb, hP, hbt⟩ := f46
              have hR := hW.early (by decide) hi
              have hlen : (joinE ps).length ≤ 4194304 := by rw [hjo]; exact HJL'.out x
              have hq := pvconcat gb 3 3 ps w hp3.symm (by decide) hlen hP
              rw [hjo] at hq
              have HF := hid (And.intro hR.size (And.intro hbt hxs))
              have HW := hid (And.intro hW hi)
              clear hW hi he hbt hR hP hlen hxs hjo hp3
              go_simp
              refine hq.mono ?_
              rintro e w5 ⟨v, rfl, hv, hcc⟩
              exact k _ _ (hcc.mono (fun _ _ h => h.elim)) (HW.out.1.step (by decide) HW.out.2 hcc) ⟨x, HF.out.2.2, ownE_low hv HF.out.1, (HF.out.2.1.keep hcc (fun _ _ => id)).mono (fun i hi => ⟨hi.1, Nat.lt_of_lt_of_le hi.2 hcc.size⟩)⟩
            refine ObsL.cons none (by kernel_rfl) ?_ ?_
            · refine ObL.plain fun L a w hi he hW hk K k => ?_
              obtain ⟨_, e30, rfl⟩ := hk 30 (by decide)
              clear hk
              have hS := hW.stay (j := 18) (by decide)
              clear hi he hW
              go_simp
              exact k _ _ (Chg.refl _ _) hS rfl
            refine ObsL.cons none (by kernel_rfl) ?_ ?_
            · refine ObL.plain fun L a w hi he hW hk K k => ?_
              obtain ⟨_, e48, rfl⟩ := hk 48 (by decide)
              clear hk
              have hS := hW.stay (j := 19) (by decide)
              clear hi he hW
              go_simp
              exact k _ _ (Chg.refl _ _) hS rfl
            refine ObsL.cons none (by kernel_rfl) ?_ ?_
            · refine ObL.plain fun L a w hi he hW hk K k => ?_
              obtain ⟨_, e49, rfl⟩ := hk 49 (by decide)
              obtain ⟨_, e47, f47⟩ := hk 47 (by decide)
              clear hk
              obtain ⟨x, hxs, hv, hbt⟩ := f47
              have hR := hW.pre hi
              have hall : ∀ j, j < 18 → L j = true := fun j hj => by
                match j, hj with
                | 0, _ => exact he ⟨0, Ground.phase⟩ (by simp) (by decide)
                | 1, _ => exact he ⟨1, Ground.phase⟩ (by simp) (by decide)
                | 2, _ => exact he ⟨2, Ground.phase⟩ (by simp) (by decide)
                | 3, _ => exact he ⟨3, Ground.phase⟩ (by simp) (by decide)
                | 4, _ => exact he ⟨4, Ground.phase⟩ (by simp) (by decide)
                | 5, _ => exact he ⟨5, Ground.phase⟩ (by simp) (by decide)
                | 6, _ => exact he ⟨6, Ground.phase⟩ (by simp) (by decide)
                | 7, _ => exact he ⟨7, Ground.phase⟩ (by simp) (by decide)
                | 8, _ => exact he ⟨8, Ground.phase⟩ (by simp) (by decide)
                | 9, _ => exact he ⟨9, Ground.phase⟩ (by simp) (by decide)
                | 10, _ => exact he ⟨10, Ground.phase⟩ (by simp) (by decide)
                | 11, _ => exact he ⟨11, Ground.phase⟩ (by simp) (by decide)
                | 12, _ => exact he ⟨12, Ground.phase⟩ (by simp) (by decide)
                | 13, _ => exact he ⟨13, Ground.phase⟩ (by simp) (by decide)
                | 14, _ => exact he ⟨14, Ground.phase⟩ (by simp) (by decide)
                | 15, _ => exact he ⟨15, Ground.phase⟩ (by simp) (by decide)
                | 16, _ => exact he ⟨16, Ground.phase⟩ (by simp) (by decide)
                | 17, _ => exact he ⟨17, Ground.phase⟩ (by simp) (by decide)
                | j + 18, h => exact absurd h (by omega)
              obtain ⟨ao2, n2, cap2, rfl, hF⟩ := HDONE'.out w x _ hR hxs hv hbt
              have HS := hid (hW.last hall hF)
              have y1 := hR.cell (cell_blk HX.out.1 1) id
              have g1 := froz_blk (blk_keep HX.out.1 hR id) 1
              clear hi he hW hR hall hF hxs hv hbt
              go_simp
              exact k undef _ (setCell_chg w g 1 _) HS.out trivial
            exact ObsL.nil
          case fin =>
            intro L vals w9 hL hWL hv
            have HEND := hid (HYES.out w9 (hWL.post (hL 20 (by decide))))
            clear hL hWL hv
            simp only [putAll, List.setIfInBounds_toArray, List.set_cons_zero, List.set_cons_succ]
            go_wp2
            go_ret
            exact HEND.out
    · have z1 : ((tn : Int) != 8) = true := by simp; omega
      have HEND := hid (addP_no HE.out.1 HV2.out.2.2.2.2.2 (s := s) (k := 11) (by unfold addErr; rw [if_neg]; · rfl
                                                                                  · unfold isSign; simp only [Bool.and_eq_true, decide_eq_true_eq]; rintro ⟨_, h⟩; apply h8; rw [HTN.out]; exact h) (by decide))
      clear h8
      go_wp2
      go_ret
      exact HEND.out
  · have hrf : isCred s.c = false := by simpa using hr
    have HEND := hid (addP_no HE.out.1 HV2.out.2.2.2.2.2 (s := s) (k := 11) (by unfold addErr; rw [if_neg]; · rfl
                                                                                · unfold isSign; simp only [Bool.and_eq_true]; rintro ⟨h, _⟩; exact hr h) (by decide))
    rw [hrf]
    clear hr hrf htn
    go_wp2
    go_ret
    exact HEND.out
end Go.Proofs.Ytfpaoaflhbppgaa

/- The contract of the vault's Drop. -/
namespace Go.Proofs.Ytfpaoaflhbppgaa
open Go.RowKit

def SpecR.partsD (g lo : Nat) (hg : g < lo) (n : Nat) (J : List EntB) : SpecR (Chg (· = g)) :=
  ⟨fun v w => ∃ (gb : Nat) (ps : List PartE), v = .slice (some ⟨gb, 0, none⟩) n n ∧ ps.length = n ∧ joinE ps = J ∧ lo ≤ gb ∧ PartsE (fun i => i ≠ g) w gb ps,
   fun _ _ _ hc ⟨gb, ps, h2, h3, h4, h5, h6⟩ => ⟨gb, ps, h2, h3, h4, h5, h6.keep hc (fun e => by have : gb = g := e; omega) (fun i hi e => hi e)⟩⟩

def SpecR.joinedD (g lo : Nat) (hg : g < lo) (J : List EntB) : SpecR (Chg (· = g)) :=
  ⟨fun v w => OwnE lo w v J,
   fun v _ _ hc h2 => h2.keep hc (fun k hk e => by
      have : k = g := e
      rcases h2.2 with ⟨hx', _⟩ | ⟨g', cap', cur, hx', hg', _⟩
      · rw [hx'] at hk; cases hk
      · have hk2 : g' = k := by rw [hx'] at hk; simpa [Value.ownBlock] using hk
        omega)⟩

def pdSpecs (g lo n cap kk : Nat) (hB : g < lo) (ao : Option Addr) (J : List EntB) : List (SpecR (Chg (· = g))) := [.eq (.pointer (some ⟨g, 0, none⟩)), .any, .any, .any, .any, .eq (.int .i64 (kk : Nat)), .any, .any, .any, .any, .any, .any, .any, .any, .any, .any, .any, .eq (.pointer (some ⟨g, 0, none⟩)), .eq (.pointer (some ⟨g, 0, none⟩)), .eq (.pointer (some ⟨g, 0, none⟩)), .eq (.pointer (some ⟨g, 1, none⟩)), .eq (.slice ao n cap), .eq (.int .i64 (kk : Nat)), .eq (.slice ao kk cap), .eq (.pointer (some ⟨g, 0, none⟩)), .eq (.pointer (some ⟨g, 0, none⟩)), .eq (.pointer (some ⟨g, 1, none⟩)), .eq (.slice ao n cap), .eq (.int .i64 (kk : Nat)), .eq (.int .i64 ((kk + 1 : Nat) : Int)), .eq (.slice (lowA ao cap (kk + 1)) (n - (kk + 1)) (cap - (kk + 1))), .partsD g lo hB 2 J, .joinedD g lo hB J, .eq (.pointer (some ⟨g, 0, none⟩)), .eq (.pointer (some ⟨g, 1, none⟩))]

theorem int_eq {a b : Int} (h : a = b) : Value.int .i64 a = .int .i64 b := by rw [h]

/-- What Drop leaves behind. -/
def DropP (O D : Nat → Prop) (w : World) (g : Nat) (es : List EntB) (m : Int) (c : CredB) (e : Ending) (w' : World) : Prop :=
  ∃ O' : Nat → Prop, e = .returned (.int .i64 (dropErr es c)) ∧ VAt O' D w' g ((dropV es c).map EntB.s) m ∧ (∀ i, O' i → O i ∨ w.heap.size ≤ i) ∧ Chg O w w'

theorem dropP_no {O D : Nat → Prop} {w w' : World} {g : Nat} {es : List EntB} {m : Int} {c : CredB} (h : VAt O D w g (es.map EntB.s) m) (hc : Chg (fun _ => False) w w') (hn : hasV es c = false) : DropP O D w g es m c (.returned (.int .i64 42)) w' := by
  refine ⟨O, by rw [dropErr, offV_none hn, if_pos rfl]; rfl, ?_, fun i hi => .inl hi, hc.mono (fun _ _ h => h.elim)⟩
  rw [dropV, offV_none hn, if_pos rfl]
  exact h.keep hc (fun _ _ => id)

theorem dropP_yes {O D : Nat → Prop} {w w2 w' : World} {g : Nat} {es : List EntB} {m : Int} {c : CredB} {k : Nat} (hO : O g) (hc : Chg (fun _ => False) w w2) (hOl : ∀ i, O i → i < w.heap.size) (hoff : offV es c = es.take k ++ es.drop (k + 1)) (hk : k < es.length) (hm : (es.length : Int) ≤ m ∧ m ≤ 256) (hF : NewF O g m ((es.take k ++ es.drop (k + 1)).map EntB.s) w2 w') : DropP O D w g es m c (.returned (.int .i64 0)) w' := by
  obtain ⟨qs, ao, cap, h1, h2, h3, h4⟩ := hF
  have hl : (es.take k ++ es.drop (k + 1)).length ≠ es.length := by simp only [List.length_append, List.length_take, List.length_drop]; omega
  have hl2 : (es.take k ++ es.drop (k + 1)).length ≤ es.length := by simp only [List.length_append, List.length_take, List.length_drop]; omega
  have hq : qs.length = (es.take k ++ es.drop (k + 1)).length := by have := congrArg List.length h1; rw [List.length_map, List.length_map] at this; exact this
  have hsz := hc.size
  refine ⟨fun i => O i ∨ w2.heap.size ≤ i ∧ i < w'.heap.size, by rw [dropErr, hoff, if_neg hl]; rfl, ?_, fun i hi => hi.imp id (fun h => by omega), (hc.mono (fun _ _ h => h.elim)).trans h4 (fun i _ e => by have : i = g := e; rw [this]; exact hO)⟩
  rw [dropV, hoff, if_neg hl]
  refine ⟨qs, ao, cap, h1, h2, .inl hO, h3, fun i hi => ?_, by omega, hm.2⟩
  rcases hi with h | h
  · have := hOl i h; have := h4.size; omega
  · exact h.2

set_option maxRecDepth 100000 in
set_option maxHeartbeats 8000000 in
theorem pvdrop {O D : Nat → Prop} (w : World) (g : Nat) (es : List EntB) (m : Int) (c : CredB) (hva : VAt O D w g (es.map EntB.s) m) (hsh : credShort c 1048576) :
    Calls Try.prog 8 #[.pointer (some ⟨g, 0, none⟩), credV c] w (DropP O D w g es m c) := by
  have hs63 : credShort c 9223372036854775807 := short_more hsh (by decide)
  obtain ⟨qs, ao, cap, h1, h2, h3, h4, h5, h6, h7⟩ := id hva
  obtain ⟨n, hn⟩ : ∃ n, qs.length = n := ⟨_, rfl⟩
  have hne : es.length = n := by have := congrArg List.length h1; simp at this; omega
  rw [hn] at h2
  have hn256 : n ≤ 256 := by have := h4.most; omega
  have hc1 : Chg (fun _ => False) w (w.alloc (.cells (credBox c) 32)) := (Chg.refl _ w).alloc _
  have HV : Hid ((w.alloc (.cells (credBox c) 32)).heap[w.heap.size]? = some (.cells (credBox c) 32 (0, 0)) ∧ (w.alloc (.cells (credBox c) 32)).heap[g]? = some (.cells #[.int .i64 m, .slice ao n cap] 65 (0, 0)) ∧ HeldAt (fun i => O i ∧ i ≠ g) (w.alloc (.cells (credBox c) 32)) ao cap qs ∧ Chg (fun _ => False) w (w.alloc (.cells (credBox c) 32))) := hid ⟨heap_alloc_new w _, blk_keep h2 hc1 id, h4.keep hc1 (fun _ _ => id), hc1⟩
  have HE : Hid (VAt O D w g (es.map EntB.s) m ∧ qs.map EntB.s = es.map EntB.s ∧ qs.length = n ∧ es.length = n ∧ O g ∧ (∀ i, O i → i < w.heap.size) ∧ (n : Int) ≤ m ∧ m ≤ 256) := hid ⟨hva, h1, hn, hne, h3, h5, by rw [← hn]; exact h6, h7⟩
  have HS := hid hs63
  have hf := pvfind c g m ao n cap qs (es.map EntB.s) (w.alloc (.cells (credBox c) 32)) HV.out.2.1 HE.out.2.1.symm HE.out.2.2.1 HV.out.2.2.1.ents (by rw [← HE.out.2.1]; exact HV.out.2.2.1.ok) hn256 hs63
  have hb0 := cred_at_blk HV.out.1
  unfold credV credBox at hf
  have HF := hid hf
  clear hs63 h1 h2 h3 h4 h5 h6 h7 hn hne hc1 hva hsh hf
  unfold credV credBox
  obtain ⟨y0, y1, y2, y3, y4, y5, y6, y7, y8⟩ := hb0
  simp only [Nat.zero_add, credBox] at y0 y1 y2 y3 y4 y5 y6 y7 y8
  go_enter Try.func8, Try.ntmps8
  go_wp2_with fail
  refine HF.out.mono ?_
  clear HF y0 y1 y2 y3 y4 y5 y6 y7 y8
  rintro e w3 ⟨kk, rfl, hcut, hc3⟩
  have HV3 : Hid (w3.heap[g]? = some (.cells #[.int .i64 m, .slice ao n cap] 65 (0, 0)) ∧ HeldAt (fun i => O i ∧ i ≠ g) w3 ao cap qs ∧ Chg (fun _ => False) w w3) := hid ⟨blk_keep HV.out.2.1 hc3 id, HV.out.2.2.1.keep hc3 (fun _ _ => id), HV.out.2.2.2.trans hc3 (fun _ _ h => h)⟩
  clear HV hc3
  have HCUT := hid hcut
  clear hcut
  by_cases hh : hasG (es.map EntB.s) c = true
  · rw [hh]
    have hokE : HeldOk (es.map EntB.s) := by rw [← HE.out.2.1]; exact HV3.out.2.1.ok
    obtain ⟨hkl, hkc⟩ := HCUT.out.here hokE hh
    have hkn : kk < n := by simp at hkl; have := HE.out.2.2.2.1; omega
    have hke : kk < es.length := by have := HE.out.2.2.2.1; omega
    have HOFF : Hid (offV es c = es.take kk ++ es.drop (kk + 1)) := hid (offV_cut hokE hke (by simp only [List.getElem_map] at hkc; exact hkc))
    have HYES : Hid (∀ w', NewF O g m ((es.take kk ++ es.drop (kk + 1)).map EntB.s) w3 w' → DropP O D w g es m c (.returned (.int .i64 0)) w') := hid fun w' hF => dropP_yes HE.out.2.2.2.2.1 HV3.out.2.2 HE.out.2.2.2.2.2.1 HOFF.out hke ⟨by have h1 := HE.out.2.2.2.1; have h2 := HE.out.2.2.2.2.2.2.1; omega, HE.out.2.2.2.2.2.2.2⟩ hF
    have HINS : Hid ((qs.take kk ++ qs.drop (kk + 1)).map EntB.s = (es.take kk ++ es.drop (kk + 1)).map EntB.s ∧ HeldOk ((qs.take kk ++ qs.drop (kk + 1)).map EntB.s)) := hid (by
      refine ⟨by simp only [List.map_append, List.map_take, List.map_drop, HE.out.2.1], ?_⟩
      have := HV3.out.2.1.ok.off kk
      simpa only [List.map_append, List.map_take, List.map_drop] using this)
    obtain ⟨J, hJ⟩ : ∃ J : List EntB, J = qs.take kk ++ qs.drop (kk + 1) := ⟨_, rfl⟩
    have hJl : J.length ≤ 256 := by rw [hJ]; simp only [List.length_append, List.length_take, List.length_drop]; have := HE.out.2.2.1; omega
    have HJ : Hid (joinE [⟨ao, cap, qs.take kk⟩, ⟨lowA ao cap (kk + 1), cap - (kk + 1), qs.drop (kk + 1)⟩] = J) := hid (by rw [hJ]; simp [joinE])
    have HJL : Hid (J.length ≤ 4194304) := hid (by omega)
    have HDONE : Hid (∀ (W : World) (v : Value), Chg (fun _ => False) w3 W → OwnE w3.heap.size W v J → ∃ ao2 n2 cap2, v = .slice ao2 n2 cap2 ∧ NewF O g m ((es.take kk ++ es.drop (kk + 1)).map EntB.s) w3 (W.setCell ⟨g, 1, none⟩ (.slice ao2 n2 cap2))) := hid (fun W v hR hv => by
      have hgl := lt_blk HV3.out.1
      have hd := new_done (O := O) hgl HV3.out.1 hR hv (by rw [hJ]; exact HINS.out.2) hJl (fun t ht => by
        have h : t ∈ qs := by
          rw [hJ] at ht
          rcases List.mem_append.1 ht with h | h
          · exact List.mem_of_mem_take h
          · exact List.mem_of_mem_drop h
        exact (((HV3.out.2.1.tags t h).2).keep hR (fun _ _ => id)).mono (fun i hi => ⟨.inl hi.1, hi.2⟩))
      obtain ⟨ao2, cap2, h1, h2⟩ := hd
      exact ⟨ao2, _, cap2, h1, by rw [← HINS.out.1, ← hJ]; exact h2⟩)
    have HX : Hid (w3.heap[g]? = some (.cells #[.int .i64 m, .slice ao n cap] 65 (0, 0)) ∧ EntsAt (fun i => O i ∧ i ≠ g) w3 ao qs) := hid ⟨HV3.out.1, HV3.out.2.1.ents⟩
    have hcl : n ≤ cap := by have := HV3.out.2.1.len; have := HE.out.2.2.1; omega
    have HQ : Hid (qs.length = n ∧ kk + 1 ≤ n ∧ n ≤ cap ∧ (ao = none → cap = 0)) := hid ⟨HE.out.2.2.1, hkn, hcl, HV3.out.2.1.z⟩
    have HK : Hid ((kk ≤ cap) = True ∧ (kk + 1 ≤ n) = True ∧ (n ≤ cap) = True ∧ IntKind.i64.wrap ((kk : Int) + 1) = ((kk + 1 : Nat) : Int) ∧ (0 ≤ (kk : Int) + 1 ∧ (kk : Int) + 1 ≤ (n : Int))) := hid ⟨by simp; omega, by simp; omega, by simp; omega, by rw [IntWalk.i64_in _ (by omega)]; omega, by omega⟩
    have hB : g < w3.heap.size := lt_blk HV3.out.1
    have hkb : kk ≤ 256 := by omega
    clear HINS HOFF hkl hkc hke hokE hh hJ hJl HV3 hcl HCUT
    go_wp2_with fail
    refine wp_region_state (Chg (· = g)) (LastW 18 16 w3 (NewF O g m ((es.take kk ++ es.drop (kk + 1)).map EntB.s) w3)) (specAtR (pdSpecs g w3.heap.size n cap kk hB ao J)) [17, 18, 19, 20, 21, 22, 23, 24, 25, 26, 27, 28, 29, 30, 31, 32, 33, 34] [0, 5] (by kernel_rfl) (by kernel_rfl) (LastW.start _ _ _ _ (Chg.refl _ _).drew) (fun t v w w' hc h => specAtR_st _ t v w w' hc h) (by rfl) (by kernel_rfl) ?start ?obs ?fin
    case start =>
      simp only [List.forall_mem_cons]; exact ⟨⟨_, rfl, rfl⟩, ⟨_, rfl, rfl⟩, fun _ h => by cases h⟩
    case obs =>
      clear HYES HE
      refine ObsL.cons none (by kernel_rfl) ?_ ?_
      · refine ObL.plain fun L a w hi he hW hk K k => ?_
        obtain ⟨_, e0, f0⟩ := hk 0 (by decide)
        clear hk
        have hS := hW.step (by decide) hi (Chg.refl _ _)
        clear hi he hW
        go_simp
        exact k _ _ (Chg.refl _ _) hS f0
      refine ObsL.cons none (by kernel_rfl) ?_ ?_
      · refine ObL.plain fun L a w hi he hW hk K k => ?_
        obtain ⟨_, e0, f0⟩ := hk 0 (by decide)
        clear hk
        have hS := hW.step (by decide) hi (Chg.refl _ _)
        clear hi he hW
        go_simp
        exact k _ _ (Chg.refl _ _) hS f0
      refine ObsL.cons none (by kernel_rfl) ?_ ?_
      · refine ObL.plain fun L a w hi he hW hk K k => ?_
        obtain ⟨_, e18, rfl⟩ := hk 18 (by decide)
        clear hk
        have hS := hW.step (by decide) hi (Chg.refl _ _)
        clear hi he hW
        go_simp
        exact k _ _ (Chg.refl _ _) hS rfl
      refine ObsL.cons none (by kernel_rfl) ?_ ?_
      · refine ObL.plain fun L a w hi he hW hk K k => ?_
        obtain ⟨_, e19, rfl⟩ := hk 19 (by decide)
        clear hk
        have hS := hW.step (by decide) hi (Chg.refl _ _)
        clear hi he hW
        go_simp
        exact k _ _ (Chg.refl _ _) hS rfl
      refine ObsL.cons none (by kernel_rfl) ?_ ?_
      · refine ObL.plain fun L a w hi he hW hk K k => ?_
        obtain ⟨_, e20, rfl⟩ := hk 20 (by decide)
        clear hk
        have y1 := (hW.early (by decide) hi).cell (cell_blk HX.out.1 1) id
        have hS := hW.step (by decide) hi (Chg.refl _ _)
        clear hi he hW
        go_simp
        exact k _ _ (Chg.refl _ _) hS rfl
      refine ObsL.cons none (by kernel_rfl) ?_ ?_
      · refine ObL.plain fun L a w hi he hW hk K k => ?_
        obtain ⟨_, e5, f5⟩ := hk 5 (by decide)
        clear hk
        have hS := hW.step (by decide) hi (Chg.refl _ _)
        clear hi he hW
        go_simp
        exact k _ _ (Chg.refl _ _) hS f5
      refine ObsL.cons none (by kernel_rfl) ?_ ?_
      · refine ObL.plain fun L a w hi he hW hk K k => ?_
        obtain ⟨_, e21, rfl⟩ := hk 21 (by decide)
        obtain ⟨_, e22, rfl⟩ := hk 22 (by decide)
        clear hk
        have hS := hW.step (by decide) hi (Chg.refl _ _)
        have z1 := HK.out.1
        clear hi he hW
        go_simp
        exact k _ _ (Chg.refl _ _) hS rfl
      refine ObsL.cons none (by kernel_rfl) ?_ ?_
      · refine ObL.plain fun L a w hi he hW hk K k => ?_
        obtain ⟨_, e0, f0⟩ := hk 0 (by decide)
        clear hk
        have hS := hW.step (by decide) hi (Chg.refl _ _)
        clear hi he hW
        go_simp
        exact k _ _ (Chg.refl _ _) hS f0
      refine ObsL.cons none (by kernel_rfl) ?_ ?_
      · refine ObL.plain fun L a w hi he hW hk K k => ?_
        obtain ⟨_, e24, rfl⟩ := hk 24 (by decide)
        clear hk
        have hS := hW.step (by decide) hi (Chg.refl _ _)
        clear hi he hW
        go_simp
        exact k _ _ (Chg.refl _ _) hS rfl
      refine ObsL.cons none (by kernel_rfl) ?_ ?_
      · refine ObL.plain fun L a w hi he hW hk K k => ?_
        obtain ⟨_, e25, rfl⟩ := hk 25 (by decide)
        clear hk
        have hS := hW.step (by decide) hi (Chg.refl _ _)
        clear hi he hW
        go_simp
        exact k _ _ (Chg.refl _ _) hS rfl
      refine ObsL.cons none (by kernel_rfl) ?_ ?_
      · refine ObL.plain fun L a w hi he hW hk K k => ?_
        obtain ⟨_, e26, rfl⟩ := hk 26 (by decide)
        clear hk
        have y1 := (hW.early (by decide) hi).cell (cell_blk HX.out.1 1) id
        have hS := hW.step (by decide) hi (Chg.refl _ _)
        clear hi he hW
        go_simp
        exact k _ _ (Chg.refl _ _) hS rfl
      refine ObsL.cons none (by kernel_rfl) ?_ ?_
      · refine ObL.plain fun L a w hi he hW hk K k => ?_
        obtain ⟨_, e5, f5⟩ := hk 5 (by decide)
        clear hk
        have hS := hW.step (by decide) hi (Chg.refl _ _)
        clear hi he hW
        go_simp
        exact k _ _ (Chg.refl _ _) hS f5
      refine ObsL.cons none (by kernel_rfl) ?_ ?_
      · refine ObL.plain fun L a w hi he hW hk K k => ?_
        obtain ⟨_, e28, rfl⟩ := hk 28 (by decide)
        clear hk
        have hS := hW.step (by decide) hi (Chg.refl _ _)
        clear hi he hW
        go_simp
        exact k _ _ (Chg.refl _ _) hS (int_eq HK.out.2.2.2.1)
      refine ObsL.cons none (by kernel_rfl) ?_ ?_
      · refine ObL.plain fun L a w hi he hW hk K k => ?_
        obtain ⟨_, e27, rfl⟩ := hk 27 (by decide)
        obtain ⟨_, e29, rfl⟩ := hk 29 (by decide)
        clear hk
        have hS := hW.step (by decide) hi (Chg.refl _ _)
        have z1 := HK.out.2.1
        have z2 := HK.out.2.2.1
        have z3 := HK.out.2.2.2.2
        clear hi he hW
        go_simp
        exact k _ _ (Chg.refl _ _) hS rfl
      refine ObsL.cons none (by kernel_rfl) ?_ ?_
      · refine ObL.plain fun L a w hi he hW hk K k => ?_
        obtain ⟨_, e23, rfl⟩ := hk 23 (by decide)
        obtain ⟨_, e30, rfl⟩ := hk 30 (by decide)
        clear hk
        have hR := hW.early (by decide) hi
        have hal : Chg (fun _ => False) w (w.alloc (.cells #[.slice ao kk cap, .slice (lowA ao cap (kk + 1)) (n - (kk + 1)) (cap - (kk + 1))] 45)) := (Chg.refl _ w).alloc _
        have hP := parts_two HQ.out.1 HQ.out.2.1 HQ.out.2.2.1 HQ.out.2.2.2 (HX.out.2.keep hR (fun _ _ => id)) hal (heap_alloc_new w (.cells #[.slice ao kk cap, .slice (lowA ao cap (kk + 1)) (n - (kk + 1)) (cap - (kk + 1))] 45))
        have HF := hid (And.intro hR.size (And.intro hal hP))
        have HS := hid (hW.step (by decide) hi hal)
        clear hi he hW hR hal hP
        go_simp
        exact k _ _ (HF.out.2.1.mono (fun _ _ h => h.elim)) HS.out ⟨_, _, rfl, rfl, HJ.out, HF.out.1, HF.out.2.2⟩
      refine ObsL.cons none (by kernel_rfl) ?_ ?_
      · refine ObL.plain fun L a w hi he hW hk K k => ?_
        obtain ⟨_, e31, f31⟩ := hk 31 (by decide)
        clear hk
        obtain ⟨gb, ps, rfl, hp3, hjo, hgb, hP⟩ := f31
        have hR := hW.early (by decide) hi
        have hlen : (joinE ps).length ≤ 4194304 := by rw [hjo]; exact HJL.out
        have hq := pvconcat gb 2 2 ps w hp3.symm (by decide) hlen hP
        rw [hjo] at hq
        have HF := hid hR.size
        have HW := hid (And.intro hW hi)
        clear hW hi he hR hP hlen hjo hp3
        go_simp
        refine hq.mono ?_
        rintro e w5 ⟨v, rfl, hv, hcc⟩
        exact k _ _ (hcc.mono (fun _ _ h => h.elim)) (HW.out.1.step (by decide) HW.out.2 hcc) (ownE_low hv HF.out)
      refine ObsL.cons none (by kernel_rfl) ?_ ?_
      · refine ObL.plain fun L a w hi he hW hk K k => ?_
        obtain ⟨_, e17, rfl⟩ := hk 17 (by decide)
        clear hk
        have hS := hW.stay (j := 16) (by decide)
        clear hi he hW
        go_simp
        exact k _ _ (Chg.refl _ _) hS rfl
      refine ObsL.cons none (by kernel_rfl) ?_ ?_
      · refine ObL.plain fun L a w hi he hW hk K k => ?_
        obtain ⟨_, e33, rfl⟩ := hk 33 (by decide)
        clear hk
        have hS := hW.stay (j := 17) (by decide)
        clear hi he hW
        go_simp
        exact k _ _ (Chg.refl _ _) hS rfl
      refine ObsL.cons none (by kernel_rfl) ?_ ?_
      · refine ObL.plain fun L a w hi he hW hk K k => ?_
        obtain ⟨_, e34, rfl⟩ := hk 34 (by decide)
        obtain ⟨_, e32, f32⟩ := hk 32 (by decide)
        clear hk
        have hR := hW.pre hi
        have hall : ∀ j, j < 16 → L j = true := fun j hj => by
          match j, hj with
          | 0, _ => exact he ⟨0, Ground.phase⟩ (by simp) (by decide)
          | 1, _ => exact he ⟨1, Ground.phase⟩ (by simp) (by decide)
          | 2, _ => exact he ⟨2, Ground.phase⟩ (by simp) (by decide)
          | 3, _ => exact he ⟨3, Ground.phase⟩ (by simp) (by decide)
          | 4, _ => exact he ⟨4, Ground.phase⟩ (by simp) (by decide)
          | 5, _ => exact he ⟨5, Ground.phase⟩ (by simp) (by decide)
          | 6, _ => exact he ⟨6, Ground.phase⟩ (by simp) (by decide)
          | 7, _ => exact he ⟨7, Ground.phase⟩ (by simp) (by decide)
          | 8, _ => exact he ⟨8, Ground.phase⟩ (by simp) (by decide)
          | 9, _ => exact he ⟨9, Ground.phase⟩ (by simp) (by decide)
          | 10, _ => exact he ⟨10, Ground.phase⟩ (by simp) (by decide)
          | 11, _ => exact he ⟨11, Ground.phase⟩ (by simp) (by decide)
          | 12, _ => exact he ⟨12, Ground.phase⟩ (by simp) (by decide)
          | 13, _ => exact he ⟨13, Ground.phase⟩ (by simp) (by decide)
          | 14, _ => exact he ⟨14, Ground.phase⟩ (by simp) (by decide)
          | 15, _ => exact he ⟨15, Ground.phase⟩ (by simp) (by decide)
          | j + 16, h => exact absurd h (by omega)
        obtain ⟨ao2, n2, cap2, rfl, hF⟩ := HDONE.out w _ hR f32
        have HS := hid (hW.last hall hF)
        have y1 := hR.cell (cell_blk HX.out.1 1) id
        have g1 := froz_blk (blk_keep HX.out.1 hR id) 1
        clear hi he hW hR hall hF f32
        go_simp
        exact k undef _ (setCell_chg w g 1 _) HS.out trivial
      exact ObsL.nil
    case fin =>
      intro L vals w9 hL hWL hv
      have HEND := hid (HYES.out w9 (hWL.post (hL 18 (by decide))))
      clear hL hWL hv
      simp only [putAll, List.setIfInBounds_toArray, List.set_cons_zero, List.set_cons_succ]
      go_wp2
      go_ret
      exact HEND.out
  · have hhf : hasG (es.map EntB.s) c = false := by simpa using hh
    rw [hhf]
    have HEND := hid (dropP_no HE.out.1 HV3.out.2.2 (c := c) (by rw [← hasV_map]; exact hhf))
    clear hh hhf
    go_wp2
    go_ret
    exact HEND.out
end Go.Proofs.Ytfpaoaflhbppgaa
