/- Texts that the proof leans on, in one: PmHolds, PmMK. -/
import Derived.Test.YtanompfdjfgfbaaGreatMb24
import Derived.Test.YtanompfdjfgfbaaGreatMb14
import Derived.Test.YtanompfdjfgfbaaGreatMb22
import Derived.Test.YtanompfdjfgfbaaGreatMb21
import Derived.Test.YtanompfdjfgfbaaGreatMb23
/- What a credential brings by one step, as Holds tells it. -/
namespace Go.Proofs.YtanompfdjfgfbaaGreat
open Go.RowKit

theorem equalIn_in_nil (w : World) (d : Nat) (f : Fn) (bs lb : Array Value) : (Op.equalIn (d + 1) 33 (.func f bs lb) .nilFunc).run Tryz.prog w = .ok false w := by
  simp [Op.equalIn, run_underlying Tryz.underlying33]
theorem equal_in_nil (w : World) (f : Fn) (bs lb : Array Value) : (Op.equal 33 (.func f bs lb) .nilFunc).run Tryz.prog w = .ok false w := equalIn_in_nil w 9999 f bs lb
theorem eql_in_nil (w : World) (f : Fn) (bs lb : Array Value) : (binOp .eql 33 (.func f bs lb) .nilFunc).run Tryz.prog w = .ok (.bool false) w := by
  simp only [binOp]
  simp [equal_in_nil w f bs lb]

/-- A set of names. -/
def Spec.setF (ns : List (List UInt8)) : Spec :=
  ⟨fun v w => ∃ ao cap, v = .slice ao ns.length cap ∧ StrsAt (fun k => k < w.heap.size) w ao ns, fun _ _ _ hc ⟨ao, cap, h1, h2⟩ => ⟨ao, cap, h1, (h2.keep hc (fun _ _ => id)).mono (fun _ hi => Nat.lt_of_lt_of_le hi hc.size)⟩⟩
def Spec.brF (lo : Nat) (ys : List (List UInt8)) : Spec :=
  ⟨fun v w => ∃ ao cap, v = .slice ao ys.length cap ∧ StrsAt (fun k => lo ≤ k ∧ k < w.heap.size) w ao ys, fun _ _ _ hc ⟨ao, cap, h1, h2⟩ => ⟨ao, cap, h1, (h2.keep hc (fun _ _ => id)).mono (fun _ hi => ⟨hi.1, Nat.lt_of_lt_of_le hi.2 hc.size⟩)⟩⟩

def holdsSpecs (A lo : Nat) (gf : Nat) (fi cap : Array Value) (c : CredB) (no : Option Addr) (np : Nat) (names ns ys : List (List UInt8)) : List Spec := [.any, .eq (.func (.func gf) fi cap), .eq (.slice no names.length np), .eq (.pointer (some ⟨A, 0, none⟩)), .any, .any, .any, .any, .any, .any, .any, .any, .any, .any, .any, .any, .any, .eq (.agg #[.int .i64 c.kind, .string ⟨c.head.1.toArray⟩, .string ⟨c.head.2.toArray⟩, .string ⟨c.who.toArray⟩, .string ⟨c.b.1.toArray⟩, .string ⟨c.b.2.toArray⟩, .string ⟨c.c.1.toArray⟩, .string ⟨c.c.2.toArray⟩, .string ⟨c.w2.toArray⟩]), .eq (.func (.func gf) fi cap), .eq (.slice no names.length np), .setF ns, .brF lo ys, .eq (.int .i64 (ys.length : Nat)), .eq (.int .i64 0), .any, .any, .any, .any, .any, .any, .any, .any, .any, .any, .any, .any]

/-- The names' set. -/
def nsOf (names : List (List UInt8)) : List (List UInt8) := Lib.compact (sortS (names.filter isName))
theorem nsOf_set (names : List (List UInt8)) : SetOf names (nsOf names) := compact_set names

theorem brS_rises {p : RoleB → List UInt8 → Bool} {c : CredB} {ns : List (List UInt8)} (hc : isCred c = true) (h : Rising ns) : Rising (brS p c ns) := by
  have hf : ∀ q : List UInt8 → Bool, Rising (ns.filter q) := fun q => by
    have : ∀ {l : List (List UInt8)}, Rising l → Rising (l.filter q) := by
      intro l
      induction l with
      | nil => intro _; trivial
      | cons x l ih =>
        intro h
        rw [List.filter_cons]
        split
        · exact ⟨fun y hy => h.1 y (List.mem_filter.1 hy).1, ih h.2⟩
        · exact ih h.2
    exact this h
  rcases isCred_kind hc with k | k | k | k
  · rw [brS_1 k]; exact ⟨fun y hy => (by cases hy), trivial⟩
  · rw [brS_2 k]; exact hf _
  · rw [brS_3 k]; exact hf _
  · rw [brS_4 k]; exact hf _

theorem any_set {names ns : List (List UInt8)} (h : SetOf names ns) (q : List UInt8 → Bool) : ns.any q = (names.filter isName).any q := by
  rw [Bool.eq_iff_iff, List.any_eq_true, List.any_eq_true]
  constructor
  · rintro ⟨x, hx, hq⟩
    exact ⟨x, List.mem_filter.2 ((h.2 x).1 hx), hq⟩
  · rintro ⟨x, hx, hq⟩
    exact ⟨x, (h.2 x).2 (List.mem_filter.1 hx), hq⟩

theorem holdsOf_brS {p : RoleB → List UInt8 → Bool} {c : CredB} {names ns : List (List UInt8)} (hc : isCred c = true) (h : SetOf names ns) : HoldsOf p c names ((brS p c ns).map (fun s => (c.head, s))) := by
  refine ⟨factsRow_rises c.head (brS_rises hc h.1), fun f => ?_⟩
  have hmem : f ∈ (brS p c ns).map (fun s => (c.head, s)) ↔ f.1 = c.head ∧ f.2 ∈ brS p c ns := by
    rw [List.mem_map]
    constructor
    · rintro ⟨s, hs, rfl⟩
      exact ⟨rfl, hs⟩
    · rintro ⟨h1, h2⟩
      exact ⟨f.2, h2, by rw [← h1]⟩
  rw [hmem]
  unfold stepP
  rcases isCred_kind hc with k | k | k | k
  · rw [brS_1 k, if_pos k, List.mem_singleton]
    exact ⟨fun ⟨h1, h2⟩ => ⟨hc, h1, beq_iff_eq.2 h2.symm, fun e => absurd k e⟩, fun ⟨_, h1, h2, _⟩ => ⟨h1, (beq_iff_eq.1 h2).symm⟩⟩
  · rw [brS_2 k, if_neg (by omega), if_pos k, List.mem_filter, h.2 f.2]
    exact ⟨fun ⟨h1, h2, h3⟩ => ⟨hc, h1, h3, fun _ => h2⟩, fun ⟨_, h1, h2, h3⟩ => ⟨h1, h3 (by omega), h2⟩⟩
  · rw [brS_3 k, if_neg (by omega), if_neg (by omega), if_neg (by omega), List.mem_filter, h.2 f.2, any_set h]
    exact ⟨fun ⟨h1, h2, h3⟩ => ⟨hc, h1, h3, fun _ => h2⟩, fun ⟨_, h1, h2, h3⟩ => ⟨h1, h3 (by omega), h2⟩⟩
  · rw [brS_4 k, if_neg (by omega), if_neg (by omega), if_pos k, List.mem_filter, h.2 f.2]
    exact ⟨fun ⟨h1, h2, h3⟩ => ⟨hc, h1, h3, fun _ => h2⟩, fun ⟨_, h1, h2, h3⟩ => ⟨h1, h3 (by omega), h2⟩⟩

/-- What Holds leaves. -/
def HoldsPost (p : RoleB → List UInt8 → Bool) (c : CredB) (names : List (List UInt8)) (w : World) (e : Ending) (w' : World) : Prop :=
  ∃ hs ao cp, e = .returned (.slice ao hs.length cp) ∧ FactsAt (fun i => w.heap.size ≤ i ∧ i < w'.heap.size) w' ao hs ∧ HoldsOf p c names hs ∧ Chg (fun _ => False) w w'

set_option maxRecDepth 100000 in
set_option maxHeartbeats 4000000 in
theorem pholds {D : Nat → Prop} (gf : Nat) (fi cap : Array Value) (p : RoleB → List UInt8 → Bool) (c : CredB) (no : Option Addr) (np : Nat) (names : List (List UInt8)) (w : World) (hcs : credShort c 100000) (hn : names.length ≤ 10000) (hnm : ∀ x ∈ names, x.length ≤ 100000) (hst : StrsAt D w no names) (hD : ∀ i, D i → i < w.heap.size) (eg : ∀ args w, (callFunc gf args).run Tryz.prog w = .ok (.enter gf args) w) (hp : AskAt gf fi cap p w) :
    Calls Tryz.prog 23 #[.agg #[.int .i64 c.kind, .string ⟨c.head.1.toArray⟩, .string ⟨c.head.2.toArray⟩, .string ⟨c.who.toArray⟩, .string ⟨c.b.1.toArray⟩, .string ⟨c.b.2.toArray⟩, .string ⟨c.c.1.toArray⟩, .string ⟨c.c.2.toArray⟩, .string ⟨c.w2.toArray⟩], .func (.func gf) fi cap, .slice no names.length np] w (HoldsPost p c names w) := by
  have hmf : ∀ (fn : Fn) (first cap : Array Value) (w : World), (Instr.makeFunc fn first cap).run Tryz.prog w = .ok (.func fn first cap) w := fun _ _ _ _ => rfl
  have hq := fun w => eql_in_nil w (.func gf) fi cap
  have hc2 : Chg (fun _ => False) w ((w.alloc (.cells #[.int .i64 c.kind, .string ⟨c.head.1.toArray⟩, .string ⟨c.head.2.toArray⟩, .string ⟨c.who.toArray⟩, .string ⟨c.b.1.toArray⟩, .string ⟨c.b.2.toArray⟩, .string ⟨c.c.1.toArray⟩, .string ⟨c.c.2.toArray⟩, .string ⟨c.w2.toArray⟩] 47)).alloc (.cells #[.slice none 0 0] 29)) := ((Chg.refl _ w).alloc _).alloc _
  have hbC : ((w.alloc (.cells #[.int .i64 c.kind, .string ⟨c.head.1.toArray⟩, .string ⟨c.head.2.toArray⟩, .string ⟨c.who.toArray⟩, .string ⟨c.b.1.toArray⟩, .string ⟨c.b.2.toArray⟩, .string ⟨c.c.1.toArray⟩, .string ⟨c.c.2.toArray⟩, .string ⟨c.w2.toArray⟩] 47)).alloc (.cells #[.slice none 0 0] 29)).heap[w.heap.size]? = some (.cells (credBox c) 47 (0, 0)) := blk_keep (heap_alloc_new w (.cells #[.int .i64 c.kind, .string ⟨c.head.1.toArray⟩, .string ⟨c.head.2.toArray⟩, .string ⟨c.who.toArray⟩, .string ⟨c.b.1.toArray⟩, .string ⟨c.b.2.toArray⟩, .string ⟨c.c.1.toArray⟩, .string ⟨c.c.2.toArray⟩, .string ⟨c.w2.toArray⟩] 47)) ((Chg.refl (fun _ => False) _).alloc (.cells #[.slice none 0 0] 29)) id
  have hb6 : ((w.alloc (.cells #[.int .i64 c.kind, .string ⟨c.head.1.toArray⟩, .string ⟨c.head.2.toArray⟩, .string ⟨c.who.toArray⟩, .string ⟨c.b.1.toArray⟩, .string ⟨c.b.2.toArray⟩, .string ⟨c.c.1.toArray⟩, .string ⟨c.c.2.toArray⟩, .string ⟨c.w2.toArray⟩] 47)).alloc (.cells #[.slice none 0 0] 29)).heap[w.heap.size + 1]? = some (.cells #[.slice none 0 0] 29 (0, 0)) := by
    have := heap_alloc_new (w.alloc (.cells #[.int .i64 c.kind, .string ⟨c.head.1.toArray⟩, .string ⟨c.head.2.toArray⟩, .string ⟨c.who.toArray⟩, .string ⟨c.b.1.toArray⟩, .string ⟨c.b.2.toArray⟩, .string ⟨c.c.1.toArray⟩, .string ⟨c.c.2.toArray⟩, .string ⟨c.w2.toArray⟩] 47)) (.cells #[.slice none 0 0] 29)
    have e : (w.alloc (.cells #[.int .i64 c.kind, .string ⟨c.head.1.toArray⟩, .string ⟨c.head.2.toArray⟩, .string ⟨c.who.toArray⟩, .string ⟨c.b.1.toArray⟩, .string ⟨c.b.2.toArray⟩, .string ⟨c.c.1.toArray⟩, .string ⟨c.c.2.toArray⟩, .string ⟨c.w2.toArray⟩] 47)).heap.size = w.heap.size + 1 := by simp
    rw [e] at this
    exact this
  obtain ⟨c0, c1, c2, c3, c4, c5, c6, c7, c8⟩ := cred_at_blk hbC
  simp only [Nat.zero_add] at c0 c1 c2 c3 c4 c5 c6 c7 c8
  have HP := hid (pcright c ((w.alloc (.cells #[.int .i64 c.kind, .string ⟨c.head.1.toArray⟩, .string ⟨c.head.2.toArray⟩, .string ⟨c.who.toArray⟩, .string ⟨c.b.1.toArray⟩, .string ⟨c.b.2.toArray⟩, .string ⟨c.c.1.toArray⟩, .string ⟨c.c.2.toArray⟩, .string ⟨c.w2.toArray⟩] 47)).alloc (.cells #[.slice none 0 0] 29)) (by unfold credShort at hcs ⊢; omega))
  have HM := hid (And.intro hcs (And.intro hn (And.intro hnm (And.intro (hst.keep hc2 (fun _ _ => id)) (And.intro hD (hp.later hc2))))))
  have HW := hid (And.intro hc2 (And.intro hbC hb6))
  clear hcs hn hnm hst hD hp hc2 hbC hb6
  go_enter_defers Tryz.func23, Tryz.ntmps23
  go_wp2_with fail
  refine HP.out.mono ?_
  rintro e w3 ⟨rfl, hc3⟩
  clear HP c0 c1 c2 c3 c4 c5 c6 c7 c8
  have HC := hid (HW.out.1.trans hc3 (fun _ _ h => h))
  have hbC3 := blk_keep HW.out.2.1 hc3 id
  have hb63 := blk_keep HW.out.2.2 hc3 id
  have HM3 := hid (And.intro (HM.out.2.2.2.1.keep hc3 (fun _ _ => id)) (HM.out.2.2.2.2.2.later hc3))
  obtain ⟨A, hAe⟩ : ∃ A, w.heap.size = A := ⟨_, rfl⟩
  rw [hAe] at hbC3 hb63
  have HAE := hid hAe
  simp only [hAe]
  clear hAe hc3 HW
  have z6 := cell_blk hb63 0
  have f6 := froz_blk hb63 0
  simp only [List.getElem?_toArray, List.getElem?_cons_zero] at z6
  cases hc : isCred c with
  | false =>
    have HCF := hid hc
    have hset : (w3.setCell ⟨A + 1, 0, none⟩ (.slice none 0 0)).cell? ⟨A + 1, 0, none⟩ = some (.slice none 0 0) := by
      have := cell_blk (set_blk hb63 0 (.slice none 0 0)) 0
      simpa using this
    have HS := hid hset
    have hsc := setCell_chg w3 (A + 1) 0 (.slice none 0 0)
    have HEND : Hid (Chg (fun _ => False) w (w3.setCell ⟨A + 1, 0, none⟩ (.slice none 0 0))) := hid (HC.out.trans hsc (fun i hi e => by have : i = A + 1 := e; have := HAE.out; omega))
    clear hc hset hsc hbC3 hb63
    go_wp2
    have hc := HS.out
    simp [bodyPostD, Leaves, results, Tryz.results23, go_sem, hc]
    exact ⟨[], none, 0, rfl, FactsAt.nil _ _ _, ⟨trivial, fun f => ⟨fun h => (by cases h), fun h => by rw [HCF.out] at h; cases h.1⟩⟩, HEND.out⟩
  | true =>
    obtain ⟨ns, hns⟩ : ∃ ns, nsOf names = ns := ⟨_, rfl⟩
    have hset := nsOf_set names
    rw [hns] at hset
    obtain ⟨ys, hys⟩ : ∃ ys, brS p c ns = ys := ⟨_, rfl⟩
    have hnsl : ns.length ≤ 10000 := Nat.le_trans (nodup_lengthG ns names hset.1.nodup (fun x hx => ((hset.2 x).1 hx).1)) HM.out.2.1
    have hyl : ys.length ≤ 10001 := by
      rw [← hys]
      unfold brS
      split
      · simp
      · split
        · exact Nat.le_trans (List.length_filter_le _ _) (by omega)
        · split
          · exact Nat.le_trans (List.length_filter_le _ _) (by omega)
          · exact Nat.le_trans (List.length_filter_le _ _) (by omega)
    have HYL := hid hyl
    have HH : Hid (HoldsOf p c names (ys.map (fun s => (c.head, s)))) := hid (by rw [← hys]; exact holdsOf_brS hc hset)
    have HSET : Hid (∀ w', Chg (fun _ => False) w3 w' → Calls Tryz.prog 41 #[.slice no names.length np] w' fun e w'' => ∃ ao cp, e = .returned (.slice ao ns.length cp) ∧ StrsAt (fun k => k < w''.heap.size) w'' ao ns ∧ Chg (fun _ => False) w' w'') := hid (fun w' hc' => by
      refine (set_any no np names w' (by have := HM.out.2.1; omega) (HM3.out.1.keep hc' (fun _ _ => id)) (fun i hi => by have := HM.out.2.2.2.2.1 i hi; have := HC.out.size; have := hc'.size; omega)).mono ?_
      rintro e w'' ⟨out, ao, cp, rfl, h1, h2, h3⟩
      have := SetOf.one h1 hset
      subst this
      exact ⟨ao, cp, rfl, h2.mono (fun i hi => hi.2), h3⟩)
    have HBR : Hid (∀ w', Chg (fun _ => False) w3 w' → ∀ ao cp, StrsAt (fun k => k < w'.heap.size) w' ao ns → Calls Tryz.prog 40 #[.agg #[.int .i64 c.kind, .string ⟨c.head.1.toArray⟩, .string ⟨c.head.2.toArray⟩, .string ⟨c.who.toArray⟩, .string ⟨c.b.1.toArray⟩, .string ⟨c.b.2.toArray⟩, .string ⟨c.c.1.toArray⟩, .string ⟨c.c.2.toArray⟩, .string ⟨c.w2.toArray⟩], .func (.func gf) fi cap, .slice ao ns.length cp] w' (ThosePost ys w')) := hid (fun w' hc' ao cp hs => by
      have := pbrought gf fi cap p c ao cp ns w' hc HM.out.1 (by omega) (fun x hx => HM.out.2.2.1 x ((hset.2 x).1 hx).1) hs eg (HM3.out.2.later hc')
      rwa [hys] at this)
    clear hc hset hns hys hnsl
    go_wp2_with fail
    clear z6 f6
    have HX := hid hbC3
    have HR6 := hid hb63
    have HLO := hid (Nat.le_refl w3.heap.size)
    have HLO9 := hid (And.intro (lt_blk hbC3) (lt_blk hb63))
    clear hbC3 hb63
    refine wp_region_specs (holdsSpecs A w3.heap.size gf fi cap c no np names ns ys) [17, 18, 19, 20, 21, 22, 23] [1, 2, 3] (by kernel_rfl) (by kernel_rfl) (by rfl) (by kernel_rfl) ?start ?obs ?fin
    case start =>
      simp only [List.forall_mem_cons]; exact ⟨⟨_, rfl, rfl⟩, ⟨_, rfl, rfl⟩, ⟨_, rfl, rfl⟩, fun _ h => by cases h⟩
    case obs =>
      clear HC HH HM HM3 HYL HR6
      refine Obs.cons none (by kernel_rfl) ?_ ?_
      · refine Ob.plain fun a w hR hk K k => ?_
        obtain ⟨_, e3, rfl⟩ := hk 3 (by decide)
        clear hk
        obtain ⟨c0, c1, c2, c3, c4, c5, c6, c7, c8⟩ := cred_at_blk (blk_keep HX.out hR id)
        simp only [Nat.zero_add] at c0 c1 c2 c3 c4 c5 c6 c7 c8
        go_simp
        exact k _ _ (Chg.refl _ _) rfl
      refine Obs.cons none (by kernel_rfl) ?_ ?_
      · refine Ob.plain fun a w hR hk K k => ?_
        obtain ⟨_, e1, f1⟩ := hk 1 (by decide)
        clear hk
        go_simp
        exact k _ _ (Chg.refl _ _) f1
      refine Obs.cons none (by kernel_rfl) ?_ ?_
      · refine Ob.plain fun a w hR hk K k => ?_
        obtain ⟨_, e2, f2⟩ := hk 2 (by decide)
        clear hk
        go_simp
        exact k _ _ (Chg.refl _ _) f2
      refine Obs.cons none (by kernel_rfl) ?_ ?_
      · refine Ob.plain fun a w hR hk K k => ?_
        obtain ⟨_, e19, rfl⟩ := hk 19 (by decide)
        clear hk
        have q := HSET.out w hR
        go_simp
        refine q.mono ?_
        rintro e w5 ⟨ao, cp, rfl, h2, h3⟩
        exact k _ _ h3 ⟨ao, cp, rfl, h2⟩
      refine Obs.cons none (by kernel_rfl) ?_ ?_
      · refine Ob.plain fun a w hR hk K k => ?_
        obtain ⟨_, e17, rfl⟩ := hk 17 (by decide)
        obtain ⟨_, e18, rfl⟩ := hk 18 (by decide)
        obtain ⟨_, e20, f20⟩ := hk 20 (by decide)
        clear hk
        obtain ⟨ao, cp, rfl, h2⟩ := f20
        have q := HBR.out w hR ao cp h2
        have HR := hid hR.size
        clear hR
        go_simp
        refine q.mono ?_
        rintro e w5 ⟨ao3, cp3, rfl, h3, h4⟩
        exact k _ _ h4 ⟨ao3, cp3, rfl, h3.mono (fun i hi => ⟨Nat.le_trans (Nat.le_trans HLO.out HR.out) hi.1, hi.2⟩)⟩
      refine Obs.cons none (by kernel_rfl) ?_ ?_
      · refine Ob.plain fun a w hR hk K k => ?_
        obtain ⟨_, e21, f21⟩ := hk 21 (by decide)
        clear hk
        obtain ⟨ao, cp, rfl, h2⟩ := f21
        go_simp
        exact k _ _ (Chg.refl _ _) rfl
      refine Obs.cons none (by kernel_rfl) ?_ ?_
      · refine Ob.plain fun a w hR hk K k => ?_
        clear hk
        go_simp
        exact k _ _ (Chg.refl _ _) rfl
      exact Obs.nil
    case fin =>
      intro vals w9 hc9 hv
      obtain ⟨ao, cp, h21, hys⟩ := hv 21 (by decide)
      have h22 : vals 22 = .int .i64 (ys.length : Nat) := hv 22 (by decide)
      have h23 : vals 23 = .int .i64 0 := hv 23 (by decide)
      simp only [putAll, List.setIfInBounds_toArray, List.set_cons_zero, List.set_cons_succ, h21, h22, h23]
      have HC9 := hid (And.intro (HC.out.trans hc9 (fun _ _ h => h)) (And.intro (blk_keep HX.out hc9 id) (And.intro (blk_keep HR6.out hc9 id) hys)))
      clear hc9 hv h21 h22 h23 hys HX HC HSET HBR HR6
      go_wp2
      go_loopw [23] (fun i wr => ∃ (k : Nat) (out : List FactB) (v : Value), k ≤ ys.length ∧ i = .int .i64 k ∧ wr.heap[A + 1]? = some (.cells #[v] 29 (0, 0)) ∧ Came w9.heap.size (fun _ => False) wr v out ∧ Hid (out = (ys.take k).map (fun s => (c.head, s))) ∧ Chg (fun i => w9.heap.size ≤ i ∨ i = A + 1) w9 wr) (fun i _ => ys.length - (intOf i).toNat)
      case atStart => exact ⟨0, [], _, Nat.zero_le _, rfl, HC9.out.2.2.1, Came.nil _ _ _, hid (by simp), Chg.refl _ _⟩
      case round =>
        obtain ⟨k, out, v, hk, rfl, hv6, hcm, hout, hch⟩ := hrel
        obtain ⟨ao4, cap4, rfl⟩ := hcm.own.shape
        have hA9 : A < w9.heap.size ∧ A + 1 < w9.heap.size := ⟨lt_blk HC9.out.2.1, lt_blk HC9.out.2.2.1⟩
        by_cases hlt : k < ys.length
        · obtain ⟨b, off, rfl, hDb, a0, hsl⟩ := (HC9.out.2.2.2.keep hch (fun i hi e => by have := HLO9.out; rcases e with e | e <;> omega)) k hlt
          have htk := List.take_succ_eq_append_getElem hlt
          generalize ys[k] = s at *
          have hbA := blk_keep HC9.out.2.1 hch (fun e => by rcases e with e | e <;> omega)
          obtain ⟨c0, c1, c2, c3, c4, c5, c6, c7, c8⟩ := cred_at_blk hbA
          simp only [Nat.zero_add] at c0 c1 c2 c3 c4 c5 c6 c7 c8
          have z6 := cell_blk hv6 0
          simp only [List.getElem?_toArray, List.getElem?_cons_zero] at z6
          have hol : out.length ≤ 100001 := by
            rw [hout.out, List.length_map, List.length_take]
            have := HYL.out
            omega
          have HJ := hid (And.intro hv6 (And.intro hcm (And.intro hch (And.intro htk (And.intro hol hA9)))))
          clear hv6 hcm hch htk hol hA9 hbA hDb hsl
          go_wp2_with (at_builtin; refine wpList_append_facts (O := fun _ => False) rfl (.tmp 27) (.tmp 32) rfl w9.heap.size (.slice ao4 out.length cap4) out rfl (HJ.out.2.1.quiet ((Chg.refl _ wr).alloc (.cells #[.string ⟨c.head.1.toArray⟩, .string ⟨c.head.2.toArray⟩, .string ⟨s.toArray⟩] 52))) (fun i hi => hi.elim) (some ⟨wr.heap.size, 0, none⟩) 1 [(c.head, s)] rfl (fact_new wr (c.head, s)) (fun e => by cases e) ?c1 ?c2 ?_)
          case c1 => have := HJ.out.2.2.2.2.1; simp; omega
          case c2 => have := HJ.out.2.2.1.size; simp; omega
          intro v' w3 hown hc3
          obtain ⟨ao5, cap5, hv5⟩ := hown.own.shape
          have hl5 : (out ++ [(c.head, s)]).length = out.length + 1 := by simp
          rw [hl5] at hv5
          subst hv5
          have hv3 := blk_keep (blk_keep HJ.out.1 ((Chg.refl (fun _ => False) wr).alloc (.cells #[.string ⟨c.head.1.toArray⟩, .string ⟨c.head.2.toArray⟩, .string ⟨s.toArray⟩] 52)) id) hc3 (fun e => by have := HJ.out.2.2.2.2.2; omega)
          have f6 := froz_blk hv3 0
          have y6 := cell_blk hv3 0
          simp only [List.getElem?_toArray, List.getElem?_cons_zero] at y6
          have HY := hid (And.intro hown (And.intro hc3 hv3))
          clear hown hc3 hv3 hl5 z6 c0 c1 c2 c3 c4 c5 c6 c7 c8 a0
          go_wp2
          go_roundw
          case rel =>
            obtain ⟨hown, hc3, hv3⟩ := HY.out
            obtain ⟨hv6, hcm, hch, htk, hol, hA9⟩ := HJ.out
            have hsc := setCell_chg w3 (A + 1) 0 (.slice ao5 (out.length + 1) cap5)
            refine ⟨k + 1, _, .slice ao5 (out.length + 1) cap5, by omega, by go_num, by have := set_blk hv3 0 (.slice ao5 (out.length + 1) cap5); simpa using this, ⟨hown.own.keep hsc (fun q hq e => by have := (hown.own.blt hq).1; have : q = A + 1 := e; omega), fun _ _ h => h⟩, hid ?_, ((hch.trans ((Chg.refl (fun _ => False) wr).alloc (.cells #[.string ⟨c.head.1.toArray⟩, .string ⟨c.head.2.toArray⟩, .string ⟨s.toArray⟩] 52)) (fun _ _ h => h.elim)).trans hc3 (fun i _ h => .inl (by first | exact h.1 | exact h))).trans hsc (fun i _ h => .inr h)⟩
            rw [htk, List.map_append, hout.out]
            rfl
          case measure => simp [intOf]; omega
        · have hk2 : k = ys.length := by omega
          have z6 := cell_blk hv6 0
          have f6 := froz_blk hv6 0
          simp only [List.getElem?_toArray, List.getElem?_cons_zero] at z6
          have ho : out = ys.map (fun s => (c.head, s)) := by rw [hout.out, hk2, List.take_length]
          have hsc := setCell_chg wr (A + 1) 0 (.slice ao4 out.length cap4)
          have hcell : (wr.setCell ⟨A + 1, 0, none⟩ (.slice ao4 out.length cap4)).cell? ⟨A + 1, 0, none⟩ = some (.slice ao4 out.length cap4) := by
            have := cell_blk (set_blk hv6 0 (.slice ao4 out.length cap4)) 0
            simpa using this
          have HE : Hid (∃ ao3 cap3, Value.slice ao4 out.length cap4 = .slice ao3 out.length cap3 ∧ FactsAt (fun i => w.heap.size ≤ i ∧ i < (wr.setCell ⟨A + 1, 0, none⟩ (.slice ao4 out.length cap4)).heap.size) (wr.setCell ⟨A + 1, 0, none⟩ (.slice ao4 out.length cap4)) ao3 out ∧ HoldsOf p c names out ∧ Chg (fun _ => False) w (wr.setCell ⟨A + 1, 0, none⟩ (.slice ao4 out.length cap4))) := hid (by
            have hcm2 : Came w9.heap.size (fun _ => False) (wr.setCell ⟨A + 1, 0, none⟩ (.slice ao4 out.length cap4)) (.slice ao4 out.length cap4) out := ⟨hcm.own.keep hsc (fun q hq e => by have := (hcm.own.blt hq).1; have : q = A + 1 := e; omega), fun _ _ h => h⟩
            obtain ⟨ao3, cap3, e3, hf, _⟩ := hcm2.facts
            have hs1 := HC9.out.1.size
            have hAe := HAE.out
            exact ⟨ao3, cap3, e3, hf.mono (fun i hi => ⟨by omega, hi.2.1⟩), by rw [ho]; exact HH.out, (HC9.out.1.trans hch (fun i hi e => by rcases e with e | e <;> omega)).trans hsc (fun i hi e => by have : i = A + 1 := e; omega)⟩)
          have HCL := hid hcell
          clear hv6 hcm hout hch hk2 hA9 ho hsc hcell
          go_wp2
          refine leaves_cons (f := 39) (args := #[.pointer (some ⟨A + 1, 0, none⟩)]) (by simp) (by simp [go_sem]) ?_
          refine (holds1_idle _ _).mono ?_
          rintro e u' w5 ⟨rfl, rfl, rfl⟩
          have hc := HCL.out
          obtain ⟨ao3, cap3, e9, hf, hcc⟩ := HE.out
          injection e9 with e1 _ e2
          subst e1
          subst e2
          have HEND := hid (And.intro hf hcc)
          simp [Leaves, settle, results, Tryz.results23, go_sem, hc]
          exact ⟨out, ao4, cap4, rfl, HEND.out⟩
end Go.Proofs.YtanompfdjfgfbaaGreat

/- The landed model keeps all contracts that the laws of layer 8 ask. -/
namespace Go.Proofs.YtanompfdjfgfbaaGreat
open Go.RowKit Go.Maps

theorem isRole_of_der {ls : List CredB} {f : FactB} (h : Der ls f) : isRole f.1 = true := by
  obtain ⟨c, _, hr, e⟩ := h.head
  rw [← e]
  exact isCred_head hr

theorem MA.few {ls : List CredB} (hs : SmallC ls) {F : List FactB} (hnd : F.Nodup) (hF : ∀ f, f ∈ F ↔ Der ls f) : F.length ≤ 4000000 := der_few hnd (fun f hf => (hF f).1 hf) hs.1

theorem model_mk : MK MA where
  keep h hc hs := h.keep hc hs
  low h := by
    obtain ⟨K, O0, F, h1, h2, _⟩ := h
    exact h2
  of ao cp ls w hs hst _ hD := pof ao cp ls w hs.1 hst hD
  add g ao cp ls ms w h hs hst _ hD := by
    obtain ⟨K, O0, F, h1, h2, h3, hnd, hF⟩ := h
    obtain ⟨K', O', hms, hsub, hmap⟩ := h3.tight
    refine (padd g ao cp ls ms F w hms hs.1 hnd hF (hst.off hms hmap) (fun i hi => hi.2)).mono ?_
    rintro e w' ⟨O2, n, rfl, hn, hma, hO2, hch⟩
    exact ⟨O2, fun xs ys hx hy => by rw [hn xs ys hx hy], hma, fun i hi => (hO2 i hi).imp (fun h => h1 i (hsub i h)) id, hch.mono (fun i _ h => h1 i (hsub i h))⟩
  inn g ls xs r s w h hs hx h1 h2 h3 := by
    obtain ⟨K, O0, F, _, _, hms, hnd, hF⟩ := h
    refine (pin g F r s w hms ⟨by omega, by omega⟩ (by show s.length ≤ _; omega)).mono ?_
    rintro e w' ⟨rfl, hc⟩
    refine ⟨?_, hc⟩
    have : decide ((r, s) ∈ F) = inF xs r s := by
      rw [Bool.eq_iff_iff, decide_eq_true_iff, inF_iff, hF, hx.2]
    rw [this]
  members g ls xs r w h hs hx h1 h2 := by
    obtain ⟨K, O0, F, _, _, hms, hnd, hF⟩ := h
    refine (pmem g F r w hms ⟨by omega, by omega⟩ (MA.few hs hnd hF)).mono ?_
    rintro e w' ⟨ys, ao, cap, rfl, hy, hyn, hst, hc, _⟩
    have he : sortS ys = membersF xs r := (sortS_rises hyn).ext (membersF_rises r hx.1) (fun s => by rw [sortS_mem, hy, mem_membersF, hF, hx.2])
    rw [he] at hst
    refine ⟨⟨ao, cap, ?_, hst.mono (fun _ _ => trivial)⟩, hc⟩
    rw [← he, sortS_length]
  roles g ls xs s w h hs hx h1 := by
    obtain ⟨K, O0, F, _, _, hms, hnd, hF⟩ := h
    refine (proles g F s w hms (MA.few hs hnd hF) (by omega)).mono ?_
    rintro e w' ⟨out, out', ao, cap, rfl, ho, hset, hst, hc⟩
    have he : out' = rolesF xs s := hset.1.ext ltR_ord (rolesF_rises s hx.1) (fun r => by
      rw [hset.2 r, ho, mem_rolesF, hx.2, hF]
      exact ⟨fun h => h.1, fun h => ⟨h, isRole_of_der h⟩⟩)
    rw [he] at hst
    refine ⟨⟨ao, cap, by rw [he], hst.mono (fun _ _ => trivial)⟩, hc⟩
  facts g ls xs w h hs hx := by
    obtain ⟨K, O0, F, _, _, hms, hnd, hF⟩ := h
    refine (pfacts g F w hms (MA.few hs hnd hF) hnd).mono ?_
    rintro e w' ⟨ys, ao, cap, rfl, hy, hm, hst, hc⟩
    have he : ys = xs := hy.ext ltF_ord hx.1 (fun f => by rw [hm, hF, hx.2])
    rw [he] at hst
    exact ⟨⟨ao, cap, by rw [he], hst.mono (fun _ _ => trivial)⟩, hc⟩
  holds gf fi cap p c no np names w hcs hn hnm hst hD eg hp := pholds gf fi cap p c no np names w hcs hn hnm hst hD eg hp
  innNil r s w := pin_nil r s w
  membersNil r w := (pmem_nil r w).mono fun _ _ ⟨h1, h2⟩ => ⟨⟨none, 0, h1⟩, h2⟩
  rolesNil s w := (proles_nil s w).mono fun _ _ ⟨h1, h2⟩ => ⟨⟨none, 0, h1⟩, h2⟩
  factsNil w := (pfacts_nil w).mono fun _ _ ⟨h1, h2⟩ => ⟨⟨none, 0, h1⟩, h2⟩
  addNil ao n cp w := padd_nil ao n cp w
end Go.Proofs.YtanompfdjfgfbaaGreat
