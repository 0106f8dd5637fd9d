/- Texts that the proof leans on, in one: PmRoles, PmIter, PmSortR, PmSortF, PmFacts, PmThose. -/
import Derived.Test.YtanompfdjfgfbaaGreatMb20
import Derived.Test.YtanompfdjfgfbaaGreatMb22
import Derived.RangeFuncNested
import Derived.RangeFuncBound
import Derived.RangeFuncCalls
import Derived.RangeFuncLeaves
import Derived.Shelf.Abstract
import Derived.Shelf.RegionOpen
import Derived.WalkKit
import Derived.OwnWalkIn
import Derived.TacticsInMore
import Derived.LoopNIn
import Derived.LoopIn
import Derived.Sort.MapsRangeIn
import Derived.Maps.AppendAt
import Derived.Test.YtanompfdjfgfbaaGreatMb16
import Derived.Test.YtanompfdjfgfbaaGreatMb9
import Derived.Test.YtanompfdjfgfbaaGreatMb5
import Derived.Test.YtanompfdjfgfbaaGreatMb14
/- The roles of somebody. -/
namespace Go.Proofs.YtanompfdjfgfbaaGreat
open Go.RowKit Go.Maps

theorem proles_nil (s : List UInt8) (w : World) : Calls Tryz.prog 18 #[.pointer none, .string ⟨s.toArray⟩] w fun e w' => e = .returned (.slice none 0 0) ∧ Chg (fun _ => False) w w' := by
  go_enter Tryz.func18, Tryz.ntmps18
  go_wp2
  go_ret
  exact ⟨rfl, Chg.refl _ _⟩

/-- The roles that have members, to be ranged over. -/
theorem MS.memRange {K O : Nat → Prop} {w : World} {g n2 n3 : Nat} {F : List FactB} {R2 : RoleB → CredB → Prop} {R3 : List UInt8 → CredB → Prop} (h : MS K O w g F n2 R2 n3 R3) :
    ∃ (m : Nat) (ks : List RoleB) (M : DataW Value), w.cell? ⟨g, 0, none⟩ = some (.map (some m)) ∧ O m ∧ (∀ r s, (r, s) ∈ F → r ∈ ks) ∧ (∀ r ∈ ks, ktR.ok r) ∧ ks.Nodup ∧ ks.length ≤ F.length ∧ KM ktR heldElem w m ks M := by
  obtain ⟨⟨m1, m2, m3, O1, O2, O3, h0, h1, h2, h3, d1, d2, d3⟩, h4, hk, h5⟩ := h
  obtain ⟨⟨l, q1, q2, q3, q4, q5⟩, q6⟩ := h1
  obtain ⟨M, hM, _⟩ := q1.ex
  exact ⟨m1, l.map (·.1), M, cell_blk h0 0, (d1 _ q6).1, q4, hM.ok, hM.nd, by rw [List.length_map]; exact q5, hM⟩

/-- The roles that somebody has, in a row of the call's own. -/
def RolesPost (F : List FactB) (s : List UInt8) (w : World) (e : Ending) (w' : World) : Prop :=
  ∃ out out' ao cap, e = .returned (.slice ao out'.length cap) ∧ (∀ r, r ∈ out ↔ (r, s) ∈ F) ∧ SetR out out' ∧ RolesAt (fun k => w.heap.size ≤ k ∧ k < w'.heap.size) w' ao out' ∧ Chg (fun _ => False) w w'

set_option maxRecDepth 100000 in
set_option maxHeartbeats 2000000 in
theorem proles {K O : Nat → Prop} (g : Nat) (F : List FactB) {n2 n3 : Nat} {R2 : RoleB → CredB → Prop} {R3 : List UInt8 → CredB → Prop} (s : List UInt8) (w : World) (h : MS K O w g F n2 R2 n3 R3) (hn : F.length ≤ 4000000) (hs : s.length ≤ 9223372036854775807) :
    Calls Tryz.prog 18 #[.pointer (some ⟨g, 0, none⟩), .string ⟨s.toArray⟩] w (RolesPost F s w) := by
  obtain ⟨i0, hi, hz0, hz1, hz2⟩ := info_parts Tryz.info24
  have HI0 := hid (And.intro hi (And.intro hz0 (And.intro hz1 hz2)))
  obtain ⟨m, ks, M, z0, hmO, hks, hok, hnd, hkl, hM⟩ := h.memRange
  have hmw := h.lo m hmO
  obtain ⟨w1, z1, hrg, hc1, hs1⟩ := hM.range (t := 55) (e := 66) Tryz.underlying55
  have HB := hid (And.intro (h.quiet hc1) (And.intro hks (And.intro hok (And.intro hkl (And.intro hmw (And.intro hc1 hs1))))))
  have HRG := hid hrg
  have HN := hid (And.intro hn hs)
  have HLO := hid h.lo
  clear hi hz0 hz1 hz2 h hmO hks hok hnd hkl hM hmw hrg hc1 hs1 hn hs
  go_enter Tryz.func18, Tryz.ntmps18
  go_wp2
  clear z0 z1
  obtain ⟨r, hr⟩ : ∃ r, w.heap.size = r := ⟨_, rfl⟩
  rw [hr] at HB HRG ⊢
  have HRW := hid hr
  clear hr
  go_loopw [5] (fun v wr => ∃ (rest : List RoleB) (cnt : Nat) (out : List RoleB), KRange ktR heldElem wr (some m) r rest cnt ∧ OwnR w1.heap.size wr v out ∧ Chg (fun i => r ≤ i) w1 wr ∧ (∀ x, x ∈ out ↔ x ∈ ks ∧ x ∉ rest ∧ (x, s) ∈ F) ∧ out.length + rest.length ≤ ks.length ∧ (∀ z ∈ rest, z ∈ ks)) (fun _ wr => krLeft wr (some m) r)
  case atStart => exact ⟨ks, _, [], HRG.out, World.ownsRow_nil _ _ _ _, Chg.refl _ _, fun x => ⟨fun h => (by cases h), fun h => absurd h.1 h.2.1⟩, by simp, fun _ h => h⟩
  case round =>
    obtain ⟨rest, cnt, out, hrg, hown, hch, hmem, hlen, hsub⟩ := hrel
    have HI := hid (And.intro hown (And.intro hch (And.intro hmem (And.intro hlen hsub))))
    have HQ := hid hrg
    clear hown hch hmem hlen hsub
    go_wp2_with (at_next; refine wpList_next_k _ rfl (.tmp 13) rfl ktR heldElem (some m) r rest cnt rfl HQ.out ?_ ?_)
    · intro hrest
      obtain ⟨hown, hch, hmem, hlen, hsub⟩ := HI.out
      have hmem2 : ∀ x, x ∈ out ↔ (x, s) ∈ F := fun x => by
        rw [hmem x, hrest]
        exact ⟨fun h => h.2.2, fun h => ⟨HB.out.2.1 x s h, by simp, h⟩⟩
      obtain ⟨ao, cap, rfl, hR, h0⟩ := hown.roles (fun x hx => HB.out.2.2.1 x ((hmem x).1 hx).1)
      have HP := hid (pset ao cap out wr (by have := HB.out.2.2.2.1; have := HN.out.1; omega) hR (fun i hi => hi.2) h0)
      have HE := hid (And.intro hmem2 hch)
      clear hown hch hmem hlen hsub hmem2 hR h0 hrest hrg HQ HI
      go_wp2_with fail
      refine HP.out.mono ?_
      rintro e w5 ⟨out', ao', cap', rfl, h1, h2, h3, _⟩
      have HF := hid (And.intro h1 (And.intro h2 h3))
      clear h1 h2 h3 HP
      go_wp2
      go_ret
      have hw1 := HB.out.2.2.2.2.2.1
      have hrw := HRW.out
      have hch := HE.out.2
      refine ⟨out, out', ao', cap', rfl, HE.out.1, HF.out.1, HF.out.2.1.mono (fun i hi => ⟨by have := hw1.size; have := hch.size; omega, hi.2⟩), (hw1.trans hch (fun i hi e => by omega)).trans HF.out.2.2 (fun _ _ h => h)⟩
    · intro x1 x2 cv ya yb w5 cnt5 hx hcv hrg5 hlt5 hc5 hsz5 hent
      obtain ⟨hown, hch, hmem, hlen, hsub⟩ := HI.out
      have hrr : r < w1.heap.size := by have := HB.out.2.2.2.2.2.2; omega
      have hw6 : Chg (fun _ => False) w5 (w5.alloc (.cells #[.string ⟨x1.toArray⟩, .string ⟨x2.toArray⟩] 24)) := (Chg.refl _ w5).alloc _
      have hown5 : OwnR w1.heap.size w5 u5 out := hown.keep hc5 (fun k hk e => by have := (ownsRow_lt hown k hk).1; have : k = r := e; omega)
      have hch6 : Chg (fun i => r ≤ i) w1 (w5.alloc (.cells #[.string ⟨x1.toArray⟩, .string ⟨x2.toArray⟩] 24)) := (hch.trans hc5 (fun i hi e => by have : i = r := e; show r ≤ i; omega)).trans hw6 (fun _ _ h => h.elim)
      have hown6 := World.ownsRow.alloc hown5 (.cells #[.string ⟨x1.toArray⟩, .string ⟨x2.toArray⟩] 24)
      have hrg6 := hrg5.keep hw6 (fun _ _ => id) id
      have hms6 := HB.out.1.keep hch6 (fun i hi e => by have := HLO.out i hi; have := HRW.out; have : r ≤ i := e; omega)
      have hokx := HB.out.2.2.1 (x1, x2) (hsub (x1, x2) hx)
      have q1 := pin g F (x1, x2) s (w5.alloc (.cells #[.string ⟨x1.toArray⟩, .string ⟨x2.toArray⟩] 24)) hms6 hokx HN.out.2
      have hbX : (w5.alloc (.cells #[.string ⟨x1.toArray⟩, .string ⟨x2.toArray⟩] 24)).heap[w5.heap.size]? = some (.cells #[.string ⟨x1.toArray⟩, .string ⟨x2.toArray⟩] 24 (0, 0)) := heap_alloc_new w5 _
      have y0 := cell_blk hbX 0
      have y1 := cell_blk hbX 1
      simp only [List.getElem?_toArray, List.getElem?_cons_zero, List.getElem?_cons_succ] at y0 y1
      have HJ := hid (And.intro hown6 (And.intro hch6 (And.intro hrg6 (And.intro hlt5 (And.intro hx (And.intro hbX hrr))))))
      have hll : (rest.filter (fun z => !decide (z = (x1, x2)))).length < rest.length := List.length_filter_lt_length_iff_exists.2 ⟨(x1, x2), hx, by simp⟩
      have HLL := hid hll
      simp only [ktR] at hent
      by_cases hin : ((x1, x2), s) ∈ F
      · simp only [hin, decide_true] at q1
        have HQ1 := hid q1
        have HIN := hid hin
        clear hown hch hmem hlen hsub hrr hw6 hown5 hch6 hown6 hrg6 hms6 hokx q1 hbX hll hx hcv hrg5 hlt5 hc5 hsz5 hrg hin
        go_wp2_with fail
        refine HQ1.out.mono ?_
        rintro e w7 ⟨rfl, hc7⟩
        clear y0 y1 hent HQ1
        have hb7 := blk_keep HJ.out.2.2.2.2.2.1 hc7 id
        have y0 := cell_blk hb7 0
        have y1 := cell_blk hb7 1
        simp only [List.getElem?_toArray, List.getElem?_cons_zero, List.getElem?_cons_succ] at y0 y1
        have ho7 : OwnR w1.heap.size w7 u5 out := OwnR.keep HJ.out.1 hc7 (fun _ _ => id)
        have HK7 := hid (And.intro ho7 hc7)
        have hb1 : w1.heap.size ≤ w7.heap.size := Nat.le_trans HJ.out.2.1.size hc7.size
        have HB1 := hid hb1
        clear hb7 hc7 ho7 hb1
        go_wp2_with (at_builtin; refine wpList_append_own_at _ rfl (.tmp 22) (.tmp 24) 40 rfl w1.heap.size 24 i0 (.agg #[.string ⟨#[]⟩, .string ⟨#[]⟩]) 2 32 Tryz.underlying40 HI0.out.1 HI0.out.2.1 HI0.out.2.2.1 HI0.out.2.2.2 rfl (by decide) u5 _ _ rfl (World.ownsRow.alloc HK7.out.1 (.cells #[.string ⟨x1.toArray⟩, .string ⟨x2.toArray⟩] 24)) ⟨w7.heap.size, 0, none⟩ 1 1 (roleCells (x1, x2)) rfl rfl ?c1 ?c2 ?c3 ?c4 ?c5 ?_)
        case c1 => exact fun j u hj => role_cells_new w7 (x1, x2) j u hj
        case c2 => intro u hu; simp only [roleCells, List.mem_cons, List.not_mem_nil, or_false] at hu; rcases hu with rfl | rfl <;> rfl
        case c3 => have := HI.out.2.2.2.1; have := HB.out.2.2.2.1; have := HN.out.1; unfold maxLen; omega
        case c4 => have := HI.out.2.2.2.1; have := HB.out.2.2.2.1; have := HN.out.1; omega
        case c5 => have := HB1.out; simp; omega
        intro v' w3 hown9 hgrow _ _
        have ho2 : OwnR w1.heap.size w3 v' (out ++ [(x1, x2)]) := by
          unfold OwnR
          rw [roleRow_snoc, List.length_append]
          exact hown9
        have hwa : Chg (fun _ => False) w7 (w7.alloc (.cells #[.string ⟨x1.toArray⟩, .string ⟨x2.toArray⟩] 24)) := (Chg.refl _ w7).alloc _
        have hc9 : Chg (fun i => w1.heap.size ≤ i) (w7.alloc (.cells #[.string ⟨x1.toArray⟩, .string ⟨x2.toArray⟩] 24)) w3 := (Chg.refl _ _).grown hgrow (fun k hk _ => (ownsRow_lt HK7.out.1 k hk).1)
        have HY := hid (And.intro ho2 (And.intro hwa hc9))
        clear hown9 hgrow ho2 hwa hc9 y0 y1
        go_wp2
        go_roundw
        case rel =>
          obtain ⟨hown6, hch6, hrg6, hlt5, hx, hbX, hrr⟩ := HJ.out
          obtain ⟨hown, hch, hmem, hlen, hsub⟩ := HI.out
          have hmw := HB.out.2.2.2.2.1
          have hrw := HRW.out
          refine ⟨_, cnt5, _, ((hrg6.keep HK7.out.2 (fun _ _ => id) id).keep HY.out.2.1 (fun _ _ => id) id).keep HY.out.2.2 (fun b e h => by cases e; omega) (fun h => by omega), HY.out.1, ((hch6.trans HK7.out.2 (fun _ _ h => h.elim)).trans HY.out.2.1 (fun _ _ h => h.elim)).trans HY.out.2.2 (fun i hi e => by omega), fun z => ?_, ?_, fun z hz => hsub z (List.mem_filter.1 hz).1⟩
          · rw [List.mem_append, List.mem_singleton, hmem z]
            simp only [List.mem_filter, Bool.not_eq_true', decide_eq_false_iff_not, not_and, Classical.not_not]
            constructor
            · rintro (⟨h1, h2, h3⟩ | rfl)
              · exact ⟨h1, fun h => absurd h h2, h3⟩
              · exact ⟨hsub _ hx, fun _ => rfl, HIN.out⟩
            · rintro ⟨h1, h2, h3⟩
              by_cases h4 : z ∈ rest
              · exact .inr (h2 h4)
              · exact .inl ⟨h1, h4, h3⟩
          · generalize hF : List.filter _ rest = fr
            have hlt : fr.length < rest.length := by rw [← hF]; exact List.length_filter_lt_length_iff_exists.2 ⟨(x1, x2), hx, by simp⟩
            rw [List.length_append, List.length_singleton]
            omega
        case measure =>
          obtain ⟨hown6, hch6, hrg6, hlt5, hx, hbX, hrr⟩ := HJ.out
          have hmw := HB.out.2.2.2.2.1
          have hrw := HRW.out
          have hnew := ((hrg6.keep HK7.out.2 (fun _ _ => id) id).keep HY.out.2.1 (fun _ _ => id) id).keep HY.out.2.2 (fun b e h => by cases e; omega) (fun h => by omega)
          rw [hnew.left_eq, HQ.out.left_eq]
          exact hlt5
      · simp only [hin, decide_false] at q1
        have HQ1 := hid q1
        have HIN := hid hin
        clear hown hch hmem hlen hsub hrr hw6 hown5 hch6 hown6 hrg6 hms6 hokx q1 hbX hll hx hcv hrg5 hlt5 hc5 hsz5 hrg hin
        go_wp2_with fail
        refine HQ1.out.mono ?_
        rintro e w7 ⟨rfl, hc7⟩
        clear y0 y1 hent HQ1
        have HK7 := hid hc7
        clear hc7
        go_wp2
        go_roundw
        case rel =>
          obtain ⟨hown6, hch6, hrg6, hlt5, hx, hbX, hrr⟩ := HJ.out
          obtain ⟨hown, hch, hmem, hlen, hsub⟩ := HI.out
          refine ⟨_, cnt5, out, hrg6.keep HK7.out (fun _ _ => id) id, OwnR.keep hown6 HK7.out (fun _ _ => id), hch6.trans HK7.out (fun _ _ h => h.elim), fun z => ?_, (by
            generalize hF : List.filter _ rest = fr
            have hlt : fr.length < rest.length := by rw [← hF]; exact List.length_filter_lt_length_iff_exists.2 ⟨(x1, x2), hx, by simp⟩
            omega), fun z hz => hsub z (List.mem_filter.1 hz).1⟩
          rw [hmem z]
          simp only [List.mem_filter, Bool.not_eq_true', decide_eq_false_iff_not, not_and, Classical.not_not]
          constructor
          · rintro ⟨h1, h2, h3⟩
            exact ⟨h1, fun h => absurd h h2, h3⟩
          · rintro ⟨h1, h2, h3⟩
            refine ⟨h1, fun h4 => ?_, h3⟩
            rw [h2 h4] at h3
            exact HIN.out h3
        case measure =>
          obtain ⟨hown6, hch6, hrg6, hlt5, hx, hbX, hrr⟩ := HJ.out
          rw [(hrg6.keep HK7.out (fun _ _ => id) id).left_eq, HQ.out.left_eq]
          exact hlt5
end Go.Proofs.YtanompfdjfgfbaaGreat

/- maps.Keys of the members: the iterator that it gives, for whoever goes through it. -/
namespace Go.Proofs.YtanompfdjfgfbaaGreat
open Go.RowKit Go.Maps
attribute [local go_sem] Oper.semAt_some

theorem chg_grown8 {w w' : World} (h : Chg (fun _ => False) w w') : w.grownBy w' none := ⟨h.os, h.tape, h.output, h.size, fun k hk _ => h.block k hk id⟩
theorem chg_below8 {w w' : World} {n : Nat} (h : Chg (fun _ => False) w w') (hn : n ≤ w.heap.size) : Below n w w' := h.below hn (fun _ _ => id)
theorem below_chg8 {w w' : World} (h : Below w.heap.size w w') : Chg (fun _ => False) w w' := ⟨h.os, h.tape, h.output, h.size, fun k hk _ => h.block k hk⟩
theorem below_lo8 {n : Nat} {w w' : World} (h : Below n w w') : Chg (fun i => n ≤ i) w w' := ⟨h.os, h.tape, h.output, h.size, fun k hk hn => h.block k (by omega)⟩

/-- The step, inside a fence. -/
theorem wpListIn_next_k {α : Type} [DecidableEq α] {F : Fence} {n : Nat} (w : World) {ops : Array Oper} {rs : List Oper} {o : Oper} {a : Act} {Q : Exit → Act → World → Prop} (hg : o.guard = none) (it : Operand) (hop : o.op = Op.next it false) (k : KT α) (R : Value → Option (DataW Value × List MemPlace)) (mo : Option Nat) (r : Nat) (rest : List α) (cnt : Nat)
    (hit : a.eval it = .pointer (some ⟨r, 0, none⟩)) (h : KRange k R w mo r rest cnt)
    (hDone : rest = [] → wpListIn F n Tryz.prog ops Q rs (a.put o.dst (.tuple #[.bool false])) w)
    (hMore : ∀ (x : α) (c : Value) (w' : World) (cnt' : Nat), Hid (x ∈ rest ∧ KRange k R w' mo r (rest.filter (fun z => decide (z ≠ x))) cnt' ∧ cnt' < cnt ∧ Chg (· = r) w w' ∧ w'.heap.size = w.heap.size) →
      (Instr.entry (.pointer (some ⟨r, 0, none⟩))).run Tryz.prog w' = .ok (.tuple #[k.val x, c]) w' → wpListIn F n Tryz.prog ops Q rs (a.put o.dst (.tuple #[.bool true, k.val x, c])) w') :
    wpListIn F n Tryz.prog ops Q (o :: rs) a w := by
  refine wpListIn_plain hg fun K' hK' => ?_
  unfold Oper.wpIn
  refine ⟨by simp [Oper.about, hop], ?_⟩
  rw [Oper.semAt_plain F _ _ (by rw [hop]; intro c hc'; cases hc')]
  rcases h.next o.type with ⟨h0, hrun⟩ | ⟨x, c, y, w', cnt', hx, hc, hrun, h1, h2, h3, h4, h5⟩
  · simp [execOp, hop, hit, hrun, Result.andThen]
    exact hK' _ _ (hDone h0)
  · simp [execOp, hop, hit, hrun, Result.andThen]
    exact hK' _ _ (hMore x c w' cnt' ⟨hx, h1, h2, h3, h4⟩ h5)

theorem KRange.of_walks {α : Type} {k : KT α} {R : Value → Option (DataW Value × List MemPlace)} {w w' : World} {m r cnt : Nat} {rest : List α} (h : KRange k R w (some m) r rest cnt) (hk : KeepsWalks w w') : KRange k R w' (some m) r rest cnt := by
  obtain ⟨h1, h2, M, n, left, h3, h4⟩ := h
  exact ⟨h1, h2, M, n, left, h3.of_walks hk, h4⟩

theorem KRange.walk {α : Type} {k : KT α} {R : Value → Option (DataW Value × List MemPlace)} {w : World} {m r cnt : Nat} {rest : List α} (h : KRange k R w (some m) r rest cnt) : ∃ o : Obj, w.heap[r]? = some o ∧ o.isWalk = true := by
  obtain ⟨h1, h2, M, n, left, h3, h4⟩ := h
  exact h3.iter_walk

theorem pkeys0 (mo : Option Nat) (w : World) :
    Calls Tryz.prog 28 #[.map mo] w fun e w' => e = .returned (.func (.func 46) #[] #[.pointer (some ⟨w.heap.size, 0, none⟩)]) ∧ w' = w.alloc (.cells #[.map mo] 55) := by
  go_enter Tryz.func28, Tryz.ntmps28
  go_wp2
  go_ret
  exact ⟨rfl, rfl⟩

set_option maxRecDepth 100000 in
set_option maxHeartbeats 4000000 in
theorem pkeys1 (n : Nat) (hn : 1 ≤ n) (X m : Nat) (ks : List RoleB) (M : DataW Value) (w : World) (hX : X < w.heap.size) (hc : w.cell? ⟨X, 0, none⟩ = some (.map (some m))) (hM : KM ktR heldElem w m ks M) :
    SeqStopsK Fence.wide n Tryz.prog 46 #[.pointer (some ⟨X, 0, none⟩)] (fun x : RoleB => #[.agg #[.string ⟨x.1.toArray⟩, .string ⟨x.2.toArray⟩]]) KeepsWalks (fun rs => rs.Nodup ∧ ∀ x, x ∈ rs ↔ x ∈ ks) (fun _ => True) ks.length w := fun l J Jx W hW hJ hJx hY h0 => by
  have hcX := (hW.cell (p := ⟨X, 0, none⟩) hX).trans hc
  have hMW := hM.keep (below_lo8 hW) (fun h => by have := hM.lt; omega)
  obtain ⟨w1, z1, hrg, hc1, hs1⟩ := hMW.range (t := 55) (e := 66) Tryz.underlying55
  have hJ1 : J [] w1 := hJ [] W w1 none h0 (chg_grown8 hc1) (fun r e => by cases e)
  have HRG := hid (And.intro hrg hJ1)
  have HY := hid hY
  have HJ := hid hJ
  have HM := hid (And.intro hMW.ok hMW.nd)
  clear hrg hJ1 hY hJ hJx hM hMW hc1 hs1 hc hX hW h0
  refine callsIn_of_wp Tryz.func46 rfl trivial ?_ rfl
  simp only [Tryz.ntmps46, List.size_toArray, List.length_cons, List.length_nil, Nat.reduceAdd, Nat.reduceSub, Array.replicate_succ, Array.replicate_zero, List.push_toArray, List.append_toArray, List.nil_append, List.cons_append]
  gi_wp2
  clear hcX z1
  obtain ⟨r, hr⟩ : ∃ r, W.heap.size = r := ⟨_, rfl⟩
  rw [hr] at HRG HJ ⊢
  clear hr
  gi_loopw [3] (fun _ wr => ∃ (rest : List RoleB) (cnt : Nat) (rs : List RoleB), KRange ktR heldElem wr (some m) r rest cnt ∧ rs.Nodup ∧ (∀ x, x ∈ rs ↔ x ∈ ks ∧ x ∉ rest) ∧ (∀ x ∈ rest, x ∈ ks) ∧ J rs wr) (fun _ wr => krLeft wr (some m) r)
  case atStart => exact ⟨ks, _, [], HRG.out.1, List.nodup_nil, fun x => ⟨fun h => (by cases h), fun h => absurd h.1 h.2⟩, fun _ h => h, HRG.out.2⟩
  case round =>
    clear HRG
    obtain ⟨rest, cnt, rs, hrg, hnd, hmem, hsub, hJs⟩ := hrel
    have HI := hid (And.intro hnd (And.intro hmem (And.intro hsub hJs)))
    have HQ := hid hrg
    clear hnd hmem hsub hJs hrg
    gi_wp2_with (gi_at_next; refine wpListIn_next_k _ rfl (.tmp 5) rfl ktR heldElem (some m) r rest cnt rfl HQ.out ?_ ?_)
    · intro hrest
      obtain ⟨hnd, hmem, hsub, hJs⟩ := HI.out
      have HE := hid (And.intro hnd (And.intro (show ∀ x, x ∈ rs ↔ x ∈ ks from fun x => by rw [hmem x, hrest]; simp) hJs))
      clear hrest hnd hmem hsub hJs HI HQ
      gi_wp2
      go_end0
      exact ⟨⟨_, rfl⟩, .inl ⟨rs, ⟨HE.out.1, HE.out.2.1⟩, HE.out.2.2⟩⟩
    · intro x1 x2 cv w5 cnt5 H5 hent
      obtain ⟨hx, hrg5, hlt5, hc5, hsz5⟩ := H5.out
      obtain ⟨hnd, hmem, hsub, hJs⟩ := HI.out
      have hg5 : wr.grownBy w5 (some r) := ⟨hc5.os, hc5.tape, hc5.output, hc5.size, fun i hi hne => hc5.block i hi (fun e => hne (by have : i = r := e; rw [this]))⟩
      have hJ5 := HJ.out rs wr w5 (some r) hJs hg5 (fun r' e => by cases e; exact ⟨Nat.le_refl _, HQ.out.walk⟩)
      have hw6 : Chg (fun _ => False) w5 (w5.alloc (.cells #[.string ⟨x1.toArray⟩, .string ⟨x2.toArray⟩] 24)) := (Chg.refl _ w5).alloc _
      have hJ6 := HJ.out rs w5 _ none hJ5 (chg_grown8 hw6) (fun r' e => by cases e)
      have hno : (x1, x2) ∉ rs := fun h => ((hmem _).1 h).2 hx
      have hlen : rs.length < ks.length := by
        have := nodup_lengthG (rs ++ [(x1, x2)]) ks (List.nodup_append.2 ⟨hnd, by simp, fun a ha b hb e => by rw [List.mem_singleton] at hb; subst hb; subst e; exact hno ha⟩) (fun y hy => by
          rcases List.mem_append.1 hy with h | h
          · exact ((hmem y).1 h).1
          · rw [List.mem_singleton] at h; subst h; exact hsub _ hx)
        simp at this
        omega
      obtain ⟨fn, tmps, assign, body, hyy, hR⟩ := HY.out rs (x1, x2) _ hJ6 hlen
      have hrg6 := hrg5.keep hw6 (fun _ _ => id) id
      have HRR := hid hR
      have HJ6 := hid (And.intro hrg6 (And.intro hlt5 (And.intro hno hx)))
      have hbX := heap_alloc_new w5 (.cells #[.string ⟨x1.toArray⟩, .string ⟨x2.toArray⟩] 24)
      have y0 := cell_blk hbX 0
      have y1 := cell_blk hbX 1
      simp only [List.getElem?_toArray, List.getElem?_cons_zero, List.getElem?_cons_succ] at y0 y1
      dsimp only at hyy
      simp only [ktR] at hent
      clear hx hrg5 hlt5 hc5 hsz5 hnd hmem hsub hJs hg5 hJ5 hw6 hJ6 hno hlen hrg6 hR hbX H5
      gi_wp2_with fail
      refine HRR.out.mono ?_
      clear HRR hyy y0 y1 hent
      rintro e W3 (⟨rfl, hJ3, hk3⟩ | ⟨rfl, hJx3⟩)
      · have HR3 := hid (And.intro hJ3 (HJ6.out.1.of_walks hk3))
        clear hJ3 hk3
        gi_wp2
        go_roundw
        case rel =>
          obtain ⟨hnd, hmem, hsub, hJs⟩ := HI.out
          refine ⟨_, cnt5, rs ++ [(x1, x2)], HR3.out.2, List.nodup_append.2 ⟨hnd, by simp, fun a ha b hb e => by rw [List.mem_singleton] at hb; subst hb; subst e; exact HJ6.out.2.2.1 ha⟩, fun z => ?_, fun z hz => hsub z (List.mem_filter.1 hz).1, HR3.out.1⟩
          rw [List.mem_append, List.mem_singleton, hmem z]
          simp only [List.mem_filter, Bool.not_eq_true', decide_eq_false_iff_not, not_and, Classical.not_not]
          constructor
          · rintro (⟨h1, h2⟩ | rfl)
            · exact ⟨h1, fun h => absurd h h2⟩
            · exact ⟨hsub _ HJ6.out.2.2.2, fun _ => rfl⟩
          · rintro ⟨h1, h2⟩
            by_cases h4 : z ∈ rest
            · exact .inr (h2 h4)
            · exact .inl ⟨h1, h4⟩
        case measure =>
          rw [HR3.out.2.left_eq, HQ.out.left_eq]
          exact HJ6.out.2.1
      · have HR3 := hid hJx3
        clear hJx3
        gi_wp2
        refine bodyPost_ret (results_none rfl _ _ _) rfl ?_
        exact ⟨⟨_, rfl⟩, .inr ⟨_, trivial, HR3.out⟩⟩
end Go.Proofs.YtanompfdjfgfbaaGreat

/- slices.SortedFunc of maps.Keys of the members: the roles, rising. -/
namespace Go.Proofs.YtanompfdjfgfbaaGreat
open Go.RowKit Go.Maps
attribute [local go_sem] Oper.semAt_some

theorem cells_own8 {β : Type} (B : Nat) (cs : Array Value) (T : TypeId) (f : Nat × Nat) : Own (fun (_ : β) W => W.heap[B]? = some (.cells cs T f)) := by
  intro s X Y row hs hg hr
  refine (hg.block B (lt_blk hs) (fun e => ?_)).trans hs
  obtain ⟨o, ho, hc⟩ := hr B e.symm
  rw [hs] at ho; cases ho; cases hc

theorem keepsWalks_putObj (W : World) (l : Nat) (o o' : Obj) (h : W.heap[l]? = some o) (hw : o.isWalk = false) : KeepsWalks W (W.putObj l o') := KeepsWalks.putObj _ h hw

set_option maxRecDepth 100000 in
set_option maxHeartbeats 4000000 in
/-- slices.AppendSeq(nil, seq). -/
theorem pappendSeq (gf : Nat) (lb : Array Value) (ks : List RoleB) (w : World) (hk : ks.length ≤ 4194304) (eg : ∀ args w, (callFunc gf args).run Tryz.prog w = .ok (.enter gf args) w)
    (hseq : SeqStopsK Fence.wide (10 - 1) Tryz.prog gf lb (fun x : RoleB => #[.agg #[.string ⟨x.1.toArray⟩, .string ⟨x.2.toArray⟩]]) KeepsWalks (fun rs => rs.Nodup ∧ ∀ x, x ∈ rs ↔ x ∈ ks) (fun _ => True) ks.length w) :
    Calls Tryz.prog 71 #[.slice none 0 0, .func (.func gf) #[] lb] w fun e w' => ∃ v rs, e = .returned v ∧ OwnR w.heap.size w' v rs ∧ rs.Nodup ∧ (∀ x, x ∈ rs ↔ x ∈ ks) ∧ Chg (fun _ => False) w w' := by
  refine (callsIn_wide (n := 10)).1 ?_
  obtain ⟨i0, hi, hz0, hz1, hz2⟩ := info_parts Tryz.info24
  have HI := hid (And.intro hi (And.intro hz0 (And.intro hz1 hz2)))
  clear hi hz0 hz1 hz2
  refine callsIn_of_wp_marks Tryz.func71 rfl trivial ?_ rfl
  simp only [Tryz.ntmps71, List.size_toArray, List.length_cons, List.length_nil, Nat.reduceAdd, Nat.reduceSub, Array.replicate_succ, Array.replicate_zero, List.push_toArray, List.append_toArray, List.nil_append, List.cons_append]
  gi_wp2_with fail
  have hLb : Boxed (w.alloc (.cells #[.slice none 0 0] 40)) w.heap.size 40 (.slice none 0 0) := Boxed.new w _ _
  have hcW : Chg (fun _ => False) w (w.alloc (.cells #[.slice none 0 0] 40)) := (Chg.refl _ w).alloc _
  have hB0 : Below w.heap.size w (w.alloc (.cells #[.slice none 0 0] 40)) := chg_below8 hcW (Nat.le_refl _)
  have hsz : (w.alloc (.cells #[.slice none 0 0] 40)).heap.size = w.heap.size + 1 := by simp
  obtain ⟨W0, hW0⟩ : ∃ W0, (w.alloc (.cells #[.slice none 0 0] 40)) = W0 := ⟨_, rfl⟩
  rw [hW0] at hLb hcW hB0 hsz ⊢
  clear hW0
  refine wpIn_rangeFunc_ownH rfl (by omega) (gf := gf) (lb := lb) rfl trivial eg hseq (fun h k => h.trans k) (fun W l o o' _ h _ hw => keepsWalks_putObj W l o o' h hw) hB0 (fun _ => rfl)
    (fun pre W => (∃ v, Boxed W w.heap.size 40 v ∧ W.ownsRow w.heap.size 24 2 v pre.length (roleRow pre) ∧ True) ∧ Below w.heap.size w W)
    (fun _ _ _ => False)
    (OwnFrom.and (Own.from (holdsRow_own w.heap.size w.heap.size 40 24 2 (fun pre => pre.length) (fun pre => roleRow pre) (fun _ _ => True)) _) (ownFrom_below (Nat.le_refl _) (by omega)))
    (fun _ _ _ _ _ hs _ _ => hs)
    ⟨⟨_, hLb, World.ownsRow_nil _ _ _ _, trivial⟩, hB0⟩
    (fun x a' W => ∃ Bx, w.heap.size < Bx ∧ W.heap[Bx]? = some (.cells #[.string ⟨x.1.toArray⟩, .string ⟨x.2.toArray⟩] 24 (0, 0)) ∧ a' = { tmps := #[.slice none 0 0, .func (.func gf) #[] lb, .pointer (some ⟨w.heap.size, 0, none⟩), undef, .slice none 0 0, .pointer (some ⟨Bx, 0, none⟩), .func (.func gf) #[] lb, .agg #[.string ⟨x.1.toArray⟩, .string ⟨x.2.toArray⟩], undef, undef, undef, undef, undef], defers := [] })
    (fun x a' _ X Y row hs hg hr => by obtain ⟨Bx, h1, h2, h3⟩ := hs; exact ⟨Bx, h1, cells_own8 Bx _ _ _ () X Y row h2 hg (fun r e => (hr r e).2), h3⟩)
    ?assign ?body ?done ?stop
  case assign =>
    rintro l pre x W K ⟨⟨v, hv, hrow, _⟩, hB⟩ hK
    have HK := hid hK
    have HI2 := hid (And.intro hv (And.intro hrow (And.intro hB hv.lt)))
    clear hK hv hrow hB
    gi_wp2
    exact HK.out _ _ ((KeepsOthers.alloc _ _).from _) (KeepsWalks.alloc _ _) ⟨⟨v, HI2.out.1.alloc _, HI2.out.2.1.alloc _, trivial⟩, HI2.out.2.2.1.alloc HI2.out.2.2.1.size _⟩ ⟨W.heap.size, HI2.out.2.2.2, heap_alloc_new W _, rfl⟩
  case body =>
    rintro l pre x a' W hl ⟨rr, hr⟩ ⟨⟨v, hv, hrow, _⟩, hB⟩ ⟨Bx, hBx, hbX, rfl⟩ hlt
    have cL := hv.cell
    have y0 := cell_blk hbX 0
    have y1 := cell_blk hbX 1
    simp only [List.getElem?_toArray, List.getElem?_cons_zero, List.getElem?_cons_succ] at y0 y1
    have HE := hid (And.intro hv (And.intro hrow (And.intro hB (And.intro hlt hk))))
    clear hv hrow hB hbX hl hr hk hlt
    obtain ⟨hi, hz0, hz1, hz2⟩ := HI.out
    have HII := hid (And.intro hi (And.intro hz0 (And.intro hz1 hz2)))
    clear hi hz0 hz1 hz2
    gi_wp2_with (gi_at_builtin; refine wpListIn_append_own _ rfl (.tmp 8) (.tmp 10) 40 rfl w.heap.size 24 i0 (.agg #[.string ⟨#[]⟩, .string ⟨#[]⟩]) 2 32 Tryz.underlying40 HII.out.1 HII.out.2.1 HII.out.2.2.1 HII.out.2.2.2 rfl (by decide) _ _ _ rfl (HE.out.2.1.alloc _) ⟨W.heap.size, 0, none⟩ 1 1 (roleCells x) rfl rfl ?c1 ?c2 ?c3 ?c4 ?c5 ?_)
    case c1 => intro j u hj; exact role_cells_new W x j u hj
    case c2 => intro u hu; simp only [roleCells, List.mem_cons, List.not_mem_nil, or_false] at hu; rcases hu with rfl | rfl <;> rfl
    case c3 => have := HE.out.2.2.2; unfold maxLen; omega
    case c4 => have := HE.out.2.2.2; omega
    case c5 => have := HE.out.2.2.1.size; simp; omega
    intro v' w1 hown' hgrow _
    obtain ⟨g', cap', rfl⟩ := ownsRow_succ hown'
    obtain ⟨hv1, hv2, hr2, hk2, hb2⟩ := HE.out.1.appended (by decide) HE.out.2.1 HE.out.2.2.1.size (by omega) hown' hgrow
    have c1 := hv1.cell
    have f1 := hv1.frozen
    have hkw : KeepsWalks W w1 := (KeepsWalks.alloc _ _).trans (KeepsWalks.of_grownBy hgrow (fun j o hj ho => by
      rcases HE.out.2.1.2 with ⟨rfl, _⟩ | ⟨g, cap, cur, rfl, _, hgb, _⟩
      · simp [Value.ownBlock] at hj
      · have : g = j := by simpa [Value.ownBlock] using hj
        subst this
        rw [Below.heap_alloc _ _ _ (lt_blk hgb), hgb] at ho
        cases ho; rfl))
    have HF := hid (And.intro hv2 (And.intro hr2 (And.intro hk2 (And.intro hb2 hkw))))
    clear hv1 hv2 hr2 hk2 hb2 hkw hown' hgrow
    gi_wp2
    exact ⟨HF.out.2.2.1.from _, HF.out.2.2.2.2.trans (KeepsWalks.setCell _ _ _), ⟨_, HF.out.1, by rw [roleRow_snoc, List.length_append]; exact HF.out.2.1, trivial⟩, HE.out.2.2.1.trans HF.out.2.2.2.1⟩
  case done =>
    rintro D ys W hD hys ⟨⟨v, hv, hrow, _⟩, hB⟩ hK
    have hc := hv.cell
    gi_wp2
    refine ⟨by simp, .inl ⟨_, _, rfl, run_takeDeferred hK, ?_⟩⟩
    have hrow2 := ownsRow_putObj hrow (.deferred none) hK rfl
    exact ⟨_, results_tmp rfl _ _ _, v, ys, rfl, hrow2, hys.1, hys.2, below_chg8 (hB.trans (belowK_b (w := w) (Nat.le_refl _) W D _ _ (by omega) hK rfl rfl))⟩
  case stop =>
    rintro D c pre W _ _ h _
    exact h.elim
end Go.Proofs.YtanompfdjfgfbaaGreat

/- slices.SortedFunc of an iterator over roles, by Compare. -/
namespace Go.Proofs.YtanompfdjfgfbaaGreat
open Go.RowKit Go.Maps

/-- The roles ks, each once, in a row of the call's own. -/
def ColPost (ks : List RoleB) (w : World) (e : Ending) (w' : World) : Prop := ∃ v rs, e = .returned v ∧ OwnR w.heap.size w' v rs ∧ rs.Nodup ∧ (∀ x, x ∈ rs ↔ x ∈ ks) ∧ Chg (fun _ => False) w w'
/-- .. rising. -/
def SfPost (ks : List RoleB) (w : World) (e : Ending) (w' : World) : Prop := ∃ ao rs cap, e = .returned (.slice ao rs.length cap) ∧ OwnR w.heap.size w' (.slice ao rs.length cap) rs ∧ RisingG ltR rs ∧ (∀ x, x ∈ rs ↔ x ∈ ks) ∧ Chg (fun _ => False) w w'

theorem pcollect (gf : Nat) (lb : Array Value) (ks : List RoleB) (w : World) (hk : ks.length ≤ 4194304) (eg : ∀ args w, (callFunc gf args).run Tryz.prog w = .ok (.enter gf args) w)
    (hseq : SeqStopsK Fence.wide (10 - 1) Tryz.prog gf lb (fun x : RoleB => #[.agg #[.string ⟨x.1.toArray⟩, .string ⟨x.2.toArray⟩]]) KeepsWalks (fun rs => rs.Nodup ∧ ∀ x, x ∈ rs ↔ x ∈ ks) (fun _ => True) ks.length w) :
    Calls Tryz.prog 44 #[.func (.func gf) #[] lb] w (ColPost ks w) := by
  have HP := hid (pappendSeq gf lb ks w hk eg hseq)
  clear hk eg hseq
  go_enter Tryz.func44, Tryz.ntmps44
  go_wp2_with fail
  refine HP.out.mono ?_
  rintro e w' ⟨v, rs, rfl, h1, h2, h3, h4⟩
  have HR := hid (And.intro h1 (And.intro h2 (And.intro h3 h4)))
  clear h1 h2 h3 h4 HP
  go_wp2
  go_ret
  exact ⟨v, rs, rfl, HR.out⟩

theorem rises_of_sorted {rs : List RoleB} (hnd : rs.Nodup) (hs : rs.Pairwise fun x y => ltR y x = false) : RisingG ltR rs := by
  induction rs with
  | nil => trivial
  | cons x l ih =>
    obtain ⟨a, b⟩ := List.nodup_cons.1 hnd
    obtain ⟨c, d⟩ := List.pairwise_cons.1 hs
    refine ⟨fun y hy => ?_, ih b d⟩
    rcases ltR_ord.tri x y with k | k | k
    · exact k
    · exact absurd (k ▸ hy) a
    · rw [c y hy] at k; cases k

set_option maxHeartbeats 1000000 in
theorem psortedFunc (gf : Nat) (lb : Array Value) (ks : List RoleB) (w : World) (hk : ks.length ≤ 4194304) (eg : ∀ args w, (callFunc gf args).run Tryz.prog w = .ok (.enter gf args) w)
    (hseq : SeqStopsK Fence.wide (10 - 1) Tryz.prog gf lb (fun x : RoleB => #[.agg #[.string ⟨x.1.toArray⟩, .string ⟨x.2.toArray⟩]]) KeepsWalks (fun rs => rs.Nodup ∧ ∀ x, x ∈ rs ↔ x ∈ ks) (fun _ => True) ks.length w) :
    Calls Tryz.prog 27 #[.func (.func gf) #[] lb, .func (.func 29) #[] #[]] w (SfPost ks w) := by
  have HP := hid (pcollect gf lb ks w hk eg hseq)
  have HK := hid hk
  clear hk eg hseq
  go_enter Tryz.func27, Tryz.ntmps27
  go_wp2_with fail
  refine HP.out.mono ?_
  rintro e w' ⟨v, rs, rfl, h1, h2, h3, h4⟩
  obtain ⟨ao, cap, rfl⟩ := h1.shape
  have hlen : rs.length ≤ 4194304 := Nat.le_trans (nodup_lengthG rs ks h2 (fun x hx => (h3 x).1 hx)) HK.out
  have HS := hid (psort_own h1 hlen)
  have HR := hid (And.intro h2 (And.intro h3 h4))
  clear h1 h2 h3 h4 HP hlen
  go_wp2_with fail
  refine HS.out.mono ?_
  rintro e w5 ⟨rfl, ⟨ts, hp, hpw, ho⟩, hch⟩
  have HT := hid (And.intro hp (And.intro hpw (And.intro ho (hch (fun i => w.heap.size ≤ i) (fun _ h => h)))))
  have HL := hid (show rs.length = ts.length from hp.length_eq.symm)
  clear hp hpw ho hch HS
  go_wp2
  go_ret
  obtain ⟨hp, hpw, ho, hch⟩ := HT.out
  refine ⟨ao, ts, cap, by rw [HL.out]; rfl, ho, rises_of_sorted (hp.nodup_iff.2 HR.out.1) hpw, fun x => by rw [hp.mem_iff, HR.out.2.1], HR.out.2.2.trans hch (fun i hi e => by omega)⟩
end Go.Proofs.YtanompfdjfgfbaaGreat

/- All facts of a model. -/
namespace Go.Proofs.YtanompfdjfgfbaaGreat
open Go.RowKit Go.Maps

theorem pfacts_nil (w : World) : Calls Tryz.prog 11 #[.pointer none] w fun e w' => e = .returned (.slice none 0 0) ∧ Chg (fun _ => False) w w' := by
  go_enter Tryz.func11, Tryz.ntmps11
  go_wp2
  go_ret
  exact ⟨rfl, Chg.refl _ _⟩

theorem sortS_nodup8 {l : List (List UInt8)} (h : l.Nodup) : (sortS l).Nodup := (List.mergeSort_perm l _).nodup_iff.2 h

/-- The members of a role, rising. -/
def memS (F : List FactB) (r : RoleB) : List (List UInt8) := sortS (membersF F r)
theorem membersF_nodup {F : List FactB} (h : F.Nodup) (r : RoleB) : (membersF F r).Nodup := by
  unfold membersF
  have h1 : (F.filter (fun f => f.1 == r)).Nodup := h.filter _
  refine List.pairwise_map.2 (h1.imp_of_mem (fun {a b} ha hb hne e => hne ?_))
  have e1 := beq_iff_eq.1 (List.mem_filter.1 ha).2
  have e2 := beq_iff_eq.1 (List.mem_filter.1 hb).2
  exact Prod.ext (e1.trans e2.symm) e
theorem memS_rises {F : List FactB} (h : F.Nodup) (r : RoleB) : Rising (memS F r) := sortS_rises (membersF_nodup h r)
theorem mem_memS {F : List FactB} {r : RoleB} {s : List UInt8} : s ∈ memS F r ↔ (r, s) ∈ F := by
  unfold memS
  rw [sortS_mem, mem_membersF]
theorem memS_of {F : List FactB} (h : F.Nodup) {r : RoleB} {xs : List (List UInt8)} (hx : ∀ s, s ∈ xs ↔ (r, s) ∈ F) (hn : xs.Nodup) : sortS xs = memS F r :=
  (sortS_rises hn).ext (memS_rises h r) (fun x => by rw [sortS_mem, hx, mem_memS])

theorem risingG_take {α : Type} {lt : α → α → Bool} : ∀ (l : List α) (k : Nat), RisingG lt l → RisingG lt (l.take k)
  | [], k, _ => by simp [RisingG]
  | x :: l, 0, _ => by simp [RisingG]
  | x :: l, k + 1, h => by
    rw [List.take_succ_cons]
    exact ⟨fun y hy => h.1 y (List.mem_of_mem_take hy), risingG_take l k h.2⟩

theorem factsOf_few {F : List FactB} (h : F.Nodup) {rs : List RoleB} (hr : RisingG ltR rs) (k : Nat) : (factsOf (memS F) (rs.take k)).length ≤ F.length :=
  nodup_lengthG _ _ ((factsOf_rises (memS_rises h) (risingG_take rs k hr)).nodup ltF_ord) (fun _ hf => mem_memS.1 (mem_factsOf.1 hf).2)

/-- The facts, in a row of the call's own. -/
def FactsPost (F : List FactB) (w : World) (e : Ending) (w' : World) : Prop :=
  ∃ xs ao cap, e = .returned (.slice ao xs.length cap) ∧ RisingG ltF xs ∧ (∀ f, f ∈ xs ↔ f ∈ F) ∧ FactsAt (fun k => w.heap.size ≤ k ∧ k < w'.heap.size) w' ao xs ∧ Chg (fun _ => False) w w'

set_option maxRecDepth 100000 in
set_option maxHeartbeats 4000000 in
theorem pfacts {K O : Nat → Prop} (g : Nat) (F : List FactB) {n2 n3 : Nat} {R2 : RoleB → CredB → Prop} {R3 : List UInt8 → CredB → Prop} (w : World) (h : MS K O w g F n2 R2 n3 R3) (hn : F.length ≤ 4000000) (hnd : F.Nodup) :
    Calls Tryz.prog 11 #[.pointer (some ⟨g, 0, none⟩)] w (FactsPost F w) := by
  obtain ⟨m, ks, M, z0, hmO, hks, hok, hkn, hkl, hM⟩ := h.memRange
  have hmw := h.lo m hmO
  have hw1 : Chg (fun _ => False) w (w.alloc (.cells #[.map (some m)] 55)) := (Chg.refl _ w).alloc _
  have q0 := pkeys0 (some m) w
  have q1 := psortedFunc 46 #[.pointer (some ⟨w.heap.size, 0, none⟩)] ks (w.alloc (.cells #[.map (some m)] 55)) (by omega) (enters_of Tryz.func46 (by kernel_rfl) rfl)
    (pkeys1 (10 - 1) (by omega) w.heap.size m ks M _ (by simp) (cell_blk (heap_alloc_new w _) 0) (hM.keep hw1 id))
  have HQ0 := hid q0
  have HQ1 := hid q1
  have HM := hid (And.intro h (And.intro hn (And.intro hnd (And.intro hks (And.intro hok (And.intro hkl hw1))))))
  clear q0 q1 h hn hnd hks hok hkl hw1 hmO hkn hM hmw
  go_enter Tryz.func11, Tryz.ntmps11
  go_wp2_with fail
  refine HQ0.out.mono ?_
  rintro e w' ⟨rfl, rfl⟩
  clear HQ0 z0
  go_wp2_with fail
  refine HQ1.out.mono ?_
  clear HQ1
  rintro e w1 ⟨ao, rs, cap, rfl, ho, hri, hrm, hc1⟩
  have hcw1 : Chg (fun _ => False) w w1 := HM.out.2.2.2.2.2.2.trans hc1 (fun _ _ h => h)
  have hlen : rs.length ≤ 4000000 := Nat.le_trans (nodup_lengthG rs ks (hri.nodup ltR_ord) (fun x hx => (hrm x).1 hx)) (Nat.le_trans HM.out.2.2.2.2.2.1 HM.out.2.1)
  obtain ⟨ao', cap', he, hR, _⟩ := ho.roles (fun x hx => HM.out.2.2.2.2.1 x ((hrm x).1 hx))
  injection he with e1 _ e3
  subst e1
  subst e3
  have HB := hid (And.intro hri (And.intro hrm (And.intro hR hcw1)))
  clear ho hri hrm hc1 hcw1 hR
  go_wp2
  go_loopw [3, 17] (fun v i wr => ∃ (k : Nat) (out : List FactB), k ≤ rs.length ∧ i = .int .i64 k ∧ Came w1.heap.size (fun _ => False) wr v out ∧ Hid (out = factsOf (memS F) (rs.take k)) ∧ Chg (fun i => w1.heap.size ≤ i) w1 wr) (fun _ i _ => rs.length - (intOf i).toNat)
  case atStart => exact ⟨0, [], Nat.zero_le _, rfl, Came.nil _ _ _, hid (by simp [factsOf]), Chg.refl _ _⟩
  case round =>
    obtain ⟨k, out, hk, rfl, hcm, hout, hch⟩ := hrel
    by_cases hlt : k < rs.length
    · obtain ⟨b, off, rfl, hDb, y0, y1, hls⟩ := (HB.out.2.2.1.keep hch (fun i hi e => by omega)) k hlt
      have htk := List.take_succ_eq_append_getElem hlt
      obtain ⟨r, hr⟩ : ∃ r, rs[k] = r := ⟨_, rfl⟩
      rw [hr] at y0 y1 hls htk
      clear hr
      obtain ⟨x1, x2⟩ := r
      simp only at y0 y1
      have hwa : Chg (fun _ => False) wr (wr.alloc (.cells #[.string ⟨x1.toArray⟩, .string ⟨x2.toArray⟩] 24)) := (Chg.refl _ wr).alloc _
      have hba := heap_alloc_new wr (.cells #[.string ⟨x1.toArray⟩, .string ⟨x2.toArray⟩] 24)
      have hcwr : Chg (fun _ => False) w wr := HB.out.2.2.2.trans hch (fun i hi e => by have := HB.out.2.2.2.size; omega)
      have hms := (HM.out.1.quiet hcwr).quiet hwa
      have HQ := hid (pmem g F (x1, x2) (wr.alloc (.cells #[.string ⟨x1.toArray⟩, .string ⟨x2.toArray⟩] 24)) hms hls HM.out.2.1)
      have z0 := cell_blk hba 0
      have z1 := cell_blk hba 1
      simp only [List.getElem?_toArray, List.getElem?_cons_zero, List.getElem?_cons_succ] at z0 z1
      have HI := hid (And.intro hcm (And.intro hch (And.intro hwa (And.intro hba htk))))
      clear hcm hch hwa hba hcwr hms hls htk hDb
      go_wp2_with fail
      refine HQ.out.mono ?_
      clear HQ y0 y1 z0 z1
      rintro e w3 ⟨xs, ao3, cap3, rfl, hxs, hxn, hst, hc3, _⟩
      have hss := memS_of HM.out.2.2.1 hxs hxn
      have hsl : (memS F (x1, x2)).length = xs.length := by rw [← hss, sortS_length]
      rw [hss] at hst
      rw [← hsl]
      have hsl2 : (memS F (x1, x2)).length ≤ 4000000 := by
        have h1 := nodup_lengthG ((memS F (x1, x2)).map (fun s => ((x1, x2), s))) F (List.pairwise_map.2 ((sortS_nodup8 (membersF_nodup HM.out.2.2.1 _)).imp (fun h e => h (Prod.mk.inj e).2))) (fun q hq => by
          obtain ⟨s, hs, rfl⟩ := List.mem_map.1 hq
          exact mem_memS.1 hs)
        rw [List.length_map] at h1
        exact Nat.le_trans h1 HM.out.2.1
      obtain ⟨ss, hse⟩ : ∃ ss, memS F (x1, x2) = ss := ⟨_, rfl⟩
      rw [hse] at hst hsl2 ⊢
      have HSE := hid hse
      have HT : Hid (wr.heap.size < w3.heap.size ∧ Came w1.heap.size (fun i => wr.heap.size ≤ i ∧ i < w3.heap.size) w3 u3 out ∧ Chg (fun i => w1.heap.size ≤ i) w1 w3 ∧ w3.heap[wr.heap.size]? = some (.cells #[.string ⟨x1.toArray⟩, .string ⟨x2.toArray⟩] 24 (0, 0)) ∧ StrsAt (fun k => wr.heap.size ≤ k ∧ k < w3.heap.size) w3 ao3 ss) := hid (by
        obtain ⟨hcm, hch, hwa, hba, htk⟩ := HI.out
        have h1 := hc3.size
        have h2 : (wr.alloc (.cells #[.string ⟨x1.toArray⟩, .string ⟨x2.toArray⟩] 24)).heap.size = wr.heap.size + 1 := by simp
        exact ⟨by omega, ⟨((hcm.quiet hwa).quiet hc3).own, fun q hq e => by have := (hcm.own.blt hq).2; omega⟩, (hch.trans hwa (fun _ _ h => h.elim)).trans hc3 (fun _ _ h => h.elim), blk_keep hba hc3 id, hst.mono (fun i hi => ⟨by omega, hi.2⟩)⟩)
      clear hxs hxn hst hc3 hss hsl hse
      generalize hwo : wr = wo at *
      clear hwo
      go_wp2
      go_loopw [3, 25] (fun v i wr => ∃ (j : Nat) (out2 : List FactB), j ≤ ss.length ∧ i = .int .i64 j ∧ Came w1.heap.size (fun i => wo.heap.size ≤ i ∧ i < w3.heap.size) wr v out2 ∧ Hid (out2 = out ++ (ss.take j).map (fun s => ((x1, x2), s))) ∧ Chg (fun i => w1.heap.size ≤ i ∧ ¬ (wo.heap.size ≤ i ∧ i < w3.heap.size)) w3 wr) (fun _ i _ => ss.length - (intOf i).toNat)
      case atStart => exact ⟨0, out, Nat.zero_le _, rfl, HT.out.2.1, hid (by simp), Chg.refl _ _⟩
      case round =>
        obtain ⟨j, out2, hj, rfl, hcm2, hout2, hch2⟩ := hrel
        by_cases hlt2 : j < ss.length
        · obtain ⟨b2, off2, rfl, hDb2, a0, _⟩ := (HT.out.2.2.2.2.keep hch2 (fun i hi e => e.2 hi)) j hlt2
          have htk2 := List.take_succ_eq_append_getElem hlt2
          generalize ss[j] = s at *
          have hb2 := blk_keep HT.out.2.2.2.1 hch2 (fun e => e.2 ⟨Nat.le_refl _, HT.out.1⟩)
          have z0 := cell_blk hb2 0
          have z1 := cell_blk hb2 1
          simp only [List.getElem?_toArray, List.getElem?_cons_zero, List.getElem?_cons_succ] at z0 z1
          have hol : out2.length ≤ 4000000 := by
            have h1 := factsOf_few HM.out.2.2.1 HB.out.1 (k + 1)
            rw [HI.out.2.2.2.2, factsOf_snoc, HSE.out, ← hout.out] at h1
            have h2 : (ss.take j).length ≤ ss.length := by rw [List.length_take]; exact Nat.min_le_right _ _
            have h3 := HM.out.2.1
            rw [hout2.out]
            simp only [List.length_append, List.length_map] at h1 ⊢
            omega
          have HJ := hid (And.intro hcm2 (And.intro hch2 (And.intro htk2 hol)))
          have hsz : w1.heap.size ≤ wr.heap.size := by have := HT.out.2.2.1.size; have := hch2.size; omega
          have hsz3 : w3.heap.size ≤ wr.heap.size := hch2.size
          have HSZ := hid (And.intro hsz hsz3)
          clear hcm2 hch2 htk2 hol hb2 hDb2 hsz hsz3
          go_wp2_with (at_builtin; refine wpList_append_facts (O := fun i => wo.heap.size ≤ i ∧ i < w3.heap.size) rfl (.tmp 29) (.tmp 33) rfl w1.heap.size u3 out2 rfl (HJ.out.1.quiet ((Chg.refl _ wr).alloc (.cells #[.string ⟨x1.toArray⟩, .string ⟨x2.toArray⟩, .string ⟨s.toArray⟩] 52))) (fun i hi => by have := HSZ.out.2; simp; omega) (some ⟨wr.heap.size, 0, none⟩) 1 [((x1, x2), s)] rfl (fact_new wr ((x1, x2), s)) (fun e => by cases e) ?c1 ?c2 ?_)
          case c1 => have := HJ.out.2.2.2; simp; omega
          case c2 => have := HSZ.out.1; simp; omega
          intro v' w5 hown hc5
          have HY := hid (And.intro hown hc5)
          clear hown hc5 z0 z1 a0
          go_wp2
          go_roundw
          case rel =>
            have hwa : Chg (fun _ => False) wr (wr.alloc (.cells #[.string ⟨x1.toArray⟩, .string ⟨x2.toArray⟩, .string ⟨s.toArray⟩] 52)) := (Chg.refl _ wr).alloc _
            refine ⟨j + 1, _, by omega, by go_num, HY.out.1, hid ?_, (HJ.out.2.1.trans hwa (fun _ _ h => h.elim)).trans HY.out.2 (fun i _ h => ⟨h.1, fun e => by have h9 := h.2; omega⟩)⟩
            rw [HJ.out.2.2.1, hout2.out, List.map_append, List.append_assoc]
            rfl
          case measure => simp [intOf]; omega
        · have hj2 : j = ss.length := by omega
          have HE : Hid (Came w1.heap.size (fun _ => False) wr u3 out2 ∧ out2 = factsOf (memS F) (rs.take (k + 1)) ∧ Chg (fun i => w1.heap.size ≤ i) w1 wr) := hid (by
            refine ⟨⟨hcm2.own, fun _ _ h => h⟩, ?_, HT.out.2.2.1.trans hch2 (fun i _ h => h.1)⟩
            rw [HI.out.2.2.2.2, factsOf_snoc, HSE.out, hout2.out, hout.out, hj2, List.take_length])
          clear hcm2 hout2 hch2 hj2
          go_wp2
          go_roundw
          case rel => exact ⟨k + 1, out2, by omega, by go_num, HE.out.1, hid HE.out.2.1, HE.out.2.2⟩
          case measure => simp [intOf]; omega
    · have hk2 : k = rs.length := by omega
      have HE : Hid (∃ ao cap, u3 = .slice ao out.length cap ∧ RisingG ltF out ∧ (∀ f, f ∈ out ↔ f ∈ F) ∧ FactsAt (fun k => w.heap.size ≤ k ∧ k < wr.heap.size) wr ao out ∧ Chg (fun _ => False) w wr) := hid (by
        obtain ⟨ao4, cap4, e4, hf4, _⟩ := hcm.facts
        have hs1 := HB.out.2.2.2.size
        have ho : out = factsOf (memS F) rs := by rw [hout.out, hk2, List.take_length]
        refine ⟨ao4, cap4, e4, by rw [ho]; exact factsOf_rises (memS_rises HM.out.2.2.1) HB.out.1, fun f => ?_, hf4.mono (fun i hi => ⟨by omega, hi.2.1⟩), HB.out.2.2.2.trans hch (fun i hi e => by omega)⟩
        rw [ho, mem_factsOf, mem_memS]
        exact ⟨fun h => h.2, fun h => ⟨(HB.out.2.1 _).2 (HM.out.2.2.2.1 f.1 f.2 h), h⟩⟩)
      clear hcm hout hch hk2
      obtain ⟨ao4, cap4, rfl, hE⟩ := HE.out
      have HE2 := hid hE
      clear hE HE
      go_wp2
      go_ret
      exact ⟨out, ao4, cap4, rfl, HE2.out⟩
end Go.Proofs.YtanompfdjfgfbaaGreat

/- Those of a list that a function takes; does it take any? -/
namespace Go.Proofs.YtanompfdjfgfbaaGreat
open Go.RowKit

/-- A function's value takes names: those of q. -/
def TakesS (hf : Nat) (lb : Array Value) (q : List UInt8 → Bool) (w : World) : Prop :=
  ∀ (s : List UInt8) (W : World), s.length ≤ 100000 → Chg (fun _ => False) w W → Calls Tryz.prog hf (#[.string ⟨s.toArray⟩] ++ lb) W fun e w' => e = .returned (.bool (q s)) ∧ Chg (fun _ => False) W w'

/-- Names in a row of the call's own. -/
def ThosePost (ys : List (List UInt8)) (w : World) (e : Ending) (w' : World) : Prop :=
  ∃ ao cap, e = .returned (.slice ao ys.length cap) ∧ StrsAt (fun k => w.heap.size ≤ k ∧ k < w'.heap.size) w' ao ys ∧ Chg (fun _ => False) w w'

set_option maxRecDepth 100000 in
set_option maxHeartbeats 2000000 in
theorem pthose {D : Nat → Prop} (hf : Nat) (lb : Array Value) (q : List UInt8 → Bool) (ao : Option Addr) (cp : Nat) (ls : List (List UInt8)) (w : World) (hn : ls.length ≤ 100000) (hs : ∀ x ∈ ls, x.length ≤ 100000) (hst : StrsAt D w ao ls) (eg : ∀ args w, (callFunc hf args).run Tryz.prog w = .ok (.enter hf args) w) (ht : TakesS hf lb q w) :
    Calls Tryz.prog 63 #[.slice ao ls.length cp, .func (.func hf) #[] lb] w (ThosePost (ls.filter q) w) := by
  obtain ⟨i0, hi, hz0, hz1, hz2⟩ := info_parts Tryz.info9
  have HI := hid (And.intro hi (And.intro hz0 (And.intro hz1 hz2)))
  have HB := hid (And.intro hs (And.intro hst ht))
  clear hi hz0 hz1 hz2 hs hst ht
  go_enter Tryz.func63, Tryz.ntmps63
  go_wp2
  go_loopw [5, 10] (fun v i wr => ∃ (k : Nat) (out : List (List UInt8)), k ≤ ls.length ∧ i = .int .i64 k ∧ OwnS w.heap.size wr v out ∧ Hid (out = (ls.take k).filter q) ∧ Chg (fun _ => False) w wr) (fun _ i _ => ls.length - (intOf i).toNat)
  case atStart => exact ⟨0, [], Nat.zero_le _, rfl, World.ownsRow_nil _ _ _ _, hid (by simp), Chg.refl _ _⟩
  case round =>
    obtain ⟨k, out, hk, rfl, ho, hout, hch⟩ := hrel
    by_cases hlt : k < ls.length
    · obtain ⟨b, off, rfl, hDb, a0, _⟩ := (HB.out.2.1.keep hch (fun _ _ => id)) k hlt
      have htk := List.take_succ_eq_append_getElem hlt
      have hsl := HB.out.1 _ (List.getElem_mem hlt)
      generalize ls[k] = s at *
      have HT := hid (HB.out.2.2 s wr hsl hch)
      have hol : out.length ≤ 100000 := by
        rw [hout.out]
        refine Nat.le_trans (List.length_filter_le _ _) ?_
        rw [List.length_take]
        omega
      have HJ := hid (And.intro ho (And.intro hch (And.intro htk hol)))
      clear ho hch htk hsl hol hDb
      go_wp2_with fail
      refine HT.out.mono ?_
      rintro e w5 ⟨rfl, hc5⟩
      have HK := hid hc5
      clear hc5 HT a0
      cases hq : q s with
      | false =>
        have HE : Hid (out = (ls.take (k + 1)).filter q) := hid (by rw [HJ.out.2.2.1, List.filter_append, ← hout.out]; simp [hq])
        clear hq hout
        go_wp2
        go_roundw
        case rel => exact ⟨k + 1, out, by omega, by go_num, ownsRow_keep HJ.out.1 HK.out (fun _ _ => id), HE, HJ.out.2.1.trans HK.out (fun _ _ h => h)⟩
        case measure => simp [intOf]; omega
      | true =>
        have HE : Hid (out ++ [s] = (ls.take (k + 1)).filter q) := hid (by rw [HJ.out.2.2.1, List.filter_append, ← hout.out]; simp [hq])
        have ho5 : OwnS w.heap.size w5 u5 out := ownsRow_keep HJ.out.1 HK.out (fun _ _ => id)
        have HO := hid (And.intro ho5 (Nat.le_trans HJ.out.2.1.size HK.out.size))
        clear hq hout ho5
        go_wp2_with (at_builtin; refine wpList_append_own_at _ rfl (.tmp 17) (.tmp 19) 36 rfl w.heap.size 9 i0 (.string ⟨#[]⟩) 1 16 Tryz.underlying36 HI.out.1 HI.out.2.1 HI.out.2.2.1 HI.out.2.2.2 rfl (by decide) u5 _ _ rfl (World.ownsRow.alloc HO.out.1 _) ⟨w5.heap.size, 0, none⟩ 1 1 [.string ⟨s.toArray⟩] rfl rfl ?c1 ?c2 ?c3 ?c4 ?c5 ?_)
        case c1 =>
          intro j u hj
          have hq := heap_alloc_new w5 (.cells #[.string ⟨s.toArray⟩] 9)
          rw [add_off, cell_blk hq, Nat.zero_add]
          show ([.string ⟨s.toArray⟩]).toArray[j]? = some u
          rw [List.getElem?_toArray]
          exact hj
        case c2 => intro u hu; simp only [List.mem_cons, List.not_mem_nil, or_false] at hu; rcases hu with rfl; rfl
        case c3 => have := HJ.out.2.2.2; unfold maxLen; omega
        case c4 => have := HJ.out.2.2.2; omega
        case c5 => have := HO.out.2; simp; omega
        intro v' w3 hown hgrow _ _
        have ho2 : OwnS w.heap.size w3 v' (out ++ [s]) := by
          unfold OwnS
          rw [List.map_append, List.length_append]
          exact hown
        have hc7 : Chg (fun _ => False) w w3 := ((HJ.out.2.1.trans HK.out (fun _ _ h => h)).alloc _).grown hgrow (fun k e hk => by have := (ownsRow_lt HO.out.1 k e).1; omega)
        have HY := hid (And.intro ho2 hc7)
        clear hown hgrow ho2 hc7
        go_wp2
        go_roundw
        case rel => exact ⟨k + 1, _, by omega, by go_num, HY.out.1, HE, HY.out.2⟩
        case measure => simp [intOf]; omega
    · have hk2 : k = ls.length := by omega
      have HE : Hid (∃ ao cap, u5 = .slice ao (ls.filter q).length cap ∧ StrsAt (fun k => w.heap.size ≤ k ∧ k < wr.heap.size) wr ao (ls.filter q) ∧ Chg (fun _ => False) w wr) := hid (by
        have he : out = ls.filter q := by rw [hout.out, hk2, List.take_length]
        rw [he] at ho
        obtain ⟨ao, cap, e, hst⟩ := ho.strs (fun x hx => by have := HB.out.1 x (List.mem_filter.1 hx).1; omega)
        exact ⟨ao, cap, e, hst, hch⟩)
      clear ho hout hch hk2
      obtain ⟨ao2, cap2, rfl, hE⟩ := HE.out
      have HE2 := hid hE
      clear hE HE
      go_wp2
      go_ret
      exact ⟨ao2, cap2, rfl, HE2.out⟩

set_option maxRecDepth 100000 in
set_option maxHeartbeats 2000000 in
theorem pindexFunc {D : Nat → Prop} (hf : Nat) (lb : Array Value) (q : List UInt8 → Bool) (ao : Option Addr) (cp : Nat) (ls : List (List UInt8)) (w : World) (hn : ls.length ≤ 100000) (hs : ∀ x ∈ ls, x.length ≤ 100000) (hst : StrsAt D w ao ls) (eg : ∀ args w, (callFunc hf args).run Tryz.prog w = .ok (.enter hf args) w) (ht : TakesS hf lb q w) :
    Calls Tryz.prog 81 #[.slice ao ls.length cp, .func (.func hf) #[] lb] w fun e w' => (∃ j : Int, e = .returned (.int .i64 j) ∧ (decide (0 ≤ j) = ls.any q) ∧ -1 ≤ j ∧ j ≤ 100000) ∧ Chg (fun _ => False) w w' := by
  have HB := hid (And.intro hs (And.intro hst ht))
  clear hs hst ht
  go_enter Tryz.func81, Tryz.ntmps81
  go_wp2
  go_loopw [8] (fun i wr => ∃ (k : Nat), k ≤ ls.length ∧ i = .int .i64 k ∧ Hid ((ls.take k).any q = false) ∧ Chg (fun _ => False) w wr) (fun i _ => ls.length - (intOf i).toNat)
  case atStart => exact ⟨0, Nat.zero_le _, rfl, hid (by simp), Chg.refl _ _⟩
  case round =>
    obtain ⟨k, hk, rfl, hno, hch⟩ := hrel
    by_cases hlt : k < ls.length
    · obtain ⟨b, off, rfl, hDb, a0, _⟩ := (HB.out.2.1.keep hch (fun _ _ => id)) k hlt
      have htk := List.take_succ_eq_append_getElem hlt
      have hmem := List.getElem_mem hlt
      have hsl := HB.out.1 _ hmem
      generalize ls[k] = s at *
      have HT := hid (HB.out.2.2 s wr hsl hch)
      have HJ := hid (And.intro hch (And.intro htk hmem))
      clear hch htk hsl hmem hDb
      go_wp2_with fail
      refine HT.out.mono ?_
      rintro e w5 ⟨rfl, hc5⟩
      have HK := hid (HJ.out.1.trans hc5 (fun _ _ h => h))
      clear hc5 HT a0
      cases hq : q s with
      | false =>
        have HE : Hid ((ls.take (k + 1)).any q = false) := hid (by rw [HJ.out.2.1, List.any_append, hno.out]; simp [hq])
        clear hq hno
        go_wp2
        go_roundw
        case rel => exact ⟨k + 1, by omega, by go_num, HE, HK.out⟩
        case measure => simp [intOf]; omega
      | true =>
        have HE : Hid (ls.any q = true) := hid (List.any_eq_true.2 ⟨s, HJ.out.2.2, hq⟩)
        clear hq hno
        go_wp2
        go_ret
        exact ⟨⟨(k : Int), rfl, by rw [HE.out]; simp, by omega, by omega⟩, HK.out⟩
    · have hk2 : k = ls.length := by omega
      have HE : Hid (ls.any q = false ∧ Chg (fun _ => False) w wr) := hid ⟨by have := hno.out; rwa [hk2, List.take_length] at this, hch⟩
      clear hno hch hk2
      go_wp2
      go_ret
      exact ⟨⟨-1, rfl, by rw [HE.out.1]; decide, by omega, by omega⟩, HE.out.2⟩

theorem pcontainsFunc {D : Nat → Prop} (hf : Nat) (lb : Array Value) (q : List UInt8 → Bool) (ao : Option Addr) (cp : Nat) (ls : List (List UInt8)) (w : World) (hn : ls.length ≤ 100000) (hs : ∀ x ∈ ls, x.length ≤ 100000) (hst : StrsAt D w ao ls) (eg : ∀ args w, (callFunc hf args).run Tryz.prog w = .ok (.enter hf args) w) (ht : TakesS hf lb q w) :
    Calls Tryz.prog 67 #[.slice ao ls.length cp, .func (.func hf) #[] lb] w fun e w' => e = .returned (.bool (ls.any q)) ∧ Chg (fun _ => False) w w' := by
  have HP := hid (pindexFunc hf lb q ao cp ls w hn hs hst eg ht)
  clear hn hs hst eg ht
  go_enter Tryz.func67, Tryz.ntmps67
  go_wp2_with fail
  refine HP.out.mono ?_
  rintro e w' ⟨⟨j, rfl, h1, h2, h3⟩, h4⟩
  have HR := hid (And.intro h1 h4)
  clear h1 h4 HP
  go_wp2
  go_ret
  exact ⟨by rw [← HR.out.1]; rfl, HR.out.2⟩
end Go.Proofs.YtanompfdjfgfbaaGreat
