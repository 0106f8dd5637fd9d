/- Texts that the proof leans on, in one: ChGrow, RegAl. -/
import Derived.Test.YtjaplnainlbldaaFc22
import Derived.Test.YtjaplnainlbldaaFc12
/- The growth by a set of credentials. -/
namespace Go.Proofs.Ytjaplnainlbldaa
open Go.RowKit Go.Maps

def putL (T : Nat → Option LTag) (b : Nat) (t : LTag) : Nat → Option LTag := fun i => if i = b then some t else T i
theorem putL_ne {T : Nat → Option LTag} {b i : Nat} {t : LTag} (h : i ≠ b) : putL T b t i = T i := if_neg h
theorem putL_self (T : Nat → Option LTag) (b : Nat) (t : LTag) : putL T b t b = some t := if_pos rfl

theorem growth_made (w : World) : ∃ (T : Nat → Option KTag) (T2 : Nat → Option LTag), GS T (((((w.alloc (.map #[] 0)).alloc (.map #[] 0)).alloc (.map #[] 0)).alloc (.map #[] 0)).alloc (.cells #[.slice none 0 0, .map (some w.heap.size), .map (some (w.heap.size + 1)), .map (some (w.heap.size + 1 + 1)), .map (some (w.heap.size + 1 + 1 + 1))] 87)) (w.heap.size + 1 + 1 + 1 + 1) (w.heap.size + 1 + 1) (w.heap.size + 1 + 1 + 1) [] ∧ LS T2 (((((w.alloc (.map #[] 0)).alloc (.map #[] 0)).alloc (.map #[] 0)).alloc (.map #[] 0)).alloc (.cells #[.slice none 0 0, .map (some w.heap.size), .map (some (w.heap.size + 1)), .map (some (w.heap.size + 1 + 1)), .map (some (w.heap.size + 1 + 1 + 1))] 87)) (w.heap.size + 1 + 1) (w.heap.size + 1 + 1 + 1) [] ∧ Apart T T2 ∧ (∀ b, T b ≠ none → w.heap.size ≤ b) ∧ (∀ b, T2 b ≠ none → w.heap.size ≤ b) := by
 obtain ⟨n, hn⟩ : ∃ n, n = w.heap.size := ⟨_, rfl⟩
 have e1 : ∀ (u : World) (o : Obj), Chg (fun _ => False) u (u.alloc o) := fun u o => (Chg.refl _ _).alloc _
 have c5 := fun u o => e1 u o
 have k1 := (((kv_made ktF w).keep (e1 _ (.map #[] 0)) id).keep (e1 _ (.map #[] 0)) id).keep (e1 _ (.map #[] 0)) id
 have k2 := ((kv_made ktR (w.alloc (.map #[] 0))).keep (e1 _ (.map #[] 0)) id).keep (e1 _ (.map #[] 0)) id
 have k3 := (kv_made ktR ((w.alloc (.map #[] 0)).alloc (.map #[] 0))).keep (e1 _ (.map #[] 0)) id
 have k4 := kv_made ktS (((w.alloc (.map #[] 0)).alloc (.map #[] 0)).alloc (.map #[] 0))
 have hb := heap_alloc_new ((((w.alloc (.map #[] 0)).alloc (.map #[] 0)).alloc (.map #[] 0)).alloc (.map #[] 0)) (.cells #[.slice none 0 0, .map (some w.heap.size), .map (some (w.heap.size + 1)), .map (some (w.heap.size + 1 + 1)), .map (some (w.heap.size + 1 + 1 + 1))] 87)
 simp only [World.size_alloc] at k1 k2 k3 k4 hb
 have k1 := k1.keep (e1 _ (.cells #[.slice none 0 0, .map (some w.heap.size), .map (some (w.heap.size + 1)), .map (some (w.heap.size + 1 + 1)), .map (some (w.heap.size + 1 + 1 + 1))] 87)) id
 have k2 := k2.keep (e1 _ (.cells #[.slice none 0 0, .map (some w.heap.size), .map (some (w.heap.size + 1)), .map (some (w.heap.size + 1 + 1)), .map (some (w.heap.size + 1 + 1 + 1))] 87)) id
 have k3 := k3.keep (e1 _ (.cells #[.slice none 0 0, .map (some w.heap.size), .map (some (w.heap.size + 1)), .map (some (w.heap.size + 1 + 1)), .map (some (w.heap.size + 1 + 1 + 1))] 87)) id
 have k4 := k4.keep (e1 _ (.cells #[.slice none 0 0, .map (some w.heap.size), .map (some (w.heap.size + 1)), .map (some (w.heap.size + 1 + 1)), .map (some (w.heap.size + 1 + 1 + 1))] 87)) id
 have hsz : (((((w.alloc (.map #[] 0)).alloc (.map #[] 0)).alloc (.map #[] 0)).alloc (.map #[] 0)).alloc (.cells #[.slice none 0 0, .map (some w.heap.size), .map (some (w.heap.size + 1)), .map (some (w.heap.size + 1 + 1)), .map (some (w.heap.size + 1 + 1 + 1))] 87)).heap.size = w.heap.size + 5 := by simp [World.size_alloc]
 generalize (((((w.alloc (.map #[] 0)).alloc (.map #[] 0)).alloc (.map #[] 0)).alloc (.map #[] 0)).alloc (.cells #[.slice none 0 0, .map (some w.heap.size), .map (some (w.heap.size + 1)), .map (some (w.heap.size + 1 + 1)), .map (some (w.heap.size + 1 + 1 + 1))] 87)) = wz at *
 simp only [← hn] at *
 have tl : ∀ b, putT (putT (putT (fun _ => none) n .at) (n + 1) .of) (n + 1 + 1 + 1 + 1) .top b ≠ none → b = n ∨ b = n + 1 ∨ b = n + 1 + 1 + 1 + 1 := fun b h => by
  unfold putT at h
  by_cases h1 : b = n + 1 + 1 + 1 + 1
  ·exact .inr (.inr h1)
  ·by_cases h2 : b = n + 1
   ·exact .inr (.inl h2)
   ·by_cases h3 : b = n
    ·exact .inl h3
    ·rw [if_neg h1, if_neg h2, if_neg h3] at h; exact absurd rfl h
 have tl2 : ∀ b, putL (putL (fun _ => none) (n + 1 + 1) .leanM) (n + 1 + 1 + 1) .linkM b ≠ none → b = n + 1 + 1 ∨ b = n + 1 + 1 + 1 := fun b h => by
  unfold putL at h
  by_cases h1 : b = n + 1 + 1 + 1
  ·exact .inr h1
  ·by_cases h2 : b = n + 1 + 1
   ·exact .inl h2
   ·rw [if_neg h1, if_neg h2] at h; exact absurd rfl h
 refine ⟨putT (putT (putT (fun _ => none) n .at) (n + 1) .of) (n + 1 + 1 + 1 + 1) .top, putL (putL (fun _ => none) (n + 1 + 1) .leanM) (n + 1 + 1 + 1) .linkM, ⟨⟨.slice none 0 0, n, n + 1, fun _ => none, hb, putT_self _ _ _, ?_, ?_, World.ownsRow_nil _ _ _ _, fun b h => (by cases h), k1.cong (fun f _ => by simp [atF, factsK]), k2, fun r _ _ => placesK_none (by simp [factsK]), fun r u _ h => (by cases h)⟩, fun b hb => ?_, List.nodup_nil, by simp⟩, ⟨?_, putL_self _ _ _, ⟨fun _ => none, k3, fun _ _ _ => rfl, fun _ _ _ h => (by cases h)⟩, ⟨fun _ => none, k4, fun _ _ _ => rfl, fun _ _ _ h => (by cases h)⟩, fun b hb => ?_⟩, fun b hb => ?_, fun b hb => ?_, fun b hb => ?_⟩
 ·rw [putT_ne (by omega), putT_ne (by omega), putT_self]
 ·rw [putT_ne (by omega), putT_self]
 ·have := tl b hb; omega
 ·rw [putL_ne (by omega), putL_self]
 ·have := tl2 b hb; omega
 ·have := tl2 b hb
  rw [putT_ne (by omega), putT_ne (by omega), putT_ne (by omega)]
 ·have := tl b hb; omega
 ·have := tl2 b hb; omega

theorem Good.few {ls : List CredB} {S : List StepB} (h : Good ls S) (hl : ls.length ≤ 1000) : S.length ≤ 4000000 := by
 have := der_few h.nd h.der hl
 rwa [factsK_len] at this

/-- All that comes on the way is short of the end. -/
theorem take_few {cs : List CredB} (hcs : ∀ c ∈ cs, isCred c = true) (hl : cs.length ≤ 1000) (k : Nat) : ((cs.take k).foldl takeG []).length ≤ 33554432 := by
 have h0 := (GrowP.start hcs).good.few hl
 have h1 : Ahead ((cs.take k).foldl takeG []) (growI cs 0) := by
  have e : growI cs 0 = (cs.drop k).foldl takeG ((cs.take k).foldl takeG []) := by
   rw [← List.foldl_append, List.take_append_drop]
   rfl
  rw [e]
  exact fold_ahead (fun S c => take_ahead S c) _ _
 have := h1.len
 omega

/-- What has grown. -/
def GrowPost (cs : List CredB) (want : FactB) (w : World) (e : Ending) (w' : World) : Prop :=
 ∃ S T g m3 m4, e = .returned (.pointer (some ⟨g, 0, none⟩)) ∧ GrowTo cs want S ∧ GS T w' g m3 m4 S ∧ (∀ b, T b ≠ none → w.heap.size ≤ b) ∧ Chg (fun _ => False) w w'

set_option maxRecDepth 100000 in
set_option maxHeartbeats 4000000 in
theorem ch_grow {D : Nat → Prop} (ao : Option Addr) (cp : Nat) (cs : List CredB) (want : FactB) (w0 : World) (hcs : ∀ c ∈ cs, isCred c = true) (hl : cs.length ≤ 1000) (hst : CredsAt D w0 ao cs) (hD : ∀ i, D i → i < w0.heap.size) (hw : factShort want 9223372036854775807) :
  Calls Try.prog 37 #[.slice ao cs.length cp, .agg #[.string ⟨want.1.1.toArray⟩, .string ⟨want.1.2.toArray⟩, .string ⟨want.2.toArray⟩]] w0 (GrowPost cs want w0) := by
 have hc1 : Chg (fun _ => False) w0 (w0.alloc (.cells #[.string ⟨want.1.1.toArray⟩, .string ⟨want.1.2.toArray⟩, .string ⟨want.2.toArray⟩] 26)) := (Chg.refl _ w0).alloc _
 have hbA : (w0.alloc (.cells #[.string ⟨want.1.1.toArray⟩, .string ⟨want.1.2.toArray⟩, .string ⟨want.2.toArray⟩] 26)).heap[w0.heap.size]? = some (.cells #[.string ⟨want.1.1.toArray⟩, .string ⟨want.1.2.toArray⟩, .string ⟨want.2.toArray⟩] 26 (0, 0)) := heap_alloc_new w0 _
 obtain ⟨T0, T20, g1, g2, g3, g4, g5⟩ := growth_made (w0.alloc (.cells #[.string ⟨want.1.1.toArray⟩, .string ⟨want.1.2.toArray⟩, .string ⟨want.2.toArray⟩] 26))
 have hc2 : Chg (fun _ => False) (w0.alloc (.cells #[.string ⟨want.1.1.toArray⟩, .string ⟨want.1.2.toArray⟩, .string ⟨want.2.toArray⟩] 26)) ((((((w0.alloc (.cells #[.string ⟨want.1.1.toArray⟩, .string ⟨want.1.2.toArray⟩, .string ⟨want.2.toArray⟩] 26)).alloc (.map #[] 0)).alloc (.map #[] 0)).alloc (.map #[] 0)).alloc (.map #[] 0)).alloc (.cells #[.slice none 0 0, .map (some (w0.alloc (.cells #[.string ⟨want.1.1.toArray⟩, .string ⟨want.1.2.toArray⟩, .string ⟨want.2.toArray⟩] 26)).heap.size), .map (some ((w0.alloc (.cells #[.string ⟨want.1.1.toArray⟩, .string ⟨want.1.2.toArray⟩, .string ⟨want.2.toArray⟩] 26)).heap.size + 1)), .map (some ((w0.alloc (.cells #[.string ⟨want.1.1.toArray⟩, .string ⟨want.1.2.toArray⟩, .string ⟨want.2.toArray⟩] 26)).heap.size + 1 + 1)), .map (some ((w0.alloc (.cells #[.string ⟨want.1.1.toArray⟩, .string ⟨want.1.2.toArray⟩, .string ⟨want.2.toArray⟩] 26)).heap.size + 1 + 1 + 1))] 87)) := (((((Chg.refl _ _).alloc _).alloc _).alloc _).alloc _).alloc _
 have HX := hid (And.intro hcs (And.intro hl (And.intro hst (And.intro hD hw))))
 have hbA2 := blk_keep hbA hc2 id
 have hsz1 : (w0.alloc (.cells #[.string ⟨want.1.1.toArray⟩, .string ⟨want.1.2.toArray⟩, .string ⟨want.2.toArray⟩] 26)).heap.size = w0.heap.size + 1 := World.size_alloc _ _
 have HINIT := hid (And.intro g1 (And.intro g2 (And.intro g3 (And.intro g4 (And.intro g5 (And.intro (hc1.trans hc2 (fun _ _ h => h)) (And.intro hbA2 hsz1)))))))
 clear hcs hst hD hw hc1 hbA g1 g2 g3 g4 g5 hc2 hbA2
 have hmm := @run_makeMap Try.prog
 go_enter Try.func37, Try.ntmps37
 go_wp2
 simp only [World.size_alloc] at HINIT ⊢
 generalize ((((((w0.alloc (.cells #[.string ⟨want.1.1.toArray⟩, .string ⟨want.1.2.toArray⟩, .string ⟨want.2.toArray⟩] 26)).alloc (.map #[] 0)).alloc (.map #[] 0)).alloc (.map #[] 0)).alloc (.map #[] 0)).alloc (.cells #[.slice none 0 0, .map (some (w0.heap.size + 1)), .map (some (w0.heap.size + 1 + 1)), .map (some (w0.heap.size + 1 + 1 + 1)), .map (some (w0.heap.size + 1 + 1 + 1 + 1))] 87)) = wM at *
 generalize w0.heap.size + 1 + 1 + 1 + 1 + 1 = g at *
 generalize w0.heap.size + 1 + 1 + 1 + 1 = m4 at *
 generalize w0.heap.size + 1 + 1 + 1 = m3 at *
 go_loopw [17] (fun i wr => ∃ k : Nat, k ≤ cs.length ∧ i = .int .i64 k ∧ Hid (∃ (T : Nat → Option KTag) (T2 : Nat → Option LTag), GS T wr g m3 m4 ((cs.take k).foldl takeG []) ∧ LS T2 wr m3 m4 (cs.take k) ∧ Apart T T2 ∧ (∀ b, T b ≠ none → w0.heap.size < b) ∧ (∀ b, T2 b ≠ none → w0.heap.size < b) ∧ Chg (fun b => w0.heap.size < b) w0 wr ∧ wr.heap[w0.heap.size]? = some (.cells #[.string ⟨want.1.1.toArray⟩, .string ⟨want.1.2.toArray⟩, .string ⟨want.2.toArray⟩] 26 (0, 0)))) (fun i _ => cs.length - (intOf i).toNat)
 case atStart => exact ⟨0, Nat.zero_le _, rfl, hid ⟨T0, T20, HINIT.out.1, HINIT.out.2.1, HINIT.out.2.2.1, fun b hb => by have := HINIT.out.2.2.2.1 b hb; omega, fun b hb => by have := HINIT.out.2.2.2.2.1 b hb; omega, HINIT.out.2.2.2.2.2.1.none9, HINIT.out.2.2.2.2.2.2.1⟩⟩
 case round =>
  obtain ⟨kk, hkk, rfl, hrel⟩ := hrel
  by_cases hlt : kk < cs.length
  ·obtain ⟨T, T2, r1, r2, r3, r4, r5, r6, r7⟩ := hrel.out
   obtain ⟨b, off, hao, hDb, ⟨a0, a1, a2, a3, a4, a5, a6, a7, a8⟩, hss⟩ := (HX.out.2.2.1.keep r6 (fun i hi h => by have := HX.out.2.2.2.1 i hi; omega)) kk hlt
   have hxm : cs[kk] ∈ cs := List.getElem_mem hlt
   have hxr := HX.out.1 _ hxm
   have htk : cs.take (kk + 1) = cs.take kk ++ [cs[kk]] := List.take_succ_eq_append_getElem hlt
   obtain ⟨x, hx⟩ : ∃ x, x = cs[kk] := ⟨_, rfl⟩
   simp only [← hx] at a0 a1 a2 a3 a4 a5 a6 a7 a8 hxr htk
   have hw1 : Chg (fun _ => False) wr (wr.alloc (.cells #[.int .i64 x.kind, .string ⟨x.head.1.toArray⟩, .string ⟨x.head.2.toArray⟩, .string ⟨x.who.toArray⟩, .string ⟨x.b.1.toArray⟩, .string ⟨x.b.2.toArray⟩, .string ⟨x.c.1.toArray⟩, .string ⟨x.c.2.toArray⟩, .string ⟨x.w2.toArray⟩] 36)) := (Chg.refl _ wr).alloc _
   have hbX : (wr.alloc (.cells #[.int .i64 x.kind, .string ⟨x.head.1.toArray⟩, .string ⟨x.head.2.toArray⟩, .string ⟨x.who.toArray⟩, .string ⟨x.b.1.toArray⟩, .string ⟨x.b.2.toArray⟩, .string ⟨x.c.1.toArray⟩, .string ⟨x.c.2.toArray⟩, .string ⟨x.w2.toArray⟩] 36)).heap[wr.heap.size]? = some (.cells #[.int .i64 x.kind, .string ⟨x.head.1.toArray⟩, .string ⟨x.head.2.toArray⟩, .string ⟨x.who.toArray⟩, .string ⟨x.b.1.toArray⟩, .string ⟨x.b.2.toArray⟩, .string ⟨x.c.1.toArray⟩, .string ⟨x.c.2.toArray⟩, .string ⟨x.w2.toArray⟩] 36 (0, 0)) := heap_alloc_new wr _
   have hfold : (cs.take (kk + 1)).foldl takeG [] = takeG ((cs.take kk).foldl takeG []) x := by rw [htk, List.foldl_append]; rfl
   have hq := ch_take g m3 m4 ((cs.take kk).foldl takeG []) (cs.take kk) x _ (r1.quiet hw1) (r2.keep hw1 (fun _ _ => id)) r3 hxr (by rw [List.length_take]; have := HX.out.2.1; omega) (by rw [← hfold]; exact take_few HX.out.1 HX.out.2.1 _)
   have HQ := hid hq
   have HNEXT : Hid (∀ w', TakePostG T T2 g m3 m4 ((cs.take kk).foldl takeG []) (cs.take kk) x (wr.alloc (.cells #[.int .i64 x.kind, .string ⟨x.head.1.toArray⟩, .string ⟨x.head.2.toArray⟩, .string ⟨x.who.toArray⟩, .string ⟨x.b.1.toArray⟩, .string ⟨x.b.2.toArray⟩, .string ⟨x.c.1.toArray⟩, .string ⟨x.c.2.toArray⟩, .string ⟨x.w2.toArray⟩] 36)) (.returned (.tuple #[])) w' → Hid (∃ (T : Nat → Option KTag) (T2 : Nat → Option LTag), GS T w' g m3 m4 ((cs.take (kk + 1)).foldl takeG []) ∧ LS T2 w' m3 m4 (cs.take (kk + 1)) ∧ Apart T T2 ∧ (∀ b, T b ≠ none → w0.heap.size < b) ∧ (∀ b, T2 b ≠ none → w0.heap.size < b) ∧ Chg (fun b => w0.heap.size < b) w0 w' ∧ w'.heap[w0.heap.size]? = some (.cells #[.string ⟨want.1.1.toArray⟩, .string ⟨want.1.2.toArray⟩, .string ⟨want.2.toArray⟩] 26 (0, 0)))) := hid (fun w' hp => hid (by
    obtain ⟨_, T', T2', p1, p2, p3, p4, p5, p6⟩ := hp
    have hsz := Nat.le_trans r6.size hw1.size
    have hlA := lt_blk r7
    refine ⟨T', T2', by rw [hfold]; exact p1, by rw [htk]; exact p2, p3, fun b hb => (p4 b hb).elim (r4 b) (fun h => ?_), fun b hb => (p5 b hb).elim (r5 b) (fun h => ?_), (r6.trans hw1.none9 (fun _ _ h => h)).trans p6 (fun i hi h => h.elim (r4 i) (r5 i)), ?_⟩
    ·have := hw1.size; simp [World.size_alloc] at h; omega
    ·have := hw1.size; simp [World.size_alloc] at h; omega
    ·exact blk_keep (blk_keep r7 hw1 id) p6 (fun h => h.elim (fun h => by have := r4 _ h; omega) (fun h => by have := r5 _ h; omega))))
   obtain ⟨c0, c1, c2, c3, c4, c5, c6, c7, c8⟩ := cred_at_blk hbX
   simp only [Nat.zero_add] at c0 c1 c2 c3 c4 c5 c6 c7 c8
   subst hao
   clear r1 r2 r3 r4 r5 r6 r7 hDb hss hxm hxr htk hx hw1 hbX hfold hq hrel
   go_wp2_with fail
   refine HQ.out.mono ?_
   rintro e w' hp
   have he : e = .returned (.tuple #[]) := hp.1
   subst he
   have HN := hid (HNEXT.out w' hp)
   clear HQ HNEXT hp a0 a1 a2 a3 a4 a5 a6 a7 a8 c0 c1 c2 c3 c4 c5 c6 c7 c8
   go_wp2
   go_roundw
   case rel => exact ⟨kk + 1, by omega, by go_num, HN.out⟩
   case measure => simp [intOf]; omega
  ·have hk2 : kk = cs.length := by omega
   have HREL : Hid (∃ (T : Nat → Option KTag) (T2 : Nat → Option LTag), GS T wr g m3 m4 (growI cs 0) ∧ LS T2 wr m3 m4 (cs) ∧ Apart T T2 ∧ (∀ b, T b ≠ none → w0.heap.size < b) ∧ (∀ b, T2 b ≠ none → w0.heap.size < b) ∧ Chg (fun b => w0.heap.size < b) w0 wr ∧ wr.heap[w0.heap.size]? = some (.cells #[.string ⟨want.1.1.toArray⟩, .string ⟨want.1.2.toArray⟩, .string ⟨want.2.toArray⟩] 26 (0, 0))) := hid (by have := hrel.out; rw [hk2, List.take_length] at this; exact this)
   clear hk2 hrel
   go_wp2
   obtain ⟨T1, T21, i1, i2, i3, i4, i5, i6, i7⟩ := HREL.out
   have HI2 := hid (And.intro i1 (And.intro i2 (And.intro i3 (And.intro i4 (And.intro i5 (And.intro i6 i7))))))
   clear i1 i2 i3 i4 i5 i6 i7 HREL
   obtain ⟨wL, hwL⟩ : ∃ wL, wL = wr := ⟨_, rfl⟩
   rw [← hwL] at HI2 ⊢
   clear hwL
   go_loopw [8] (fun i wr => ∃ k : Nat, k ≤ 4000000 ∧ i = .int .i64 k ∧ Hid ((∀ j, j < k → ¬ stopG want (growI cs j) j) ∧ ∃ (T : Nat → Option KTag) (T2 : Nat → Option LTag), GS T wr g m3 m4 (growI cs k) ∧ LS T2 wr m3 m4 (cs) ∧ Apart T T2 ∧ (∀ b, T b ≠ none → w0.heap.size < b) ∧ (∀ b, T2 b ≠ none → w0.heap.size < b) ∧ Chg (fun b => w0.heap.size < b) w0 wr ∧ wr.heap[w0.heap.size]? = some (.cells #[.string ⟨want.1.1.toArray⟩, .string ⟨want.1.2.toArray⟩, .string ⟨want.2.toArray⟩] 26 (0, 0)))) (fun i _ => 4000001 - (intOf i).toNat)
   case atStart => exact ⟨0, Nat.zero_le _, rfl, hid ⟨fun j hj => by omega, T1, T21, HI2.out⟩⟩
   case round =>
    obtain ⟨ii, hii, rfl, hrel⟩ := hrel
    obtain ⟨hns, T, T2, r1, r2, r3, r4, r5, r6, r7⟩ := hrel.out
    have hgp := growP HX.out.1 ii hns
    have hfew := hgp.good.few HX.out.2.1
    obtain ⟨S, hS⟩ : ∃ S, S = growI cs ii := ⟨_, rfl⟩
    rw [← hS] at r1 hgp hfew
    obtain ⟨ao2, cap2, z1, z2, z3⟩ := r1.steps
    obtain ⟨ns, hnsl⟩ : ∃ ns, ns = S.length := ⟨_, rfl⟩
    rw [← hnsl] at z1 z3 hfew
    have hq := ch_has g m3 m4 S want wr r1 HX.out.2.2.2.2
    have x0 := cell_blk r7 0
    have x1 := cell_blk r7 1
    have x2 := cell_blk r7 2
    simp only [List.getElem?_toArray, List.getElem?_cons_zero, List.getElem?_cons_succ] at x0 x1 x2
    have HSS := hid (And.intro hS hnsl)
    have HJ := hid (And.intro hns (And.intro r1 (And.intro r2 (And.intro r3 (And.intro r4 (And.intro r5 (And.intro r6 (And.intro r7 (And.intro hgp z2)))))))))
    have HFIN : Hid (∀ w', Chg (fun _ => False) wr w' → stopG want S ii → GrowPost cs want w0 (.returned (.pointer (some ⟨g, 0, none⟩))) w') := hid (fun w' hc hstop => ⟨S, T, g, m3, m4, rfl, ⟨ii, hS, hstop, hns⟩, r1.quiet hc, fun b hb => Nat.le_of_lt (r4 b hb), (r6.trans hc (fun _ _ h => h.elim)).mono (fun i hi h => by omega)⟩)
    by_cases hlt : ii < ns
    ·by_cases hin : want ∈ factsK S
     ·rw [decide_eq_true hin] at hq
      have HQ := hid hq
      have HF2 : Hid (∀ w', Chg (fun _ => False) wr w' → GrowPost cs want w0 (.returned (.pointer (some ⟨g, 0, none⟩))) w') := hid (fun w' hc => HFIN.out w' hc (.inr hin))
      clear hrel hns r1 r2 r3 r4 r5 r6 r7 hgp hS z2 hnsl hq hin HFIN
      go_wp2_with fail
      refine HQ.out.mono ?_
      rintro e w' ⟨rfl, hc⟩
      have HRES := hid (HF2.out w' hc)
      clear HQ HF2 hc z1 x0 x1 x2
      go_wp2
      go_ret
      exact HRES.out
     ·rw [decide_eq_false hin] at hq
      have HQ := hid hq
      have hnstop : ¬ stopG want S ii := fun h => h.elim (fun h => by omega) hin
      have hiS : ii < S.length := by omega
      have HNS := hid hnstop
      obtain ⟨b, off, hao, hDb, ⟨hc9, ⟨f0, f1, f2⟩⟩, hss⟩ := z2 ii hiS
      have hfs := (r1.sh _ (List.getElem_mem hiS)).2
      have hstep := growI_step (ls := cs) hS (List.getElem?_eq_getElem hiS)
      have hns2 : ∀ j, j < ii + 1 → ¬ stopG want (growI cs j) j := fun j hj => by
       by_cases e : j = ii
       ·subst e; rw [← hS]; exact hnstop
       ·exact hns j (by omega)
      have hfew2 := (growP HX.out.1 (ii + 1) hns2).good.few HX.out.2.1
      obtain ⟨f, hf⟩ : ∃ f, f = (S[ii]'hiS).f := ⟨_, rfl⟩
      rw [← hf] at f0 f1 f2 hfs hstep
      change wr.cell? ⟨b, off + ii * 12 + 10, none⟩ = _ at f1
      change wr.cell? ⟨b, off + ii * 12 + 11, none⟩ = _ at f2
      have HST := hid (And.intro hstep (And.intro hns2 (And.intro hfs hfew2)))
      subst hao
      have HCELLS := hid (And.intro z1 (And.intro f0 (And.intro f1 f2)))
      clear hrel hns r1 r2 r3 r4 r5 r6 r7 hgp hS z2 hq hin HFIN hnstop hDb hc9 hss hfs hstep hns2 hfew2 hf f0 f1 f2
      clear hiS hnsl
      go_wp2_with fail
      refine HQ.out.mono ?_
      rintro e w5 ⟨rfl, hc5⟩
      clear z1 x0 x1 x2 HQ
      have z1 := hc5.cell HCELLS.out.1 id
      have f0 := hc5.cell HCELLS.out.2.1 id
      have f1 := hc5.cell HCELLS.out.2.2.1 id
      have f2 := hc5.cell HCELLS.out.2.2.2 id
      have hq := ch_follow g m3 m4 S cs f w5 (HJ.out.2.1.quiet hc5) (HJ.out.2.2.1.keep hc5 (fun _ _ => id)) HJ.out.2.2.2.1 HX.out.1 (by have := HX.out.2.1; omega) (by rw [HST.out.1]; have := HST.out.2.2.2; omega) HST.out.2.2.1
      have HQ := hid hq
      have HC5 := hid hc5
      have HNEXT : Hid (∀ T' w', Gro T w5 g m3 m4 S T' w' (followG cs S f) → Hid ((∀ j, j < ii + 1 → ¬ stopG want (growI cs j) j) ∧ ∃ (T : Nat → Option KTag) (T2 : Nat → Option LTag), GS T w' g m3 m4 (growI cs (ii + 1)) ∧ LS T2 w' m3 m4 (cs) ∧ Apart T T2 ∧ (∀ b, T b ≠ none → w0.heap.size < b) ∧ (∀ b, T2 b ≠ none → w0.heap.size < b) ∧ Chg (fun b => w0.heap.size < b) w0 w' ∧ w'.heap[w0.heap.size]? = some (.cells #[.string ⟨want.1.1.toArray⟩, .string ⟨want.1.2.toArray⟩, .string ⟨want.2.toArray⟩] 26 (0, 0)))) := hid (fun T' w' hg => hid (by
       obtain ⟨_, r1, r2, r3, r4, r5, r6, r7, _, _⟩ := HJ.out
       have hg2 := hg.early HC5.out
       obtain ⟨q1, q2⟩ := r2.gro r3 hg2
       have hsz := r6.size
       refine ⟨HST.out.2.1, T', T2, by rw [← HST.out.1]; exact hg2.gs, q1, q2, fun b hb => (hg2.ext.new b hb).elim (r4 b) (fun h => by have := lt_blk r7; omega), r5, r6.trans hg2.chg (fun i _ h => r4 i h), blk_keep r7 hg2.chg (fun h => by have := r4 _ h; omega)⟩))
      clear hc5 hq
      go_wp2_with fail
      refine HQ.out.mono ?_
      rintro e w6 ⟨rfl, T', hg⟩
      have HN := hid (HNEXT.out T' w6 hg)
      have hlast : ii + 1 ≤ 4000000 := by omega
      clear HQ HNEXT hg HC5 z1 f0 f1 f2 HCELLS HST HJ
      go_wp2
      go_roundw
      case rel => exact ⟨ii + 1, hlast, by go_num, HN.out⟩
      case measure => simp [intOf]; omega
    ·have HRES := hid (HFIN.out wr (Chg.refl _ _) (.inl (by rw [← hnsl]; omega)))
     clear hrel hns r1 r2 r3 r4 r5 r6 r7 hgp hS z2 hnsl hq HFIN HJ HSS
     go_wp2
     go_ret
     exact HRES.out

end Go.Proofs.Ytjaplnainlbldaa

/- A region that draws its order, in which a variable is laid and then set: its slot is told to the end. -/
namespace Go.Proofs.Ytjaplnainlbldaa
open Go.RowKit

/-- Operation m lays the variable, its slot t tells where; n sets it, behind all that stand ahead of it. -/
structure AlS (m n : Nat) (t : Tmp) (F0 : World → Prop) (F1 F2 : Value → World → Prop) (L : Nat → Bool) (a : Act) (w : World) : Prop where
 size : t < a.tmps.size
 em : L n = true → L m = true
 p0 : L m = false → F0 w
 p1 : L m = true → L n = false → ∃ v, a.tmps[t]? = some v ∧ F1 v w
 p2 : L n = true → ∃ v, a.tmps[t]? = some v ∧ F2 v w

section
variable {m n : Nat} {t : Tmp} {F0 : World → Prop} {F1 F2 : Value → World → Prop} {L : Nat → Bool} {a : Act} {w w' : World}

theorem AlS.start (hs : t < a.tmps.size) (h : F0 w) : AlS m n t F0 F1 F2 (fun _ => false) a w := ⟨hs, fun h => (by cases h), fun _ => h, fun h => (by cases h), fun h => (by cases h)⟩
theorem AlS.not (h : AlS m n t F0 F1 F2 L a w) (hl : L m = false) : L n = false := by
 cases hn : L n with
 | false => rfl
 | true => rw [h.em hn] at hl; cases hl
/-- What holds whatever has come up. -/
theorem AlS.ever (h : AlS m n t F0 F1 F2 L a w) {B : World → Prop} (h0 : ∀ w, F0 w → B w) (h1 : ∀ v w, F1 v w → B w) (h2 : ∀ v w, F2 v w → B w) : B w := by
 cases hn : L n with
 | true => obtain ⟨v, _, hv⟩ := h.p2 hn; exact h2 _ _ hv
 | false =>
  cases hm : L m with
  | false => exact h0 _ (h.p0 hm)
  | true => obtain ⟨v, _, hv⟩ := h.p1 hm hn; exact h1 _ _ hv
theorem AlS.step (h : AlS m n t F0 F1 F2 L a w) {j : Nat} {d : Option Tmp} (v : Value) (hj : j ≠ m ∧ j ≠ n ∧ d ≠ some t) (hc : Chg (fun _ => False) w w') (k0 : ∀ w w', F0 w → Chg (fun _ => False) w w' → F0 w') (k1 : ∀ u w w', F1 u w → Chg (fun _ => False) w w' → F1 u w') (k2 : ∀ u w w', F2 u w → Chg (fun _ => False) w w' → F2 u w') :
  AlS m n t F0 F1 F2 (upd L j) (a.put d v) w' := by
 obtain ⟨j1, j2, j3⟩ := hj
 have em : upd L j m = L m := upd_ne (fun e => j1 e.symm)
 have en : upd L j n = L n := upd_ne (fun e => j2 e.symm)
 refine ⟨by rw [put_size]; exact h.size, fun hn => by rw [em]; exact h.em (by rw [← en]; exact hn), fun hm => k0 _ _ (h.p0 (by rw [← em]; exact hm)) hc, fun hm hn => ?_, fun hn => ?_⟩
 ·obtain ⟨u, h1, h2⟩ := h.p1 (by rw [← em]; exact hm) (by rw [← en]; exact hn)
  exact ⟨u, put_tmps h1 j3, k1 _ _ _ h2 hc⟩
 ·obtain ⟨u, h1, h2⟩ := h.p2 (by rw [← en]; exact hn)
  exact ⟨u, put_tmps h1 j3, k2 _ _ _ h2 hc⟩
theorem AlS.first (h : AlS m n t F0 F1 F2 L a w) (hmn : m < n) (hl : L m = false) {v : Value} (hF : F1 v w') : AlS m n t F0 F1 F2 (upd L m) (a.put (some t) v) w' := by
 have hn := h.not hl
 have en : upd L m n = L n := upd_ne (by omega)
 refine ⟨by rw [put_size]; exact h.size, fun h' => (by rw [en, hn] at h'; cases h'), fun h' => (by rw [upd_self] at h'; cases h'), fun _ _ => ⟨v, ?_, hF⟩, fun h' => (by rw [en, hn] at h'; cases h')⟩
 simp [Act.put, h.size]
theorem AlS.second (h : AlS m n t F0 F1 F2 L a w) (_ : m < n) (hm : L m = true) {u v : Value} (hu : a.tmps[t]? = some u) (hF : F2 u w') : AlS m n t F0 F1 F2 (upd L n) (a.put none v) w' := by
 refine ⟨by rw [put_size]; exact h.size, fun _ => upd_mono hm, fun h' => ?_, fun _ h' => (by rw [upd_self] at h'; cases h'), fun _ => ⟨u, put_tmps hu (by simp), hF⟩⟩
 rw [upd_mono hm] at h'
 cases h'
end

end Go.Proofs.Ytjaplnainlbldaa
