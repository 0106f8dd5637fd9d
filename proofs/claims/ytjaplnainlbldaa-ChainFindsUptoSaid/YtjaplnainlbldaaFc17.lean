/- Texts that the proof leans on, in one: ChLS, ChFollow. -/
import Derived.Test.YtjaplnainlbldaaFc16
/- The credentials of a growth, by what they lean on, as they lie in memory. -/
namespace Go.Proofs.Ytjaplnainlbldaa
open Go.RowKit Go.Maps Go.ChangeMaps Go.WideMaps

/-- What a block of theirs is for. -/
inductive LTag
 | leanM
 | linkM
 | leanR (r : RoleB)
 | linkR (v : List UInt8)

/-- A map of rows of credentials: L a is the row at the key a, tagged t a. -/
structure CM {α : Type} (k : KT α) (T : Nat → Option LTag) (t : α → LTag) (w : World) (m n : Nat) (L : α → List CredB) : Prop where
 ex : ∃ E, KV k w m n E ∧ (∀ a, k.ok a → E a = none → L a = []) ∧ ∀ a u, k.ok a → E a = some u → OwnC 0 w u (L a) ∧ ∀ b, u.ownBlock = some b → T b = some (t a)

theorem CM.keep {α : Type} {k : KT α} {T : Nat → Option LTag} {t : α → LTag} {P : Nat → Prop} {w w' : World} {m n : Nat} {L : α → List CredB} (h : CM k T t w m n L) (hm : ¬ P m) (hc : Chg P w w') (hs : ∀ b a, T b = some (t a) → ¬ P b) : CM k T t w' m n L := by
 obtain ⟨E, h1, h2, h3⟩ := h
 exact ⟨E, h1.keep hc hm, h2, fun a u ha hu => ⟨(h3 a u ha hu).1.keep hc (fun b hb => hs b a ((h3 a u ha hu).2 b hb)), (h3 a u ha hu).2⟩⟩
theorem CM.ext {α : Type} {k : KT α} {T T' : Nat → Option LTag} {t : α → LTag} {w : World} {m n : Nat} {L : α → List CredB} (h : CM k T t w m n L) (he : ∀ b, T b ≠ none → T' b = T b) : CM k T' t w m n L := by
 obtain ⟨E, h1, h2, h3⟩ := h
 exact ⟨E, h1, h2, fun a u ha hu => ⟨(h3 a u ha hu).1, fun b hb => by rw [he b (by rw [(h3 a u ha hu).2 b hb]; simp)]; exact (h3 a u ha hu).2 b hb⟩⟩

theorem mZeroCr (w : World) : (zeroValue 22).run Try.prog w = .ok (.slice none 0 0) w := by kernel_rfl

theorem CM.look {α : Type} {k : KT α} {T : Nat → Option LTag} {t : α → LTag} {w : World} {m n : Nat} {L : α → List CredB} (h : CM k T t w m n L) {mt : TypeId} (ht : Try.prog.underlying mt = some (.map k.ty 22)) {a : α} (ha : k.ok a) :
  ∃ u, OwnC 0 w u (L a) ∧ (∀ b, u.ownBlock = some b → T b = some (t a)) ∧ ∀ w', Chg (fun _ => False) w w' → (Instr.lookup mt (.map (some m)) (k.val a) false).run Try.prog w' = .ok u w' := by
 obtain ⟨E, h1, h2, h3⟩ := h
 refine ⟨(E a).getD (.slice none 0 0), ?_, ?_, fun w' hc => (h1.keep hc id).look ht (mZeroCr w') ha⟩
 ·cases hs : E a with
  | none => rw [h2 a ha hs]; exact World.ownsRow_nil _ _ _ _
  | some x => exact (h3 a x ha hs).1
 ·cases hs : E a with
  | none => intro b hb; cases hb
  | some x => exact (h3 a x ha hs).2

/-- The maps m3 and m4 hold the credentials cs by what they lean on. -/
structure LS (T : Nat → Option LTag) (w : World) (m3 m4 : Nat) (cs : List CredB) : Prop where
 t3 : T m3 = some .leanM
 t4 : T m4 = some .linkM
 lean : CM ktR T .leanR w m3 (cs.length * 2) (leanL cs)
 link : CM ktS T .linkR w m4 cs.length (linkL cs)
 lo : ∀ b, T b ≠ none → b < w.heap.size

theorem LS.keep {T : Nat → Option LTag} {P : Nat → Prop} {w w' : World} {m3 m4 : Nat} {cs : List CredB} (h : LS T w m3 m4 cs) (hc : Chg P w w') (hs : ∀ b, T b ≠ none → ¬ P b) : LS T w' m3 m4 cs :=
 ⟨h.t3, h.t4, h.lean.keep (hs _ (by rw [h.t3]; simp)) hc (fun b a hb => hs b (by rw [hb]; simp)), h.link.keep (hs _ (by rw [h.t4]; simp)) hc (fun b a hb => hs b (by rw [hb]; simp)), fun b hb => Nat.lt_of_lt_of_le (h.lo b hb) hc.size⟩

/-- The blocks of both are apart. -/
def Apart (T : Nat → Option KTag) (T2 : Nat → Option LTag) : Prop := ∀ b, T2 b ≠ none → T b = none
theorem LS.gro {T T1 : Nat → Option KTag} {T2 : Nat → Option LTag} {w w' : World} {g m3 m4 : Nat} {S S' : List StepB} {cs : List CredB} (h : LS T2 w m3 m4 cs) (ha : Apart T T2) (hg : Gro T w g m3 m4 S T1 w' S') : LS T2 w' m3 m4 cs ∧ Apart T1 T2 :=
 ⟨h.keep hg.chg (fun b hb e => e (ha b hb)), fun b hb => hg.not (ha b hb) (h.lo b hb)⟩
theorem GS.maps {T : Nat → Option KTag} {w : World} {g m3 m4 : Nat} {S : List StepB} (h : GS T w g m3 m4 S) : w.cell? ⟨g, 3, none⟩ = some (.map (some m3)) ∧ w.cell? ⟨g, 4, none⟩ = some (.map (some m4)) := by
 obtain ⟨⟨v, m1, m2, Sl, hp⟩, _⟩ := h
 exact ⟨cell_blk hp.blk 3, cell_blk hp.blk 4⟩

/-- Leaning, whatever kind. -/
theorem ch_lean {T : Nat → Option KTag} (g m3 m4 : Nat) (S : List StepB) (c : CredB) (wo : List UInt8) (w0 : World) (h : GS T w0 g m3 m4 S) (hr : isCred c = true) (hk : c.kind ≠ 1) (hn : (leanG S c wo).length ≤ 33554432) (hw : wo.length ≤ 9223372036854775807) :
  Calls Try.prog 103 #[.pointer (some ⟨g, 0, none⟩), .agg #[.int .i64 c.kind, .string ⟨c.head.1.toArray⟩, .string ⟨c.head.2.toArray⟩, .string ⟨c.who.toArray⟩, .string ⟨c.b.1.toArray⟩, .string ⟨c.b.2.toArray⟩, .string ⟨c.c.1.toArray⟩, .string ⟨c.c.2.toArray⟩, .string ⟨c.w2.toArray⟩], .string ⟨wo.toArray⟩] w0 (GroP T g m3 m4 S (leanG S c wo) w0) := by
 have hf : credShort c 9223372036854775807 := by
  obtain ⟨h1, h2, h3, h4, h5, h6, h7, h8⟩ := isCred_short hr
  exact ⟨by omega, by omega, by omega, by omega, by omega, by omega, by omega, by omega⟩
 rcases isCred_kind hr with k | k | k | k
 ·exact absurd k hk
 ·exact ch_lean2 g m3 m4 S c wo w0 h k hn hf hw
 ·exact ch_lean3 g m3 m4 S c wo w0 h k hn hf hw
 ·exact ch_lean4 g m3 m4 S c wo w0 h k hn hf hw
end Go.Proofs.Ytjaplnainlbldaa

/- A fact is followed. -/
namespace Go.Proofs.Ytjaplnainlbldaa
open Go.RowKit Go.Maps

set_option maxRecDepth 100000 in
set_option maxHeartbeats 4000000 in
theorem ch_follow {T : Nat → Option KTag} {T2 : Nat → Option LTag} (g m3 m4 : Nat) (S : List StepB) (cs : List CredB) (f : FactB) (w0 : World) (h : GS T w0 g m3 m4 S) (hl : LS T2 w0 m3 m4 cs) (ha : Apart T T2) (_ : ∀ c ∈ cs, isCred c = true) (hcl : cs.length ≤ 100000) (hn : (followG cs S f).length ≤ 33554432) (hf : factShort f 9223372036854775807) :
  Calls Try.prog 73 #[.pointer (some ⟨g, 0, none⟩), .agg #[.string ⟨f.1.1.toArray⟩, .string ⟨f.1.2.toArray⟩, .string ⟨f.2.toArray⟩]] w0 (GroP T g m3 m4 S (followG cs S f) w0) := by
 have hc1 : Chg (fun _ => False) w0 (w0.alloc (.cells #[.string ⟨f.1.1.toArray⟩, .string ⟨f.1.2.toArray⟩, .string ⟨f.2.toArray⟩] 26)) := (Chg.refl _ w0).alloc _
 have hab : (w0.alloc (.cells #[.string ⟨f.1.1.toArray⟩, .string ⟨f.1.2.toArray⟩, .string ⟨f.2.toArray⟩] 26)).heap[w0.heap.size]? = some (.cells #[.string ⟨f.1.1.toArray⟩, .string ⟨f.1.2.toArray⟩, .string ⟨f.2.toArray⟩] 26 (0, 0)) := heap_alloc_new w0 _
 have HN0 := hid hn
 have HSF : Hid (f.1.1.length ≤ 9223372036854775807 ∧ f.2.length ≤ 9223372036854775807) := hid ⟨hf.1, hf.2.2⟩
 have HSF2 : Hid (ktS.ok f.1.2) := hid hf.2.1
 have HCSL := hid hcl
 have hshort : ∀ c, isCred c = true → credShort c 9223372036854775807 := fun c hr => by
  obtain ⟨h1, h2, h3, h4, h5, h6, h7, h8⟩ := isCred_short hr
  exact ⟨by omega, by omega, by omega, by omega, by omega, by omega, by omega, by omega⟩
 have HSHX : Hid ((∀ x ∈ leanL cs f.1, credShort x 9223372036854775807) ∧ ∀ x ∈ linkL cs f.1.2, credShort x 9223372036854775807) := hid ⟨fun x hx => hshort x (lean_iff.1 hx).2.1, fun x hx => hshort x (link_iff.1 hx).2.1⟩
 have hls1 := hl.keep hc1 (fun _ _ => id)
 obtain ⟨u, l1, l2, l3⟩ := hls1.lean.look (mt := 84) Try.underlying84 (a := f.1) ⟨hf.1, hf.2.1⟩
 obtain ⟨ao, cap, hu⟩ := l1.shape
 obtain ⟨n, hnn⟩ : ∃ n, n = (leanL cs f.1).length := ⟨_, rfl⟩
 rw [← hnn] at hu
 subst hu
 have HNL : Hid ((leanL cs f.1).length = n) := hid hnn.symm
 have HNB : Hid (n ≤ 33554432) := hid (by have := leanL_len cs f.1; omega)
 have x0 := cell_blk hab 0
 have x1 := cell_blk hab 1
 simp only [List.getElem?_toArray, List.getElem?_cons_zero, List.getElem?_cons_succ] at x0 x1
 have hgs := h.quiet hc1
 have HM := hid hgs.maps
 have HX := hid (And.intro x0 x1)
 have l3' : ∀ w', Chg (fun _ => False) (w0.alloc (.cells #[.string ⟨f.1.1.toArray⟩, .string ⟨f.1.2.toArray⟩, .string ⟨f.2.toArray⟩] 26)) w' → (Instr.lookup 84 (.map (some m3)) (.agg #[.string ⟨f.1.1.toArray⟩, .string ⟨f.1.2.toArray⟩]) false).run Try.prog w' = .ok (.slice ao n cap) w' := l3
 have HL := hid l3'
 clear l3'
 have HGS0 := hid h
 have HGS : Hid (GS T w0 g m3 m4 S) := hid h
 have HO := hid (And.intro l1 l2)
 have HLS := hid (And.intro hls1 ha)
 have HAB := hid hab
 have HTA : Hid (T w0.heap.size = none) := hid (tag_new h.lo (Nat.le_refl _))
 have HC1 := hid hc1
 clear h hl ha hcl hn hf hc1 hab hshort hls1 l1 l2 l3 hnn x0 x1 hgs HGS0
 go_enter Try.func73, Try.ntmps73
 go_wp2_with fail
 generalize hW1 : (w0.alloc (.cells #[.string ⟨f.1.1.toArray⟩, .string ⟨f.1.2.toArray⟩, .string ⟨f.2.toArray⟩] 26)) = w1 at *
 generalize hA : w0.heap.size = A at *
 clear hA hW1
 refine wp_region_specs [.eq (.pointer (some ⟨g, 0, none⟩)), .any, .any, .eq (.pointer (some ⟨A, 0, none⟩)), .any, .any, .any, .any, .eq (.pointer (some ⟨g, 0, none⟩)), .eq (.pointer (some ⟨g, 0, none⟩)), .eq (.pointer (some ⟨g, 3, none⟩)), .eq (.map (some m3)), .eq (.pointer (some ⟨A, 0, none⟩)), .eq (.agg #[.string ⟨f.1.1.toArray⟩, .string ⟨f.1.2.toArray⟩]), .eq (.slice ao n cap), .eq (.int .i64 n), .eq (.int .i64 0), .any, .any, .any, .any, .any, .any, .any, .any, .any, .any, .any, .any, .any, .any, .any, .any, .any, .any, .any, .any, .any, .any, .any, .any, .any, .any, .any, .any, .any, .any, .any, .any, .any, .any, .any, .any] [8, 9, 10, 11, 12, 13, 14, 15, 16] [0, 3] (by kernel_rfl) (by kernel_rfl) (by rfl) (by kernel_rfl) ?start1 ?obs1 ?fin1
 case start1 =>
  simp only [List.forall_mem_cons]; exact ⟨⟨_, rfl, rfl⟩, ⟨_, rfl, rfl⟩, fun _ h => by cases h⟩
 case obs1 =>
  clear HGS HO HLS HAB HC1 HTA HNB HNL
  refine Obs.cons none (by kernel_rfl) ?_ ?_
  ·refine Ob.plain fun a w hR hk K k => ?_
   obtain ⟨_, e0, f0⟩ := hk 0 (by decide)
   clear hk
   go_simp
   exact k _ _ (Chg.refl _ _) f0
  refine Obs.cons none (by kernel_rfl) ?_ ?_
  ·refine Ob.plain fun a w hR hk K k => ?_
   obtain ⟨_, e8, rfl⟩ := hk 8 (by decide)
   clear hk
   go_simp
   exact k _ _ (Chg.refl _ _) rfl
  refine Obs.cons none (by kernel_rfl) ?_ ?_
  ·refine Ob.plain fun a w hR hk K k => ?_
   obtain ⟨_, e9, rfl⟩ := hk 9 (by decide)
   clear hk
   go_simp
   exact k _ _ (Chg.refl _ _) rfl
  refine Obs.cons none (by kernel_rfl) ?_ ?_
  ·refine Ob.plain fun a w hR hk K k => ?_
   obtain ⟨_, e10, rfl⟩ := hk 10 (by decide)
   clear hk
   have zz := hR.cell HM.out.1 id
   go_simp
   exact k _ _ (Chg.refl _ _) rfl
  refine Obs.cons none (by kernel_rfl) ?_ ?_
  ·refine Ob.plain fun a w hR hk K k => ?_
   obtain ⟨_, e3, rfl⟩ := hk 3 (by decide)
   clear hk
   go_simp
   exact k _ _ (Chg.refl _ _) rfl
  refine Obs.cons none (by kernel_rfl) ?_ ?_
  ·refine Ob.plain fun a w hR hk K k => ?_
   obtain ⟨_, e12, rfl⟩ := hk 12 (by decide)
   clear hk
   have z0 := hR.cell HX.out.1 id
   have z1 := hR.cell HX.out.2 id
   go_simp
   exact k _ _ (Chg.refl _ _) rfl
  refine Obs.cons none (by kernel_rfl) ?_ ?_
  ·refine Ob.plain fun a w hR hk K k => ?_
   obtain ⟨_, e11, rfl⟩ := hk 11 (by decide)
   obtain ⟨_, e13, rfl⟩ := hk 13 (by decide)
   clear hk
   have q := HL.out w hR
   go_simp
   exact k _ _ (Chg.refl _ _) rfl
  refine Obs.cons none (by kernel_rfl) ?_ ?_
  ·refine Ob.plain fun a w hR hk K k => ?_
   obtain ⟨_, e14, rfl⟩ := hk 14 (by decide)
   clear hk
   go_simp
   exact k _ _ (Chg.refl _ _) rfl
  refine Obs.cons none (by kernel_rfl) ?_ ?_
  ·refine Ob.plain fun a w hR hk K k => ?_
   clear hk
   go_simp
   exact k _ _ (Chg.refl _ _) rfl
  exact Obs.nil
 case fin1 =>
  intro vals w9 hc9 hv
  have h14 : vals 14 = .slice ao n cap := hv 14 (by decide)
  have h15 : vals 15 = .int .i64 n := hv 15 (by decide)
  have h16 : vals 16 = .int .i64 0 := hv 16 (by decide)
  simp only [putAll, List.setIfInBounds_toArray, List.set_cons_zero, List.set_cons_succ, h14, h15, h16]
  have HG9 := hid (HGS.out.gro.quiet (HC1.out.trans hc9 (fun _ _ h => h)))
  have HO9 := hid (HO.out.1.keep hc9 (fun _ _ => id))
  have HTG := hid HO.out.2
  have HLS9 := hid (HLS.out.1.keep hc9 (fun _ _ => id))
  have HAP9 := hid HLS.out.2
  have HA9 := hid (blk_keep HAB.out hc9 id)
  clear hc9 hv h14 h15 h16 HL HX HM HGS HC1 HAB HO HLS
  have hnb := HNB.out
  clear HNB
  go_wp2
  go_loopw [16] (fun i wr => ∃ k : Nat, k ≤ n ∧ i = .int .i64 k ∧ Hid (∃ T1, Gro T w0 g m3 m4 S T1 wr (((leanL cs f.1).take k).foldl (fun S c => leanG S c f.2) S) ∧ OwnC 0 wr (.slice ao n cap) (leanL cs f.1) ∧ T1 A = none ∧ wr.heap[A]? = some (.cells #[.string ⟨f.1.1.toArray⟩, .string ⟨f.1.2.toArray⟩, .string ⟨f.2.toArray⟩] 26 (0, 0)) ∧ LS T2 wr m3 m4 cs ∧ Apart T1 T2)) (fun i _ => n - (intOf i).toNat)
  case atStart => exact ⟨0, Nat.zero_le _, rfl, hid ⟨T, HG9.out, HO9.out, HTA.out, HA9.out, HLS9.out, HAP9.out⟩⟩
  case round =>
   obtain ⟨kk, hkk, rfl, hrel⟩ := hrel
   obtain ⟨T1, hg1, hrow, hta, hab, hls, hap⟩ := hrel.out
   by_cases hlt : kk < n
   ·have hkl : kk < (leanL cs f.1).length := by rw [HNL.out]; exact hlt
    obtain ⟨ao2, cap2, e2, hst, hz2⟩ := hrow.creds (fun x hx => HSHX.out.1 x hx)
    injection e2 with q1 q2 q3
    rw [← q1] at hst
    clear q1 q2 q3 hz2
    obtain ⟨B, off, hao, hDb, ⟨a0, a1, a2, a3, a4, a5, a6, a7, a8⟩, hss⟩ := hst kk hkl
    clear hDb hss
    have hxl : (leanL cs f.1)[kk] ∈ leanL cs f.1 := List.getElem_mem hkl
    have hxr := (lean_iff.1 hxl)
    have htk : (leanL cs f.1).take (kk + 1) = (leanL cs f.1).take kk ++ [(leanL cs f.1)[kk]] := List.take_succ_eq_append_getElem hkl
    obtain ⟨x, hx⟩ : ∃ x, x = (leanL cs f.1)[kk] := ⟨_, rfl⟩
    simp only [← hx] at a0 a1 a2 a3 a4 a5 a6 a7 a8 hxr htk
    obtain ⟨S1, hS1⟩ : ∃ S1, S1 = ((leanL cs f.1).take kk).foldl (fun S c => leanG S c f.2) S := ⟨_, rfl⟩
    rw [← hS1] at hg1
    have hfold : ((leanL cs f.1).take (kk + 1)).foldl (fun S c => leanG S c f.2) S = leanG S1 x f.2 := by rw [htk, List.foldl_append, ← hS1]; rfl
    have hlen : (leanG S1 x f.2).length ≤ 33554432 := by
     rw [← hfold]
     refine Nat.le_trans (Ahead.len ?_) HN0.out
     have h1 : Ahead (((leanL cs f.1).take (kk + 1)).foldl (fun S c => leanG S c f.2) S) ((leanL cs f.1).foldl (fun S c => leanG S c f.2) S) := by
      conv => rhs; rw [← List.take_append_drop (kk + 1) (leanL cs f.1), List.foldl_append]
      exact fold_ahead (fun S c => lean_ahead S c f.2) _ _
     exact h1.trans (fold_ahead (fun S c => link_ahead S c f) _ _)
    have hw1 : Chg (fun _ => False) wr (wr.alloc (.cells #[.int .i64 x.kind, .string ⟨x.head.1.toArray⟩, .string ⟨x.head.2.toArray⟩, .string ⟨x.who.toArray⟩, .string ⟨x.b.1.toArray⟩, .string ⟨x.b.2.toArray⟩, .string ⟨x.c.1.toArray⟩, .string ⟨x.c.2.toArray⟩, .string ⟨x.w2.toArray⟩] 36)) := (Chg.refl _ wr).alloc _
    have hbX : (wr.alloc (.cells #[.int .i64 x.kind, .string ⟨x.head.1.toArray⟩, .string ⟨x.head.2.toArray⟩, .string ⟨x.who.toArray⟩, .string ⟨x.b.1.toArray⟩, .string ⟨x.b.2.toArray⟩, .string ⟨x.c.1.toArray⟩, .string ⟨x.c.2.toArray⟩, .string ⟨x.w2.toArray⟩] 36)).heap[wr.heap.size]? = some (.cells (credBox x) 36 (0, 0)) := heap_alloc_new wr _
    have hgs1 := hg1.gs.quiet hw1
    have hq := ch_lean g m3 m4 S1 x f.2 _ hgs1 hxr.2.1 hxr.2.2.1 hlen HSF.out.2
    have hab1 := blk_keep hab hw1 id
    obtain ⟨c0, c1, c2, c3, c4, c5, c6, c7, c8⟩ := cred_at_blk hbX
    simp only [Nat.zero_add] at c0 c1 c2 c3 c4 c5 c6 c7 c8
    have x2 := cell_blk hab1 2
    simp only [List.getElem?_toArray, List.getElem?_cons_zero, List.getElem?_cons_succ] at x2
    have HQ := hid hq
    have HJ := hid (And.intro hg1 (And.intro hrow (And.intro hta (And.intro hls (And.intro hap (And.intro hab1 (And.intro hw1 hfold)))))))
    subst hao
    clear hkl hst hxl hxr htk hx hS1 hfold hlen hw1 hbX hgs1 hq hab1 hg1 hrow hta hab hls hap hrel
    go_wp2_with fail
    refine HQ.out.mono ?_
    rintro e w6 ⟨rfl, T7, hg7⟩
    clear a0 a1 a2 a3 a4 a5 a6 a7 a8 c0 c1 c2 c3 c4 c5 c6 c7 c8 x2 HQ
    have HN : Hid (Hid (∃ T1, Gro T w0 g m3 m4 S T1 w6 (((leanL cs f.1).take (kk + 1)).foldl (fun S c => leanG S c f.2) S) ∧ OwnC 0 w6 (.slice (some ⟨B, off, none⟩) n cap) (leanL cs f.1) ∧ T1 A = none ∧ w6.heap[A]? = some (.cells #[.string ⟨f.1.1.toArray⟩, .string ⟨f.1.2.toArray⟩, .string ⟨f.2.toArray⟩] 26 (0, 0)) ∧ LS T2 w6 m3 m4 cs ∧ Apart T1 T2)) := hid (hid (by
     obtain ⟨hg1, hrow, hta, hls, hap, hab1, hw1, hfold⟩ := HJ.out
     have hgt := hg7.early hw1
     have hll := hls.gro hap hgt
     have hlA := lt_blk hab1
     refine ⟨T7, by rw [hfold]; exact hg1.trans hgt, hrow.keep hgt.chg (fun b hb e => e (hap b (by rw [HTG.out b hb]; simp))), hg7.not hta hlA, blk_keep hab1 hg7.chg (fun e => e hta), hll.1, hll.2⟩))
    clear hg7 HJ
    go_wp2
    go_roundw
    case rel => exact ⟨kk + 1, by omega, by go_num, HN.out⟩
    case measure => simp [intOf]; omega
   ·have hk2 : kk = n := by omega
    have e : ((leanL cs f.1).take kk).foldl (fun S c => leanG S c f.2) S = (leanL cs f.1).foldl (fun S c => leanG S c f.2) S := by rw [hk2, ← HNL.out, List.take_length]
    rw [e] at hg1
    obtain ⟨u6, l1, l2, l3⟩ := hls.link.look (mt := 85) Try.underlying85 (a := f.1.2) HSF2.out
    obtain ⟨ao6, cap6, hu6⟩ := l1.shape
    obtain ⟨n6, hn6⟩ : ∃ n6, n6 = (linkL cs f.1.2).length := ⟨_, rfl⟩
    rw [← hn6] at hu6
    subst hu6
    have HNL6 : Hid ((linkL cs f.1.2).length = n6) := hid hn6.symm
    have HNB6 : Hid (n6 ≤ 33554432) := hid (by have := linkL_len cs f.1.2; have h2 := HCSL.out; omega)
    have x1 := cell_blk hab 1
    simp only [List.getElem?_toArray, List.getElem?_cons_zero, List.getElem?_cons_succ] at x1
    have HM6 := hid hg1.gs.maps.2
    have HX6 := hid x1
    have l3' : ∀ w', Chg (fun _ => False) wr w' → (Instr.lookup 85 (.map (some m4)) (.string ⟨f.1.2.toArray⟩) false).run Try.prog w' = .ok (.slice ao6 n6 cap6) w' := l3
    have HL6 := hid l3'
    clear l3'
    have HGM := hid hg1
    have HR6 := hid (And.intro l1 l2)
    have HLS1 := hid (And.intro hls hap)
    have HAB1 := hid hab
    have HTA6 := hid hta
    obtain ⟨T6, hT6⟩ : ∃ T6, T6 = T1 := ⟨_, rfl⟩
    rw [← hT6] at HGM HTA6 HLS1
    clear hk2 e hg1 hrow hta hab hls hap hrel l1 l2 l3 hn6 x1 hT6
    go_wp2_with fail
    refine wp_region_specs [.eq (.pointer (some ⟨g, 0, none⟩)), .any, .any, .eq (.pointer (some ⟨A, 0, none⟩)), .any, .any, .any, .any, .any, .any, .any, .any, .any, .any, .any, .any, .any, .any, .any, .any, .any, .any, .any, .any, .any, .any, .eq (.pointer (some ⟨g, 0, none⟩)), .eq (.pointer (some ⟨g, 0, none⟩)), .eq (.pointer (some ⟨g, 4, none⟩)), .eq (.map (some m4)), .eq (.pointer (some ⟨A, 0, none⟩)), .eq (.pointer (some ⟨A, 1, none⟩)), .eq (.string ⟨f.1.2.toArray⟩), .eq (.slice ao6 n6 cap6), .eq (.int .i64 n6), .eq (.int .i64 0), .any, .any, .any, .any, .any, .any, .any, .any, .any, .any, .any, .any, .any, .any, .any, .any, .any] [26, 27, 28, 29, 30, 31, 32, 33, 34, 35] [0, 3] (by kernel_rfl) (by kernel_rfl) (by rfl) (by kernel_rfl) ?start6 ?obs6 ?fin6
    case start6 =>
     simp only [List.forall_mem_cons]; exact ⟨⟨_, rfl, rfl⟩, ⟨_, rfl, rfl⟩, fun _ h => by cases h⟩
    case obs6 =>
     clear HGM HR6 HLS1 HAB1 HTA6 HNB6 HNL6
     refine Obs.cons none (by kernel_rfl) ?_ ?_
     ·refine Ob.plain fun a w hR hk K k => ?_
      obtain ⟨_, e0, f0⟩ := hk 0 (by decide)
      clear hk
      go_simp
      exact k _ _ (Chg.refl _ _) f0
     refine Obs.cons none (by kernel_rfl) ?_ ?_
     ·refine Ob.plain fun a w hR hk K k => ?_
      obtain ⟨_, e26, rfl⟩ := hk 26 (by decide)
      clear hk
      go_simp
      exact k _ _ (Chg.refl _ _) rfl
     refine Obs.cons none (by kernel_rfl) ?_ ?_
     ·refine Ob.plain fun a w hR hk K k => ?_
      obtain ⟨_, e27, rfl⟩ := hk 27 (by decide)
      clear hk
      go_simp
      exact k _ _ (Chg.refl _ _) rfl
     refine Obs.cons none (by kernel_rfl) ?_ ?_
     ·refine Ob.plain fun a w hR hk K k => ?_
      obtain ⟨_, e28, rfl⟩ := hk 28 (by decide)
      clear hk
      have zz := hR.cell HM6.out id
      go_simp
      exact k _ _ (Chg.refl _ _) rfl
     refine Obs.cons none (by kernel_rfl) ?_ ?_
     ·refine Ob.plain fun a w hR hk K k => ?_
      obtain ⟨_, e3, rfl⟩ := hk 3 (by decide)
      clear hk
      go_simp
      exact k _ _ (Chg.refl _ _) rfl
     refine Obs.cons none (by kernel_rfl) ?_ ?_
     ·refine Ob.plain fun a w hR hk K k => ?_
      obtain ⟨_, e30, rfl⟩ := hk 30 (by decide)
      clear hk
      go_simp
      exact k _ _ (Chg.refl _ _) rfl
     refine Obs.cons none (by kernel_rfl) ?_ ?_
     ·refine Ob.plain fun a w hR hk K k => ?_
      obtain ⟨_, e31, rfl⟩ := hk 31 (by decide)
      clear hk
      have z1 := hR.cell HX6.out id
      go_simp
      exact k _ _ (Chg.refl _ _) rfl
     refine Obs.cons none (by kernel_rfl) ?_ ?_
     ·refine Ob.plain fun a w hR hk K k => ?_
      obtain ⟨_, e29, rfl⟩ := hk 29 (by decide)
      obtain ⟨_, e32, rfl⟩ := hk 32 (by decide)
      clear hk
      have q := HL6.out w hR
      go_simp
      exact k _ _ (Chg.refl _ _) rfl
     refine Obs.cons none (by kernel_rfl) ?_ ?_
     ·refine Ob.plain fun a w hR hk K k => ?_
      obtain ⟨_, e33, rfl⟩ := hk 33 (by decide)
      clear hk
      go_simp
      exact k _ _ (Chg.refl _ _) rfl
     refine Obs.cons none (by kernel_rfl) ?_ ?_
     ·refine Ob.plain fun a w hR hk K k => ?_
      clear hk
      go_simp
      exact k _ _ (Chg.refl _ _) rfl
     exact Obs.nil
    case fin6 =>
     intro vals w9 hc9 hv
     have h33 : vals 33 = .slice ao6 n6 cap6 := hv 33 (by decide)
     have h34 : vals 34 = .int .i64 n6 := hv 34 (by decide)
     have h35 : vals 35 = .int .i64 0 := hv 35 (by decide)
     simp only [putAll, List.setIfInBounds_toArray, List.set_cons_zero, List.set_cons_succ, h33, h34, h35]
     have HG6 := hid (HGM.out.quiet hc9)
     have HO6 := hid (HR6.out.1.keep hc9 (fun _ _ => id))
     have HLS6 := hid (HLS1.out.1.keep hc9 (fun _ _ => id))
     have HA6 := hid (blk_keep HAB1.out hc9 id)
     clear hc9 hv h33 h34 h35 HM6 HX6 HL6 HGM HAB1
     have HTG6 := hid HR6.out.2
     clear HR6
     have hnb6 := HNB6.out
     clear HNB6
     go_wp2
     go_loopw [35] (fun i wr => ∃ k : Nat, k ≤ n6 ∧ i = .int .i64 k ∧ Hid (∃ T1, Gro T w0 g m3 m4 S T1 wr (((linkL cs f.1.2).take k).foldl (fun S c => linkG S c f) ((leanL cs f.1).foldl (fun S c => leanG S c f.2) S)) ∧ OwnC 0 wr (.slice ao6 n6 cap6) (linkL cs f.1.2) ∧ T1 A = none ∧ wr.heap[A]? = some (.cells #[.string ⟨f.1.1.toArray⟩, .string ⟨f.1.2.toArray⟩, .string ⟨f.2.toArray⟩] 26 (0, 0)) ∧ LS T2 wr m3 m4 cs ∧ Apart T1 T2)) (fun i _ => n6 - (intOf i).toNat)
     case atStart => exact ⟨0, Nat.zero_le _, rfl, hid ⟨T6, HG6.out, HO6.out, HTA6.out, HA6.out, HLS6.out, HLS1.out.2⟩⟩
     case round =>
      obtain ⟨kk, hkk, rfl, hrel⟩ := hrel
      obtain ⟨T1, hg1, hrow, hta, hab, hls, hap⟩ := hrel.out
      by_cases hlt : kk < n6
      ·have hkl : kk < (linkL cs f.1.2).length := by rw [HNL6.out]; exact hlt
       obtain ⟨ao2, cap2, e2, hst, hz2⟩ := hrow.creds (fun x hx => HSHX.out.2 x hx)
       injection e2 with q1 q2 q3
       rw [← q1] at hst
       clear q1 q2 q3 hz2
       obtain ⟨B, off, hao, hDb, ⟨a0, a1, a2, a3, a4, a5, a6, a7, a8⟩, hss⟩ := hst kk hkl
       clear hDb hss
       have hxl : (linkL cs f.1.2)[kk] ∈ linkL cs f.1.2 := List.getElem_mem hkl
       have hxs := HSHX.out.2 _ hxl
       have hxr := (link_iff.1 hxl)
       have htk : (linkL cs f.1.2).take (kk + 1) = (linkL cs f.1.2).take kk ++ [(linkL cs f.1.2)[kk]] := List.take_succ_eq_append_getElem hkl
       obtain ⟨x, hx⟩ : ∃ x, x = (linkL cs f.1.2)[kk] := ⟨_, rfl⟩
       simp only [← hx] at a0 a1 a2 a3 a4 a5 a6 a7 a8 hxs hxr htk
       obtain ⟨S1, hS1⟩ : ∃ S1, S1 = ((linkL cs f.1.2).take kk).foldl (fun S c => linkG S c f) ((leanL cs f.1).foldl (fun S c => leanG S c f.2) S) := ⟨_, rfl⟩
       rw [← hS1] at hg1
       have hfold : ((linkL cs f.1.2).take (kk + 1)).foldl (fun S c => linkG S c f) ((leanL cs f.1).foldl (fun S c => leanG S c f.2) S) = linkG S1 x f := by rw [htk, List.foldl_append, ← hS1]; rfl
       have hlen : (linkG S1 x f).length ≤ 33554432 := by
        rw [← hfold]
        refine Nat.le_trans (Ahead.len ?_) HN0.out
        have e : followG cs S f = (linkL cs f.1.2).foldl (fun S c => linkG S c f) ((leanL cs f.1).foldl (fun S c => leanG S c f.2) S) := rfl
        rw [e]
        conv => rhs; rw [← List.take_append_drop (kk + 1) (linkL cs f.1.2), List.foldl_append]
        exact fold_ahead (fun S c => link_ahead S c f) _ _
       have hw1 : Chg (fun _ => False) wr (wr.alloc (.cells #[.int .i64 x.kind, .string ⟨x.head.1.toArray⟩, .string ⟨x.head.2.toArray⟩, .string ⟨x.who.toArray⟩, .string ⟨x.b.1.toArray⟩, .string ⟨x.b.2.toArray⟩, .string ⟨x.c.1.toArray⟩, .string ⟨x.c.2.toArray⟩, .string ⟨x.w2.toArray⟩] 36)) := (Chg.refl _ wr).alloc _
       have hbX : (wr.alloc (.cells #[.int .i64 x.kind, .string ⟨x.head.1.toArray⟩, .string ⟨x.head.2.toArray⟩, .string ⟨x.who.toArray⟩, .string ⟨x.b.1.toArray⟩, .string ⟨x.b.2.toArray⟩, .string ⟨x.c.1.toArray⟩, .string ⟨x.c.2.toArray⟩, .string ⟨x.w2.toArray⟩] 36)).heap[wr.heap.size]? = some (.cells (credBox x) 36 (0, 0)) := heap_alloc_new wr _
       have hgs1 := hg1.gs.quiet hw1
       have hq := ch_has g m3 m4 S1 (x.b, f.1.1) _ hgs1 ⟨hxs.2.2.2.1, hxs.2.2.2.2.1, HSF.out.1⟩
       have hab1 := blk_keep hab hw1 id
       obtain ⟨c0, c1, c2, c3, c4, c5, c6, c7, c8⟩ := cred_at_blk hbX
       simp only [Nat.zero_add] at c0 c1 c2 c3 c4 c5 c6 c7 c8
       have x0 := cell_blk hab1 0
       simp only [List.getElem?_toArray, List.getElem?_cons_zero] at x0
       have htX : T1 wr.heap.size = none := tag_new hg1.gs.lo (Nat.le_refl _)
       have HJ := hid (And.intro hg1 (And.intro hrow (And.intro hta (And.intro hls (And.intro hap (And.intro hab1 (And.intro hbX (And.intro hxs (And.intro hlen hfold)))))))))
       have HW1 := hid hw1
       have HG1 := hid hgs1
       have HTX := hid htX
       have HXR := hid hxr
       have HLTA := hid (lt_blk hab)
       subst hao
       by_cases hin : (x.b, f.1.1) ∈ factsK S1
       ·rw [decide_eq_true hin] at hq
        have HQ := hid hq
        have e : linkG S1 x f = bringG S1 x f.2 := if_pos hin
        have HEX := hid e
        clear hkl hst hxl hxs hxr htk hx hS1 hfold hlen hw1 hbX hgs1 hq hab1 htX hg1 hrow hta hab hls hap hrel hin e
        go_wp2_with fail
        refine HQ.out.mono ?_
        rintro e w5 ⟨rfl, hc5⟩
        clear a0 a1 a2 a3 a4 a5 a6 a7 a8 c0 c1 c2 c3 c4 c5 c6 c7 c8 x0 HQ
        have hcc := HW1.out.trans hc5 (fun _ _ h => h)
        have hbX5 := blk_keep HJ.out.2.2.2.2.2.2.1 hc5 id
        have hab5 := blk_keep HJ.out.2.2.2.2.2.1 hc5 id
        obtain ⟨c0, c1, c2, c3, c4, c5, c6, c7, c8⟩ := cred_at_blk hbX5
        simp only [Nat.zero_add] at c0 c1 c2 c3 c4 c5 c6 c7 c8
        have x2 := cell_blk hab5 2
        simp only [List.getElem?_toArray, List.getElem?_cons_zero, List.getElem?_cons_succ] at x2
        have hq := ch_bring2 g m3 m4 S1 x f.2 w5 (HG1.out.quiet hc5) (by rw [← HEX.out]; exact HJ.out.2.2.2.2.2.2.2.2.1) HJ.out.2.2.2.2.2.2.2.1 HSF.out.2
        have HQ := hid hq
        have HCC := hid hcc
        have HAB5 := hid hab5
        clear hq hcc hbX5 hab5 hc5
        go_wp2_with fail
        refine HQ.out.mono ?_
        rintro e w6 ⟨rfl, T7, hg7⟩
        clear c0 c1 c2 c3 c4 c5 c6 c7 c8 x2 HQ
        have HN : Hid (Hid (∃ T1, Gro T w0 g m3 m4 S T1 w6 (((linkL cs f.1.2).take (kk + 1)).foldl (fun S c => linkG S c f) ((leanL cs f.1).foldl (fun S c => leanG S c f.2) S)) ∧ OwnC 0 w6 (.slice (some ⟨B, off, none⟩) n6 cap6) (linkL cs f.1.2) ∧ T1 A = none ∧ w6.heap[A]? = some (.cells #[.string ⟨f.1.1.toArray⟩, .string ⟨f.1.2.toArray⟩, .string ⟨f.2.toArray⟩] 26 (0, 0)) ∧ LS T2 w6 m3 m4 cs ∧ Apart T1 T2)) := hid (hid (by
         obtain ⟨hg1, hrow, hta, hls, hap, hab1, _, _, _, hfold⟩ := HJ.out
         have hgt := hg7.early HCC.out
         have hll := hls.gro hap hgt
         refine ⟨T7, by rw [hfold, HEX.out]; exact hg1.trans hgt, hrow.keep hgt.chg (fun b hb e => e (hap b (by rw [HTG6.out b hb]; simp))), hgt.not hta HLTA.out, blk_keep (blk_keep HAB5.out (Chg.refl (fun _ => False) _) id) hg7.chg (fun e => e hta), hll.1, hll.2⟩))
        clear hg7 HJ HW1 HG1 HTX HXR HEX HCC HAB5
        go_wp2
        go_roundw
        case rel => exact ⟨kk + 1, by omega, by go_num, HN.out⟩
        case measure => simp [intOf]; omega
       ·rw [decide_eq_false hin] at hq
        have HQ := hid hq
        have e : linkG S1 x f = S1 := if_neg hin
        have HEX := hid e
        clear hkl hst hxl hxs hxr htk hx hS1 hfold hlen hw1 hbX hgs1 hq hab1 htX hg1 hrow hta hab hls hap hrel hin e
        go_wp2_with fail
        refine HQ.out.mono ?_
        rintro e w5 ⟨rfl, hc5⟩
        clear a0 a1 a2 a3 a4 a5 a6 a7 a8 c0 c1 c2 c3 c4 c5 c6 c7 c8 x0 HQ
        have hcc := HW1.out.trans hc5 (fun _ _ h => h)
        have HN : Hid (Hid (∃ T1, Gro T w0 g m3 m4 S T1 w5 (((linkL cs f.1.2).take (kk + 1)).foldl (fun S c => linkG S c f) ((leanL cs f.1).foldl (fun S c => leanG S c f.2) S)) ∧ OwnC 0 w5 (.slice (some ⟨B, off, none⟩) n6 cap6) (linkL cs f.1.2) ∧ T1 A = none ∧ w5.heap[A]? = some (.cells #[.string ⟨f.1.1.toArray⟩, .string ⟨f.1.2.toArray⟩, .string ⟨f.2.toArray⟩] 26 (0, 0)) ∧ LS T2 w5 m3 m4 cs ∧ Apart T1 T2)) := hid (hid (by
         obtain ⟨hg1, hrow, hta, hls, hap, hab1, _, _, _, hfold⟩ := HJ.out
         exact ⟨T1, by rw [hfold, HEX.out]; exact hg1.quiet hcc, hrow.keep hcc (fun _ _ => id), hta, blk_keep hab1 hc5 id, hls.keep hcc (fun _ _ => id), hap⟩))
        clear hcc hc5 HJ HW1 HG1 HTX HXR HEX
        go_wp2
        go_roundw
        case rel => exact ⟨kk + 1, by omega, by go_num, HN.out⟩
        case measure => simp [intOf]; omega
      ·have hk2 : kk = n6 := by omega
       have HE2 : Hid (GroP T g m3 m4 S (followG cs S f) w0 (.returned (.tuple #[])) wr) := hid ⟨rfl, T1, by
        have e : followG cs S f = ((linkL cs f.1.2).take kk).foldl (fun S c => linkG S c f) ((leanL cs f.1).foldl (fun S c => leanG S c f.2) S) := by rw [hk2, ← HNL6.out, List.take_length]; rfl
        rw [e]
        exact hg1⟩
       clear hk2 hg1 hrow hta hab hls hap hrel
       go_wp2
       go_end0
       exact HE2.out
end Go.Proofs.Ytjaplnainlbldaa
