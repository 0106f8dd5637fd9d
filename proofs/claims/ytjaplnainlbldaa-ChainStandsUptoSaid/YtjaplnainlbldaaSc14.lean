/- Texts that the proof leans on, in one: KwAddM, CredApp. -/
import Derived.Test.YtjaplnainlbldaaSc12
import Derived.Test.YtjaplnainlbldaaSc13
import Derived.Test.YtjaplnainlbldaaSc5
/- A fact more: the map of places, from its entry to its store. -/
namespace Go.Proofs.Ytjaplnainlbldaa
open Go.RowKit Go.Maps Go.ChangeMaps Go.WideMaps

/-- Operation e writes, m writes behind it and its slot t tells what, n writes behind all that stand ahead of it. -/
structure Trio (e m n : Nat) (t : Tmp) (F0 F1 : World → Prop) (F2 : Value → World → Prop) (F3 : World → Prop) (L : Nat → Bool) (a : Act) (w : World) : Prop where
  size : t < a.tmps.size
  all : L n = true → ∀ j, j < n → L j = true
  em : L m = true → L e = true
  p0 : L e = false → F0 w
  p1 : L e = true → L m = false → F1 w
  p2 : L m = true → L n = false → ∃ v, a.tmps[t]? = some v ∧ F2 v w
  p3 : L n = true → F3 w

section
variable {e m n : Nat} {t : Tmp} {F0 F1 : World → Prop} {F2 : Value → World → Prop} {F3 : World → Prop} {L : Nat → Bool} {a : Act} {w w' : World}

theorem Trio.start (hs : t < a.tmps.size) (h : F0 w) : Trio e m n t F0 F1 F2 F3 (fun _ => false) a w := ⟨hs, fun h => (by cases h), fun h => (by cases h), fun _ => h, fun h => (by cases h), fun h => (by cases h), fun h => (by cases h)⟩

theorem Trio.not (h : Trio e m n t F0 F1 F2 F3 L a w) {j : Nat} (hj : j < n) (hl : L j = false) : L n = false := by
  cases hn : L n with
  | false => rfl
  | true => rw [h.all hn j hj] at hl; cases hl

theorem Trio.early (h : Trio e m n t F0 F1 F2 F3 L a w) {j : Nat} (hj : j < n) (hl : L j = false) {B : World → Prop} (h0 : ∀ w, F0 w → B w) (h1 : ∀ w, F1 w → B w) (h2 : ∀ v w, F2 v w → B w) : B w := by
  have hn := h.not hj hl
  cases he : L e with
  | false => exact h0 _ (h.p0 he)
  | true =>
    cases hm : L m with
    | false => exact h1 _ (h.p1 he hm)
    | true => obtain ⟨v, _, hv⟩ := h.p2 hm hn; exact h2 _ _ hv

theorem Trio.step (h : Trio e m n t F0 F1 F2 F3 L a w) {j : Nat} {d : Option Tmp} (v : Value) (hj : j ≠ e ∧ j ≠ m ∧ j ≠ n ∧ d ≠ some t) (hc : Chg (fun _ => False) w w') (k0 : ∀ w w', F0 w → Chg (fun _ => False) w w' → F0 w') (k1 : ∀ w w', F1 w → Chg (fun _ => False) w w' → F1 w') (k2 : ∀ u w w', F2 u w → Chg (fun _ => False) w w' → F2 u w') (k3 : ∀ w w', F3 w → Chg (fun _ => False) w w' → F3 w') :
    Trio e m n t F0 F1 F2 F3 (upd L j) (a.put d v) w' := by
  obtain ⟨j0, j1, j2, j3⟩ := hj
  have ee : upd L j e = L e := upd_ne (fun x => j0 x.symm)
  have em : upd L j m = L m := upd_ne (fun x => j1 x.symm)
  have en : upd L j n = L n := upd_ne (fun x => j2 x.symm)
  refine ⟨by rw [put_size]; exact h.size, fun hn i hi => upd_mono (h.all (by rw [← en]; exact hn) i hi), fun hm => by rw [ee]; exact h.em (by rw [← em]; exact hm), fun he => k0 _ _ (h.p0 (by rw [← ee]; exact he)) hc, fun he hm => k1 _ _ (h.p1 (by rw [← ee]; exact he) (by rw [← em]; exact hm)) hc, fun hm hn => ?_, fun hn => k3 _ _ (h.p3 (by rw [← en]; exact hn)) hc⟩
  obtain ⟨u, h1, h2⟩ := h.p2 (by rw [← em]; exact hm) (by rw [← en]; exact hn)
  exact ⟨u, put_tmps h1 j3, k2 _ _ _ h2 hc⟩

theorem Trio.zeroth (h : Trio e m n t F0 F1 F2 F3 L a w) (hen : e < n) (hem : e ≠ m) (hl : L e = false) {d : Option Tmp} {v : Value} (hF : F1 w') : Trio e m n t F0 F1 F2 F3 (upd L e) (a.put d v) w' := by
  have hn := h.not hen hl
  have hm : L m = false := by
    cases hm : L m with
    | false => rfl
    | true => rw [h.em hm] at hl; cases hl
  have en : upd L e n = L n := upd_ne (by omega)
  have em : upd L e m = L m := upd_ne (fun x => hem x.symm)
  exact ⟨by rw [put_size]; exact h.size, fun h' => (by rw [en, hn] at h'; cases h'), fun h' => (by rw [em, hm] at h'; cases h'), fun h' => (by rw [upd_self] at h'; cases h'), fun _ _ => hF, fun h' => (by rw [em, hm] at h'; cases h'), fun h' => (by rw [en, hn] at h'; cases h')⟩

theorem Trio.first (h : Trio e m n t F0 F1 F2 F3 L a w) (hmn : m < n) (hem : e ≠ m) (he : L e = true) (hl : L m = false) {v : Value} (hF : F2 v w') : Trio e m n t F0 F1 F2 F3 (upd L m) (a.put (some t) v) w' := by
  have hn := h.not hmn hl
  have en : upd L m n = L n := upd_ne (by omega)
  have ee : upd L m e = L e := upd_ne hem
  refine ⟨by rw [put_size]; exact h.size, fun h' => (by rw [en, hn] at h'; cases h'), fun _ => by rw [ee]; exact he, fun h' => (by rw [ee, he] at h'; cases h'), fun _ h' => (by rw [upd_self] at h'; cases h'), fun _ _ => ⟨v, ?_, hF⟩, fun h' => (by rw [en, hn] at h'; cases h')⟩
  simp [Act.put, h.size]

theorem Trio.second (h : Trio e m n t F0 F1 F2 F3 L a w) (hen : e < n) (hmn : m < n) (hall : ∀ j, j < n → L j = true) {d : Option Tmp} {v : Value} (hF : F3 w') : Trio e m n t F0 F1 F2 F3 (upd L n) (a.put d v) w' := by
  refine ⟨by rw [put_size]; exact h.size, fun _ j hj => upd_mono (hall j hj), fun _ => upd_mono (hall e hen), fun h' => ?_, fun _ h' => ?_, fun _ h' => (by rw [upd_self] at h'; cases h'), fun _ => hF⟩
  · rw [upd_mono (hall e hen)] at h'
    cases h'
  · rw [upd_mono (hall m hmn)] at h'
    cases h'
end

/-- What the region's reads see. -/
def BaseK (g A : Nat) (f : FactB) (v : Value) (m1 m2 : Nat) (w : World) : Prop :=
  w.heap[g]? = some (.cells #[v, .map (some m1), .map (some m2)] 152 (0, 0)) ∧ w.heap[A]? = some (.cells (factBox f) 26 (0, 0))
theorem BaseK.keep {S : Nat → Prop} {g A : Nat} {f : FactB} {v : Value} {m1 m2 : Nat} {w w' : World} (h : BaseK g A f v m1 m2 w) (hc : Chg S w w') (hg : ¬ S g) (hA : ¬ S A) : BaseK g A f v m1 m2 w' := ⟨blk_keep h.1 hc hg, blk_keep h.2 hc hA⟩
theorem BaseK.fact {g A : Nat} {f : FactB} {v : Value} {m1 m2 : Nat} {w : World} (h : BaseK g A f v m1 m2 w) : w.cell? ⟨A, 0, none⟩ = some (.string ⟨f.1.1.toArray⟩) ∧ w.cell? ⟨A, 1, none⟩ = some (.string ⟨f.1.2.toArray⟩) ∧ w.cell? ⟨A, 2, none⟩ = some (.string ⟨f.2.toArray⟩) := ⟨cell_blk h.2 0, cell_blk h.2 1, cell_blk h.2 2⟩
theorem BaseK.parts {g A : Nat} {f : FactB} {v : Value} {m1 m2 : Nat} {w : World} (h : BaseK g A f v m1 m2 w) : w.cell? ⟨g, 0, none⟩ = some v ∧ w.cell? ⟨g, 1, none⟩ = some (.map (some m1)) ∧ w.cell? ⟨g, 2, none⟩ = some (.map (some m2)) := ⟨cell_blk h.1 0, cell_blk h.1 1, cell_blk h.1 2⟩

/-- A new row of one fact. -/
def SpecR.exF (T : Nat → Option KTag) (f : FactB) : SpecR (Chg (fun b => T b ≠ none)) :=
  ⟨fun v w => ∃ b, v = .slice (some ⟨b, 0, none⟩) 1 1 ∧ w.heap[b]? = some (.cells (factBox f) 26 (0, 0)) ∧ T b = none, fun _ _ _ hc ⟨b, h1, h2, h3⟩ => ⟨b, h1, blk_keep h2 hc (fun h => h h3), h3⟩⟩
/-- A new row of one place. -/
def SpecR.exI (T : Nat → Option KTag) (n : Int) : SpecR (Chg (fun b => T b ≠ none)) :=
  ⟨fun v w => ∃ b, v = .slice (some ⟨b, 0, none⟩) 1 1 ∧ w.heap[b]? = some (.cells #[.int .i64 n] 3 (0, 0)) ∧ T b = none, fun _ _ _ hc ⟨b, h1, h2, h3⟩ => ⟨b, h1, blk_keep h2 hc (fun h => h h3), h3⟩⟩
theorem tag_new {T : Nat → Option KTag} {w w1 : World} (hlo : ∀ b, T b ≠ none → b < w1.heap.size) (hs : w1.heap.size ≤ w.heap.size) : T w.heap.size = none := by
  cases e : T w.heap.size with
  | none => rfl
  | some x => have := hlo _ (by rw [e]; simp); omega

/-- The second map's turn comes. -/
def RowA (T : Nat → Option KTag) (w : World) (g : Nat) (F : List FactB) (f : FactB) (v : Value) (m1 m2 : Nat) (Sl : RoleB → Option Value) (w' : World) : Prop := KParts T w' g (F ++ [f]) (F ++ [f]) F v m1 m2 Sl ∧ Chg (fun b => T b ≠ none) w w'

/-- The map has its entry. -/
def EntF1 (w : World) (m2 : Nat) (o1 : Obj) (w' : World) : Prop := Chg (· = m2) w w' ∧ w'.heap[m2]? = some o1
/-- The row has grown. -/
def EntF2 (w : World) (m2 : Nat) (o1 : Obj) (u : Value) (ps : List Nat) (v' : Value) (w' : World) : Prop :=
  OwnI 0 w' v' ps ∧ w'.heap[m2]? = some o1 ∧ Chg (fun i => i = m2 ∨ u.ownBlock = some i) w w' ∧ (v'.ownBlock = u.ownBlock ∨ ∃ b, v'.ownBlock = some b ∧ w.heap.size ≤ b)
/-- It is stored. -/
def EntF3 (T : Nat → Option KTag) (w : World) (g : Nat) (Fr : List FactB) (w' : World) : Prop := ∃ T' v m1 m2 Sl, KParts T' w' g Fr Fr Fr v m1 m2 Sl ∧ ExtT T T' w w' ∧ Chg (fun b => T b ≠ none) w w'

section
variable {T : Nat → Option KTag} {w : World} {g : Nat} {F : List FactB} {f : FactB} {v : Value} {m1 m2 : Nat} {Sl : RoleB → Option Value}

theorem EntF1.quiet {o1 : Obj} {w' w2 : World} (h : EntF1 w m2 o1 w') (hc : Chg (fun _ => False) w' w2) : EntF1 w m2 o1 w2 := ⟨h.1.trans hc (fun _ _ h => h.elim), blk_keep h.2 hc id⟩
theorem EntF2.quiet {o1 : Obj} {u x : Value} {ps : List Nat} {w' w2 : World} (h : EntF2 w m2 o1 u ps x w') (hc : Chg (fun _ => False) w' w2) : EntF2 w m2 o1 u ps x w2 := ⟨h.1.keep hc (fun _ _ => id), blk_keep h.2.1 hc id, h.2.2.1.trans hc (fun _ _ h => h.elim), h.2.2.2⟩
theorem EntF3.quiet {Fr : List FactB} {w' w2 : World} (h : EntF3 T w g Fr w') (hc : Chg (fun _ => False) w' w2) : EntF3 T w g Fr w2 := by
  obtain ⟨T', v', a, b, s, h1, h2, h3⟩ := h
  exact ⟨T', v', a, b, s, h1.keep hc (fun _ _ => id), h2.up hc.size, h3.trans hc (fun _ _ h => h.elim)⟩

theorem mRoleLaw : KeyLaw Try.prog 24 := deep_law_laid Try.laidOut (m := 4) (by omega) mRoleBelow (by kernel_rfl) (by rw [Try.underlying24])

theorem KParts.entry (h : KParts T w g (F ++ [f]) (F ++ [f]) F v m1 m2 Sl) (hlo : ∀ b, T b ≠ none → b < w.heap.size) (hn : F.length < 33554432) (hr : ktR.ok f.1) :
    ∃ (u : Value) (st : Nat) (o1 : Obj), OwnI 0 w u (placesK F f.1) ∧ (∀ b, u.ownBlock = some b → T b = some (.role f.1)) ∧
      (∀ w', Chg (fun _ => False) w w' → ∃ w1, (Instr.mapEntry 83 (.map (some m2)) (.agg #[.string ⟨f.1.1.toArray⟩, .string ⟨f.1.2.toArray⟩])).run Try.prog w' = .ok (.tuple #[u, goInt st]) w1 ∧ EntF1 w m2 o1 w1 ∧ Chg (fun b => T b ≠ none) w' w1) ∧
      (∀ w' b (ty : TypeId), EntF1 w m2 o1 w' → w'.heap[b]? = some (.cells #[.int .i64 (F.length : Nat)] 3 (0, 0)) → ∃ v' w1, (Builtin.append_ #[156, 156] ty #[u, .slice (some ⟨b, 0, none⟩) 1 1]).run Try.prog w' = .ok v' w1 ∧ EntF2 w m2 o1 u (placesK F f.1 ++ [F.length]) v' w1 ∧ Chg (fun b => T b ≠ none) w' w1) ∧
      (∀ w' v', EntF2 w m2 o1 u (placesK F f.1 ++ [F.length]) v' w' → ∃ w1, (Instr.entryStore 83 (.map (some m2)) (goInt st) v').run Try.prog w' = .ok () w1 ∧ EntF3 T w g (F ++ [f]) w1 ∧ Chg (fun b => T b ≠ none) w' w1) := by
  obtain ⟨st, o1, hE⟩ := h.kof.entry2 (t := 83) (e := 156) (a := f.1) mRoleLaw Try.underlying83 (z := .slice none 0 0) mZeroOf (by omega) hr
  have hT2 : T m2 ≠ none := by rw [h.t2]; simp
  obtain ⟨u, hu⟩ : ∃ u, u = (Sl f.1).getD (.slice none 0 0) := ⟨_, rfl⟩
  have hU : OwnI 0 w u (placesK F f.1) ∧ ∀ b, u.ownBlock = some b → T b = some (.role f.1) := by
    cases hs : Sl f.1 with
    | none =>
      rw [hu, hs, h.noS f.1 hr hs]
      exact ⟨OwnI.nil _ _, fun b hb => (by cases hb)⟩
    | some x =>
      rw [hu, hs]
      exact h.isS f.1 x hr hs
  have hlen := placesK_len F f.1
  refine ⟨u, st, o1, hU.1, hU.2, fun w' hc => ?_, fun w' b ty hw' hb => ?_, fun w' v' hw' => ?_⟩
  · obtain ⟨w1, h1, h2, h3⟩ := (hE w' (hc.block m2 h.kof.lt id)).1
    refine ⟨w1, by rw [hu]; exact h1, ⟨hc.none9.trans h2 (fun _ _ h => h), h3⟩, h2.mono (fun i _ hi => by rw [hi]; exact hT2)⟩
  · have hu2 : OwnI 0 w' u (placesK F f.1) := hU.1.keep hw'.1 (fun k hk e => by have := hU.2 k hk; rw [e, h.t2] at this; cases this)
    obtain ⟨v', w1, h1, h2, h3, h4⟩ := run_append_int ty hu2 hb (by omega) (Nat.zero_le _)
    refine ⟨v', w1, h1, ⟨h2, blk_keep hw'.2 h3 (fun e => by have := hU.2 _ e; rw [h.t2] at this; cases this), ?_, h4.imp id (fun e => ⟨_, e, hw'.1.size⟩)⟩, h3.mono (fun i _ hi => by rw [hU.2 i hi]; simp)⟩
    exact (hw'.1.mono (fun i _ hi => .inl hi)).trans h3 (fun i _ hi => .inr hi)
  · obtain ⟨g1, g2, g3, g4⟩ := hw'
    obtain ⟨w1, h1, h2, h3⟩ := (hE w rfl).2 w' v' g2
    have hall : Chg (fun b => T b ≠ none) w w1 := (g3.mono (fun i _ hi => by
      rcases hi with hi | hi
      · rw [hi]; exact hT2
      · rw [hU.2 i hi]; simp)).trans (h2.mono (fun i _ hi => by rw [hi]; exact hT2)) (fun _ _ h => h)
    obtain ⟨T', t1, t2, t3⟩ := ext_row (t := .role f.1) hlo (w' := w') g3.size hU.2 g4 (fun b hb => (g1.blt hb).2)
    have told : ∀ {i : Nat} {t : KTag}, T i = some t → T' i = some t := fun hi => by rw [t1.old _ (by rw [hi]; simp), hi]
    have kk : ∀ {i : Nat} {t : KTag}, T i = some t → t ≠ .of → t ≠ .role f.1 → ¬ (i = m2 ∨ u.ownBlock = some i) := fun hi ha hb e => by
      rcases e with e | e
      · rw [e, h.t2] at hi; cases hi; exact ha rfl
      · rw [hU.2 _ e] at hi; cases hi; exact hb rfl
    have k2 : ∀ {i : Nat} {t : KTag}, T i = some t → t ≠ .of → i ≠ m2 := fun hi ha e => by rw [e, h.t2] at hi; cases hi; exact ha rfl
    have hv2 : ∀ k, v'.ownBlock = some k → k ≠ m2 := fun k hk e => by subst e; have := told h.t2; rw [t2 k hk] at this; cases this
    refine ⟨w1, h1, ⟨T', v, m1, m2, putF Sl f.1 v', ⟨?_, told h.tg, told h.t1, told h.t2, ?_, fun b hb => told (h.trow b hb), ?_, ?_, ?_, ?_⟩, t1.up h2.size, hall⟩, h2.mono (fun i _ hi => by rw [hi]; exact hT2)⟩
    · exact blk_keep (blk_keep h.blk g3 (kk h.tg (by simp) (by simp))) h2 (k2 h.tg (by simp))
    · exact (h.row.keep g3 (fun k hk => kk (h.trow k hk) (by simp) (by simp))).keep h2 (fun k hk => k2 (h.trow k hk) (by simp))
    · exact (h.kat.keep g3 (kk h.t1 (by simp) (by simp))).keep h2 (k2 h.t1 (by simp))
    · rw [List.length_append]; exact h3
    · intro r hrr hs
      unfold putF at hs
      rw [placesK_snoc]
      by_cases e : r = f.1
      · rw [if_pos e] at hs; cases hs
      · rw [if_neg e] at hs
        rw [if_neg (fun x => e x.symm)]
        exact h.noS r hrr hs
    · intro r x hrr hs
      unfold putF at hs
      rw [placesK_snoc]
      by_cases e : r = f.1
      · subst e
        rw [if_pos rfl] at hs
        cases hs
        rw [if_pos rfl]
        exact ⟨g1.keep h2 (fun k hk e => hv2 k hk e), t2⟩
      · rw [if_neg e] at hs
        rw [if_neg (fun x => e x.symm)]
        obtain ⟨q1, q2⟩ := h.isS r x hrr hs
        refine ⟨(q1.keep g3 (fun k hk => kk (q2 k hk) (by simp) (by simpa using e))).keep h2 (fun k hk => k2 (q2 k hk) (by simp)), fun b hb => told (q2 b hb)⟩
end
end Go.Proofs.Ytjaplnainlbldaa

/- append of a list of credentials, onto a row of the call's own. -/
namespace Go.Proofs.Ytjaplnainlbldaa
open Go.RowKit

theorem cred_one8 (x : CredB) : ∀ u ∈ credCells x, u.oneCell' = true := by
  intro u hu
  simp only [credCells, List.mem_cons, List.not_mem_nil, or_false] at hu
  rcases hu with rfl | rfl | rfl | rfl | rfl | rfl | rfl | rfl | rfl <;> rfl

theorem chg_drew_alloc (w : World) (o : Obj) : Chg (fun _ => False) w (w.drew.alloc o) := by
  have h : Chg (fun _ => False) w w.drew := (Chg.refl _ w).drew
  exact h.alloc o

end Go.Proofs.Ytjaplnainlbldaa
