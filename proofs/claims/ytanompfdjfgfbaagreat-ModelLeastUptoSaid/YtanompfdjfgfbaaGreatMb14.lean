/- Texts that the proof leans on, in one: PmState, PmEnterM, PmApp, PmMEnter, LastW, RegD, PmPut. -/
import Derived.Test.YtanompfdjfgfbaaGreatMb13
import Derived.Maps.AppendAt
import Derived.Test.YtanompfdjfgfbaaGreatMb3
/- The program's model as it lies in memory. -/
namespace Go.Proofs.YtanompfdjfgfbaaGreat
open Go.RowKit Go.Maps

/-- O' has what O has, and blocks that are new since w. -/
def Grew (O O' : Nat → Prop) (w : World) : Prop := ∀ i, O' i → O i ∨ w.heap.size ≤ i
theorem Grew.refl (O : Nat → Prop) (w : World) : Grew O O w := fun _ h => .inl h
theorem Grew.trans {O O1 O2 : Nat → Prop} {w w1 : World} (h : Grew O O1 w) (k : Grew O1 O2 w1) (hs : w.heap.size ≤ w1.heap.size) : Grew O O2 w := fun i hi => by
  rcases k i hi with h1 | h1
  · exact h i h1
  · exact .inr (Nat.le_trans hs h1)
theorem Grew.not {O O' : Nat → Prop} {w : World} (h : Grew O O' w) {k : Nat} (hk : k < w.heap.size) (hn : ¬ O k) : ¬ O' k := fun e => by
  rcases h k e with h1 | h1
  · exact hn h1
  · omega
/-- What a call has changed, and then another one. -/
theorem Chg.step {O O1 : Nat → Prop} {w w1 w2 : World} (h : Chg O w w1) (hg : Grew O O1 w) (k : Chg O1 w1 w2) : Chg O w w2 := h.trans k (fun i hi h1 => by
  rcases hg i h1 with h2 | h2
  · exact h2
  · omega)
theorem Chg.stepK {K O O1 : Nat → Prop} {w w1 w2 : World} (h : Chg (fun i => O i ∧ ¬ K i) w w1) (hg : Grew O O1 w) (k : Chg (fun i => O1 i ∧ ¬ K i) w1 w2) : Chg (fun i => O i ∧ ¬ K i) w w2 := h.trans k (fun i hi h1 => by
  rcases hg i h1.1 with h2 | h2
  · exact ⟨h2, h1.2⟩
  · omega)
theorem Chg.up {K O : Nat → Prop} {w w' : World} (h : Chg (fun i => O i ∧ ¬ K i) w w') : Chg O w w' := h.mono (fun _ _ h => h.1)
theorem Chg.none {S : Nat → Prop} {w w' : World} (h : Chg (fun _ => False) w w') : Chg S w w' := h.mono (fun _ _ h => h.elim)

/-- The model in the block g has the facts F; R2, R3 say which credentials lean on which roles, and are linked by which words. All of its blocks are of O, those that aren't the facts' of K. -/
structure MS (K O : Nat → Prop) (w : World) (g : Nat) (F : List FactB) (n2 : Nat) (R2 : RoleB → CredB → Prop) (n3 : Nat) (R3 : List UInt8 → CredB → Prop) : Prop where
  ex : ∃ m1 m2 m3, ∃ O1 O2 O3 : Nat → Prop, w.heap[g]? = some (.cells #[.map (some m1), .map (some m2), .map (some m3)] 59 (0, 0)) ∧
    Sets ktR ktS O1 w m1 F.length (fun r s => (r, s) ∈ F) ∧ Sets ktR ktC O2 w m2 n2 R2 ∧ Sets ktS ktC O3 w m3 n3 R3 ∧
    (∀ i, O1 i → O i ∧ ¬ K i) ∧ (∀ i, O2 i → K i ∧ ¬ O3 i ∧ i ≠ g) ∧ (∀ i, O3 i → K i ∧ i ≠ g)
  og : K g
  ko : ∀ i, K i → O i
  lo : ∀ i, O i → i < w.heap.size

section
variable {K O S : Nat → Prop} {w w' : World} {g n2 n3 : Nat} {F : List FactB} {R2 : RoleB → CredB → Prop} {R3 : List UInt8 → CredB → Prop}

theorem MS.keep (h : MS K O w g F n2 R2 n3 R3) (hc : Chg S w w') (hs : ∀ i, O i → ¬ S i) : MS K O w' g F n2 R2 n3 R3 := by
  obtain ⟨⟨m1, m2, m3, O1, O2, O3, h0, h1, h2, h3, d1, d2, d3⟩, h4, hk, h5⟩ := h
  exact ⟨⟨m1, m2, m3, O1, O2, O3, blk_keep h0 hc (hs g (hk g h4)), h1.keep hc (fun i hi => hs i (d1 i hi).1), h2.keep hc (fun i hi => hs i (hk i (d2 i hi).1)), h3.keep hc (fun i hi => hs i (hk i (d3 i hi).1)), d1, d2, d3⟩, h4, hk, fun i hi => Nat.lt_of_lt_of_le (h5 i hi) hc.size⟩

theorem MS.quiet (h : MS K O w g F n2 R2 n3 R3) (hc : Chg (fun _ => False) w w') : MS K O w' g F n2 R2 n3 R3 := h.keep hc (fun _ _ => id)

/-- The facts grow. -/
theorem MS.facts {F' : List FactB} {m1 m2 m3 : Nat} {O1 O2 O3 O1' : Nat → Prop} (h0 : w.heap[g]? = some (.cells #[.map (some m1), .map (some m2), .map (some m3)] 59 (0, 0)))
    (h2 : Sets ktR ktC O2 w m2 n2 R2) (h3 : Sets ktS ktC O3 w m3 n3 R3) (d1 : ∀ i, O1 i → O i ∧ ¬ K i) (d2 : ∀ i, O2 i → K i ∧ ¬ O3 i ∧ i ≠ g) (d3 : ∀ i, O3 i → K i ∧ i ≠ g) (h4 : K g) (hk : ∀ i, K i → O i) (h5 : ∀ i, O i → i < w.heap.size)
    (hs : Sets ktR ktS O1' w' m1 F'.length (fun r s => (r, s) ∈ F')) (hg : Grew O1 O1' w) (hc : Chg O1 w w') (hlo : ∀ i, O1' i → i < w'.heap.size) :
    ∃ O', MS K O' w' g F' n2 R2 n3 R3 ∧ Grew O O' w ∧ Chg (fun i => O i ∧ ¬ K i) w w' := by
  have hne : ∀ i, O1' i → (O i ∨ w.heap.size ≤ i) ∧ ¬ K i := fun i hi => by
    rcases hg i hi with h | h
    · exact ⟨.inl (d1 i h).1, (d1 i h).2⟩
    · exact ⟨.inr h, fun e => by have := h5 i (hk i e); omega⟩
  refine ⟨fun i => O i ∨ O1' i, ⟨⟨m1, m2, m3, O1', O2, O3, blk_keep h0 hc (fun e => (d1 g e).2 h4), hs, h2.keep hc (fun i hi e => (d1 i e).2 (d2 i hi).1), h3.keep hc (fun i hi e => (d1 i e).2 (d3 i hi).1),
    fun i hi => ⟨.inr hi, (hne i hi).2⟩, d2, d3⟩, h4, fun i hi => .inl (hk i hi), fun i hi => ?_⟩, fun i hi => ?_, hc.mono (fun i _ hi => d1 i hi)⟩
  · rcases hi with hi | hi
    · exact Nat.lt_of_lt_of_le (h5 i hi) hc.size
    · exact hlo i hi
  · rcases hi with hi | hi
    · exact .inl hi
    · exact (hne i hi).1

/-- What leans grows. -/
theorem MS.leans {n2' : Nat} {R2' : RoleB → CredB → Prop} {m1 m2 m3 : Nat} {O1 O2 O3 O2' : Nat → Prop} (h0 : w.heap[g]? = some (.cells #[.map (some m1), .map (some m2), .map (some m3)] 59 (0, 0)))
    (h1 : Sets ktR ktS O1 w m1 F.length (fun r s => (r, s) ∈ F)) (h3 : Sets ktS ktC O3 w m3 n3 R3) (d1 : ∀ i, O1 i → O i ∧ ¬ K i) (d2 : ∀ i, O2 i → K i ∧ ¬ O3 i ∧ i ≠ g) (d3 : ∀ i, O3 i → K i ∧ i ≠ g) (h4 : K g) (hk : ∀ i, K i → O i) (h5 : ∀ i, O i → i < w.heap.size)
    (hs : Sets ktR ktC O2' w' m2 n2' R2') (hg : Grew O2 O2' w) (hc : Chg O2 w w') (hlo : ∀ i, O2' i → i < w'.heap.size) :
    ∃ K' O', MS K' O' w' g F n2' R2' n3 R3 ∧ Grew O O' w ∧ Chg O w w' := by
  have hne : ∀ i, O2' i → (O i ∨ w.heap.size ≤ i) ∧ ¬ O1 i ∧ ¬ O3 i ∧ i ≠ g := fun i hi => by
    rcases hg i hi with h | h
    · exact ⟨.inl (hk i (d2 i h).1), fun e => (d1 i e).2 (d2 i h).1, (d2 i h).2.1, (d2 i h).2.2⟩
    · exact ⟨.inr h, fun e => by have := h5 i (d1 i e).1; omega, fun e => by have := h5 i (hk i (d3 i e).1); omega, fun e => by have := h5 g (hk g h4); omega⟩
  refine ⟨fun i => K i ∨ O2' i, fun i => O i ∨ O2' i, ⟨⟨m1, m2, m3, O1, O2', O3, blk_keep h0 hc (fun e => (d2 g e).2.2 rfl), h1.keep hc (fun i hi e => (d1 i hi).2 (d2 i e).1), hs, h3.keep hc (fun i hi e => (d2 i e).2.1 hi),
    fun i hi => ⟨.inl (d1 i hi).1, fun e => ?_⟩, fun i hi => ⟨.inr hi, (hne i hi).2.2⟩, fun i hi => ⟨.inl (d3 i hi).1, (d3 i hi).2⟩⟩, .inl h4, fun i hi => hi.imp (hk i) id, fun i hi => ?_⟩, fun i hi => ?_, hc.mono (fun i _ hi => hk i (d2 i hi).1)⟩
  · rcases e with e | e
    · exact (d1 i hi).2 e
    · exact (hne i e).2.1 hi
  · rcases hi with hi | hi
    · exact Nat.lt_of_lt_of_le (h5 i hi) hc.size
    · exact hlo i hi
  · rcases hi with hi | hi
    · exact .inl hi
    · exact (hne i hi).1

/-- What is linked grows. -/
theorem MS.links {n3' : Nat} {R3' : List UInt8 → CredB → Prop} {m1 m2 m3 : Nat} {O1 O2 O3 O3' : Nat → Prop} (h0 : w.heap[g]? = some (.cells #[.map (some m1), .map (some m2), .map (some m3)] 59 (0, 0)))
    (h1 : Sets ktR ktS O1 w m1 F.length (fun r s => (r, s) ∈ F)) (h2 : Sets ktR ktC O2 w m2 n2 R2) (d1 : ∀ i, O1 i → O i ∧ ¬ K i) (d2 : ∀ i, O2 i → K i ∧ ¬ O3 i ∧ i ≠ g) (d3 : ∀ i, O3 i → K i ∧ i ≠ g) (h4 : K g) (hk : ∀ i, K i → O i) (h5 : ∀ i, O i → i < w.heap.size)
    (hs : Sets ktS ktC O3' w' m3 n3' R3') (hg : Grew O3 O3' w) (hc : Chg O3 w w') (hlo : ∀ i, O3' i → i < w'.heap.size) :
    ∃ K' O', MS K' O' w' g F n2 R2 n3' R3' ∧ Grew O O' w ∧ Chg O w w' := by
  have hne : ∀ i, O3' i → (O i ∨ w.heap.size ≤ i) ∧ ¬ O1 i ∧ ¬ O2 i ∧ i ≠ g := fun i hi => by
    rcases hg i hi with h | h
    · exact ⟨.inl (hk i (d3 i h).1), fun e => (d1 i e).2 (d3 i h).1, fun e => (d2 i e).2.1 h, (d3 i h).2⟩
    · exact ⟨.inr h, fun e => by have := h5 i (d1 i e).1; omega, fun e => by have := h5 i (hk i (d2 i e).1); omega, fun e => by have := h5 g (hk g h4); omega⟩
  refine ⟨fun i => K i ∨ O3' i, fun i => O i ∨ O3' i, ⟨⟨m1, m2, m3, O1, O2, O3', blk_keep h0 hc (fun e => (d3 g e).2 rfl), h1.keep hc (fun i hi e => (d1 i hi).2 (d3 i e).1), h2.keep hc (fun i hi e => (d2 i hi).2.1 e), hs,
    fun i hi => ⟨.inl (d1 i hi).1, fun e => ?_⟩, fun i hi => ⟨.inl (d2 i hi).1, fun e => (hne i e).2.2.1 hi, (d2 i hi).2.2⟩, fun i hi => ⟨.inr hi, (hne i hi).2.2.2⟩⟩, .inl h4, fun i hi => hi.imp (hk i) id, fun i hi => ?_⟩, fun i hi => ?_, hc.mono (fun i _ hi => hk i (d3 i hi).1)⟩
  · rcases e with e | e
    · exact (d1 i hi).2 e
    · exact (hne i e).2.1 hi
  · rcases hi with hi | hi
    · exact Nat.lt_of_lt_of_le (h5 i hi) hc.size
    · exact hlo i hi
  · rcases hi with hi | hi
    · exact .inl hi
    · exact (hne i hi).1
end

/-- Is a pair there? -/
theorem Sets.ask {α β : Type} [DecidableEq α] [DecidableEq β] {ko : KT α} {ki : KT β} {O : Nat → Prop} {w : World} {mb n : Nat} {rel : α → β → Prop} {t e t2 e2 : TypeId} (h : Sets ko ki O w mb n rel) (ht : Tryz.prog.underlying t = some (.map ko.ty e)) (hz : ∀ w, (zeroValue e).run Tryz.prog w = .ok (.map none) w)
    (ht2 : Tryz.prog.underlying t2 = some (.map ki.ty e2)) (hz2 : ∀ w, (zeroValue e2).run Tryz.prog w = .ok (.agg #[]) w) {a : α} (ha : ko.ok a) {x : β} (hx : ki.ok x) :
    ∃ (y : Option Nat) (b : Bool), (b = true ↔ rel a x) ∧ ∀ w', Chg (fun _ => False) w w' → (Instr.lookup t (.map (some mb)) (ko.val a) false).run Tryz.prog w' = .ok (.map y) w' ∧ (Instr.lookup t2 (.map y) (ki.val x) true).run Tryz.prog w' = .ok (.tuple #[.agg #[], .bool b]) w' := by
  rcases h.here ht hz ha with ⟨b, xs, h1, h2, h3, h4, h5, h6⟩ | ⟨h1, h2⟩
  · refine ⟨some b, decide (x ∈ xs), by simp [h5], fun w' hc => ⟨h6 w' hc.none, (h3.keep hc id).look ht2 (hz2 w') hx⟩⟩
  · refine ⟨none, false, ⟨fun h => (by cases h), fun h => absurd h (h1 x)⟩, fun w' hc => ⟨h2 w' hc.none, ?_⟩⟩
    have := Maps.look_nil (w := w') true ki.keyed ht2 (hz2 w') (ki.reads x hx)
    simpa using this

theorem mZeroIn (w : World) : (zeroValue 66).run Tryz.prog w = .ok (.map none) w := by kernel_rfl
theorem mZeroUn (w : World) : (zeroValue 68).run Tryz.prog w = .ok (.agg #[]) w := by kernel_rfl
theorem mZeroIc (w : World) : (zeroValue 95).run Tryz.prog w = .ok (.map none) w := by kernel_rfl

/-- Some block's first place. -/
def Spec.ptrE : Spec := ⟨fun v _ => ∃ b, v = .pointer (some ⟨b, 0, none⟩), fun _ _ _ _ h => h⟩

/-- What enter leaves. -/
def EntPost {α β : Type} (ko : KT α) (ki : KT β) (O : Nat → Prop) (m n : Nat) (rel : α → β → Prop) (a : α) (x : β) (w : World) (e : Ending) (w' : World) : Prop :=
  (rel a x ∧ e = .returned (.bool false) ∧ Chg (fun _ => False) w w') ∨
  (¬ rel a x ∧ e = .returned (.bool true) ∧ ∃ O', Sets ko ki O' w' m (n + 1) (fun a' z => rel a' z ∨ (a' = a ∧ z = x)) ∧ Grew O O' w ∧ Chg O w w' ∧ ∀ i, O' i → i < w'.heap.size)
end Go.Proofs.YtanompfdjfgfbaaGreat

/- The contract of enter at the model's members. -/
namespace Go.Proofs.YtanompfdjfgfbaaGreat
open Go.RowKit Go.Maps


set_option maxRecDepth 100000 in
set_option maxHeartbeats 1000000 in
theorem enter_m {O : Nat → Prop} (m n : Nat) (rel : RoleB → List UInt8 → Prop) (r : RoleB) (s : List UInt8) (w : World) (h : Sets ktR ktS O w m n rel) (hO : ∀ i, O i → i < w.heap.size) (hr : ktR.ok r) (hs : ktS.ok s) (hn : n < 4611686018427387904) :
    Calls Tryz.prog 79 #[.map (some m), .agg #[.string ⟨r.1.toArray⟩, .string ⟨r.2.toArray⟩], .string ⟨s.toArray⟩] w (EntPost ktR ktS O m n rel r s w) := by
  have hc1 : Chg (fun _ => False) w (w.alloc (.cells #[.string ⟨r.1.toArray⟩, .string ⟨r.2.toArray⟩] 24)) := (Chg.refl _ w).alloc _
  rcases h.here (t := 55) (e := 66) Tryz.underlying55 mZeroIn hr with ⟨b, xs, h1, h2, h3, h4, h5, h6⟩ | ⟨h1, h2⟩
  · have z1 := h6 _ hc1.none
    have z2 := (h3.keep hc1 id).look (t := 66) (e := 68) Tryz.underlying66 (mZeroUn _) hs
    simp only [ktR, ktS] at z1 z2
    by_cases hx : s ∈ xs
    · simp only [hx, decide_true] at z2
      have HH := hid (And.intro ((h5 s).1 hx) hc1)
      clear h h1 h2 h3 h4 h5 h6 hx hc1
      go_enter Tryz.func79, Tryz.ntmps79
      go_wp2
      go_ret
      exact .inl ⟨HH.out.1, rfl, HH.out.2.alloc _⟩
    · simp only [hx, decide_false] at z2
      have hc2 : Chg (fun _ => False) w ((w.alloc (.cells #[.string ⟨r.1.toArray⟩, .string ⟨r.2.toArray⟩] 24)).alloc (.cells #[] 68)) := hc1.alloc _
      have z3 := h6 _ hc2.none
      have h3' := h3.keep hc2 id
      have q1 : ∀ w : World, (binOp .eql 66 (.map (some b)) (.map none)).run Tryz.prog w = .ok (.bool false) w := fun w => run_eql_map_nil w _ _ _ _ Tryz.underlying66
      obtain ⟨w', z4, k1, k2⟩ := h3'.add (t := 66) (e := 68) Tryz.underlying66 (by omega) hs hx
      simp only [ktR, ktS] at z3 z4
      have HH := hid (And.intro hc2 (And.intro k1 k2))
      have HX := hid (And.intro h (And.intro h1 (And.intro h2 (And.intro h5 h6))))
      have HL := hid (And.intro h4 hx)
      clear h h1 h2 h3 h4 h5 h6 hx hc1 hc2 h3' k1 k2
      go_enter Tryz.func79, Tryz.ntmps79
      go_wp2
      go_ret
      obtain ⟨hc2, k1, k2⟩ := HH.out
      obtain ⟨h, h1, h2, h5, h6⟩ := HX.out
      obtain ⟨h4, hx⟩ := HL.out
      refine .inr ⟨fun e => hx ((h5 s).2 e), rfl, O, ?_, Grew.refl _ _, (hc2.none).trans k2 (fun i _ hi => by subst hi; exact h1), fun i hi => Nat.lt_of_lt_of_le (hO i hi) (Nat.le_trans hc2.size k2.size)⟩
      exact (h.keep hc2 (fun _ _ => id)).grow (t := 55) (e := 66) Tryz.underlying55 mZeroIn hr (fun w2 hc => h6 w2 (hc2.none.trans hc (fun _ _ h => h))) k2 k1 (fun z => by simp [h5 z]) (by simp; omega)
  · have z1 := h2 _ hc1.none
    have z2 := Maps.look_nil (w := w.alloc (.cells #[.string ⟨r.1.toArray⟩, .string ⟨r.2.toArray⟩] 24)) true ktS.keyed (t := 66) (e := 68) Tryz.underlying66 (mZeroUn _) (ktS.reads s hs)
    have hc2 : Chg (fun _ => False) w ((w.alloc (.cells #[.string ⟨r.1.toArray⟩, .string ⟨r.2.toArray⟩] 24)).alloc (.cells #[] 68)) := hc1.alloc _
    have hc3 : Chg (fun _ => False) w (((w.alloc (.cells #[.string ⟨r.1.toArray⟩, .string ⟨r.2.toArray⟩] 24)).alloc (.cells #[] 68)).alloc (.map #[] 0)) := hc2.alloc _
    have z3 := h2 _ hc2.none
    have q1 : ∀ w : World, (binOp .eql 66 (.map none) (.map none)).run Tryz.prog w = .ok (.bool true) w := fun w => run_eql_map_nil w _ _ _ _ Tryz.underlying66
    have hmm := @run_makeMap Tryz.prog
    obtain ⟨w4, z4, k1, k2, k3⟩ := h.new (ki := ktS) (t := 55) (e := 66) Tryz.underlying55 mZeroIn hr (by omega) (h2 w (Chg.refl _ _)) hO hc3 (b := w.heap.size + 1 + 1) (by omega)
    have hmO := h.top
    have hm := hO _ hmO
    have z5 := k2 w4 (Chg.refl _ _)
    have hsm := (smap_made ktS ((w.alloc (.cells #[.string ⟨r.1.toArray⟩, .string ⟨r.2.toArray⟩] 24)).alloc (.cells #[] 68)))
    have e9 : ((w.alloc (.cells #[.string ⟨r.1.toArray⟩, .string ⟨r.2.toArray⟩] 24)).alloc (.cells #[] 68)).heap.size = w.heap.size + 1 + 1 := by simp
    rw [e9] at hsm
    have hsm4 := hsm.keep k1 (by omega)
    obtain ⟨w5, z6, k4, k5⟩ := hsm4.add (t := 66) (e := 68) Tryz.underlying66 (by simp) hs (by simp)
    have hb1 : (w.alloc (.cells #[.string ⟨r.1.toArray⟩, .string ⟨r.2.toArray⟩] 24)).heap[w.heap.size]? = some (.cells #[.string ⟨r.1.toArray⟩, .string ⟨r.2.toArray⟩] 24 (0, 0)) := heap_alloc_new w _
    have hb3 := blk_keep hb1 (((Chg.refl (fun _ => False) _).alloc (.cells #[] 68)).alloc (.map #[] 0)) id
    have hb4 := blk_keep hb3 k1 (by omega)
    have c0 := cell_blk hb4 0
    have c1 := cell_blk hb4 1
    simp only [List.getElem?_toArray, List.getElem?_cons_zero, List.getElem?_cons_succ] at c0 c1
    simp only [ktR, ktS] at z1 z2 z3 z4 z5 z6
    have HH := hid (And.intro hc3 (And.intro k1 (And.intro k3 (And.intro k4 k5))))
    have HX := hid h1
    clear h h1 h2 hc1 hc2 hc3 k1 k2 k3 k4 k5 hsm hsm4 e9 hb1 hb3 hb4
    go_enter Tryz.func79, Tryz.ntmps79
    go_wp2
    go_ret
    obtain ⟨hc3, k1, k3, k4, k5⟩ := HH.out
    have s1 := hc3.size
    have s2 := k1.size
    have s3 := k5.size
    refine .inr ⟨HX.out s, rfl, _, k3 w5 s k5 (by simpa using k4), fun i hi => ?_, ?_, fun i hi => ?_⟩
    · rcases hi with hi | hi
      · exact .inl hi
      · exact .inr (by omega)
    · refine (hc3.none.trans k1 (fun i _ hi => by subst hi; assumption)).trans k5 (fun i hi e => by omega)
    · rcases hi with hi | hi
      · have := hO i hi; omega
      · have := k4.lt; omega
end Go.Proofs.YtanompfdjfgfbaaGreat

/- append of a list of facts, onto a row of the call's own that lies apart from the model. -/
namespace Go.Proofs.YtanompfdjfgfbaaGreat
open Go.RowKit

theorem factRow_one9 (ls : List FactB) : ∀ u ∈ factRow ls, u.oneCell' = true := by
  intro u hu
  unfold factRow at hu
  rw [List.mem_flatMap] at hu
  obtain ⟨x, _, hx⟩ := hu
  exact fact_one x u hx

theorem factRow_len9 (ls : List FactB) : (factRow ls).length = ls.length * 3 := by
  unfold factRow
  induction ls with
  | nil => rfl
  | cons x l ih => rw [List.flatMap_cons, List.length_append, ih, List.length_cons]; simp [factCells]; omega

theorem factRow_append9 (a b : List FactB) : factRow (a ++ b) = factRow a ++ factRow b := by simp [factRow]

theorem FactAt.cells9 {w : World} {b o : Nat} {c : FactB} (h : FactAt w b o c) : ∀ j, j < 3 → w.cell? ⟨b, o + j, none⟩ = (factCells c)[j]?
  | 0, _ => h.k0
  | 1, _ => h.k1
  | 2, _ => h.k2
  | j + 3, h => absurd h (by omega)

theorem factsAt_row {D : Nat → Prop} {w : World} {ad : Addr} {ls : List FactB} (hst : FactsAt D w (some ad) ls) (j : Nat) (u : Value) (hj : (factRow ls)[j]? = some u) : w.cell? (ad.add j) = some u := by
  have hjl : j < (factRow ls).length := (List.getElem?_eq_some_iff.1 hj).1
  rw [factRow_len9] at hjl
  have hq : j / 3 < ls.length := by omega
  obtain ⟨b, off, e, _, h3⟩ := hst (j / 3) hq
  cases e
  have h4 := h3.cells9 (j % 3) (by omega)
  have h5 := factRow_get ls (j / 3) (j % 3) hq (by omega)
  have h6 : j / 3 * 3 + j % 3 = j := by omega
  rw [h6] at h5
  rw [add_off, show off + j = off + j / 3 * 3 + j % 3 by omega, h4, ← h5]
  exact hj

theorem factsAt_none {D : Nat → Prop} {w : World} {ls : List FactB} (hst : FactsAt D w none ls) : ls = [] := by
  cases ls with
  | nil => rfl
  | cons y l => obtain ⟨_, _, e, _⟩ := hst 0 (by simp); cases e

/-- A row of facts of the call's own, apart from O. -/
structure Came (B : Nat) (O : Nat → Prop) (w : World) (v : Value) (cs : List FactB) : Prop where
  own : OwnF B w v cs
  ap : ∀ k, v.ownBlock = some k → ¬ O k

theorem Came.nil (B : Nat) (O : Nat → Prop) (w : World) : Came B O w (.slice none 0 0) [] := ⟨World.ownsRow_nil _ _ _ _, fun _ h => (by cases h)⟩

theorem OwnF.blt {B : Nat} {w : World} {v : Value} {ls : List FactB} (h : OwnF B w v ls) {k : Nat} (hk : v.ownBlock = some k) : B ≤ k ∧ k < w.heap.size := by
  rcases h.2 with ⟨hx', _⟩ | ⟨g, cap', cur, hx', hg, hh, _⟩
  · rw [hx'] at hk; cases hk
  · have hk2 : g = k := by rw [hx'] at hk; simpa [Value.ownBlock] using hk
    subst hk2
    exact ⟨hg, lt_blk hh⟩

theorem Came.keep {B : Nat} {O O' : Nat → Prop} {w w' : World} {v : Value} {cs : List FactB} (h : Came B O w v cs) (hc : Chg O w w') (hg : Grew O O' w) : Came B O' w' v cs :=
  ⟨h.own.keep hc h.ap, fun k hk => hg.not (h.own.blt hk).2 (h.ap k hk)⟩

theorem Came.quiet {B : Nat} {O : Nat → Prop} {w w' : World} {v : Value} {cs : List FactB} (h : Came B O w v cs) (hc : Chg (fun _ => False) w w') : Came B O w' v cs :=
  ⟨h.own.keep hc (fun _ _ => id), h.ap⟩

theorem Came.low {B A : Nat} {O : Nat → Prop} {w : World} {v : Value} {cs : List FactB} (h : Came B O w v cs) (hA : A ≤ B) : Came A O w v cs := ⟨h.own.low hA, h.ap⟩

/-- The facts of such a row, to be read; they lie apart from O. -/
theorem Came.facts {B : Nat} {O : Nat → Prop} {w : World} {v : Value} {cs : List FactB} (h : Came B O w v cs) : ∃ ao cap, v = .slice ao cs.length cap ∧ FactsAt (fun k => B ≤ k ∧ k < w.heap.size ∧ ¬ O k) w ao cs ∧ (ao = none → cap = 0) := by
  obtain ⟨ao, cap, rfl, hf, h0⟩ := h.own.facts
  refine ⟨ao, cap, rfl, fun i hi => ?_, h0⟩
  obtain ⟨b, off, e, hb, hf⟩ := hf i hi
  refine ⟨b, off, e, ⟨hb.1, hb.2, h.ap b ?_⟩, hf⟩
  subst e
  rcases h.own.2 with ⟨hx', h0⟩ | ⟨g, cap', cur, hx', _⟩
  · cases hx'
  · cases hx'; rfl

theorem wpList_append_facts {D O : Nat → Prop} {ops : Array Oper} {rest : List Oper} {o : Oper} {a : Act} {w : World} {Q : Exit → Act → World → Prop} (hgd : o.guard = none) (s x : Operand)
    (ho : o.op = .call { callee := .builtin .append, args := #[s, x], argTypes := #[29, 29] }) (B : Nat) (v : Value) (zs : List FactB) (hs : a.eval s = v) (hown : Came B O w v zs) (hO : ∀ i, O i → i < w.heap.size)
    (ao : Option Addr) (cp : Nat) (ls : List FactB) (hx : a.eval x = .slice ao ls.length cp) (hst : FactsAt D w ao ls) (h0 : ao = none → cp = 0)
    (hlen : zs.length + ls.length ≤ 33554432) (hB : B ≤ w.heap.size)
    (h : ∀ v' w', Came B O w' v' (zs ++ ls) → Chg (fun i => B ≤ i ∧ ¬ O i) w w' → wpList Tryz.prog ops Q rest (a.put o.dst v') w') : wpList Tryz.prog ops Q (o :: rest) a w := by
  obtain ⟨i0, hi, hz0, hz1, hz2⟩ := info_parts Tryz.info52
  cases hao : ao with
  | none =>
    subst hao
    have hl := factsAt_none hst
    subst hl
    have hcp := h0 rfl
    subst hcp
    exact wpList_append_own_none hgd s x 29 ho B 52 i0 3 Tryz.underlying29 hi v _ _ hs hown.own hx (h v w (by rw [List.append_nil]; exact hown) (Chg.refl _ _))
  | some ad =>
    subst hao
    refine wpList_append_own_at w hgd s x 29 ho B 52 i0 (.agg #[.string ⟨#[]⟩, .string ⟨#[]⟩, .string ⟨#[]⟩]) 3 48 Tryz.underlying29 hi hz0 hz1 hz2 rfl (by decide) v _ _ hs hown.own ad ls.length cp (factRow ls) hx (by rw [factRow_len9]) (fun j u hj => factsAt_row hst j u hj) (fun u hu => factRow_one9 ls u hu) (by unfold maxLen; omega) (by omega) hB ?_
    · intro v' w' hown' hgr _ hat
      refine h v' w' ⟨by unfold OwnF; rw [factRow_append9, List.length_append]; exact hown', fun k hk => ?_⟩ ((Chg.refl _ _).grown hgr (fun k hk _ => ⟨(hown.own.blt hk).1, hown.ap k hk⟩))
      rcases hat with e | e
      · exact hown.ap k (e ▸ hk)
      · rw [e] at hk
        cases hk
        intro hq
        have := hO _ hq
        omega

/-- A fact in a block of its own. -/
theorem fact_new (w : World) (q : FactB) : FactsAt (fun _ => True) (w.alloc (.cells #[.string ⟨q.1.1.toArray⟩, .string ⟨q.1.2.toArray⟩, .string ⟨q.2.toArray⟩] 52)) (some ⟨w.heap.size, 0, none⟩) [q] := fun i hi => by
  have : i = 0 := by simp at hi; omega
  subst this
  exact ⟨w.heap.size, 0, rfl, trivial, fact_at_blk (f := q) (heap_alloc_new w _)⟩
end Go.Proofs.YtanompfdjfgfbaaGreat

/- enter at the model's members, as the model has it. -/
namespace Go.Proofs.YtanompfdjfgfbaaGreat
open Go.RowKit Go.Maps

section
variable {K O : Nat → Prop} {w : World} {g n2 n3 : Nat} {F : List FactB} {R2 : RoleB → CredB → Prop} {R3 : List UInt8 → CredB → Prop}

theorem MS.enter_no (h : MS K O w g F n2 R2 n3 R3) (f : FactB) (hs : f.1.1.length ≤ 9223372036854775807 ∧ f.1.2.length ≤ 9223372036854775807 ∧ f.2.length ≤ 9223372036854775807) (hn : F.length < 4611686018427387904) (hf : f ∈ F) :
    ∃ m, w.cell? ⟨g, 0, none⟩ = some (.map (some m)) ∧ ∀ w', Chg (fun _ => False) w w' → Calls Tryz.prog 79 #[.map (some m), .agg #[.string ⟨f.1.1.toArray⟩, .string ⟨f.1.2.toArray⟩], .string ⟨f.2.toArray⟩] w' fun e w'' => e = .returned (.bool false) ∧ Chg (fun _ => False) w' w'' := by
  obtain ⟨⟨m1, m2, m3, O1, O2, O3, h0, h1, h2, h3, d1, d2, d3⟩, h4, hk, h5⟩ := h
  refine ⟨m1, cell_blk h0 0, fun w' hc => ?_⟩
  refine (enter_m m1 F.length _ f.1 f.2 w' (h1.keep hc (fun _ _ => id)) (fun i hi => Nat.lt_of_lt_of_le (h5 i (d1 i hi).1) hc.size) ⟨hs.1, hs.2.1⟩ hs.2.2 hn).mono ?_
  rintro e w'' (⟨_, h6, h7⟩ | ⟨h6, _⟩)
  · exact ⟨h6, h7⟩
  · exact absurd hf h6

/-- What a new fact leaves. -/
def MEntPost (K O : Nat → Prop) (g : Nat) (F : List FactB) (n2 : Nat) (R2 : RoleB → CredB → Prop) (n3 : Nat) (R3 : List UInt8 → CredB → Prop) (f : FactB) (w w' : World) : Prop :=
  ∃ O', MS K O' w' g (F ++ [f]) n2 R2 n3 R3 ∧ Grew O O' w ∧ Chg (fun i => O i ∧ ¬ K i) w w'

theorem MS.enter_yes (h : MS K O w g F n2 R2 n3 R3) (f : FactB) (hs : f.1.1.length ≤ 9223372036854775807 ∧ f.1.2.length ≤ 9223372036854775807 ∧ f.2.length ≤ 9223372036854775807) (hn : F.length < 4611686018427387904) (hf : f ∉ F) :
    ∃ m, w.cell? ⟨g, 0, none⟩ = some (.map (some m)) ∧ ∀ w', Chg (fun _ => False) w w' → Calls Tryz.prog 79 #[.map (some m), .agg #[.string ⟨f.1.1.toArray⟩, .string ⟨f.1.2.toArray⟩], .string ⟨f.2.toArray⟩] w' fun e w'' => e = .returned (.bool true) ∧ MEntPost K O g F n2 R2 n3 R3 f w' w'' ∧ Chg (fun i => O i ∧ ¬ K i) w' w'' := by
  obtain ⟨⟨m1, m2, m3, O1, O2, O3, h0, h1, h2, h3, d1, d2, d3⟩, h4, hk, h5⟩ := h
  refine ⟨m1, cell_blk h0 0, fun w' hc => ?_⟩
  refine (enter_m m1 F.length _ f.1 f.2 w' (h1.keep hc (fun _ _ => id)) (fun i hi => Nat.lt_of_lt_of_le (h5 i (d1 i hi).1) hc.size) ⟨hs.1, hs.2.1⟩ hs.2.2 hn).mono ?_
  rintro e w'' (⟨h6, _⟩ | ⟨_, h6, O1', h7, h8, h9, h10⟩)
  · exact absurd h6 hf
  · have hrel := h7.cong (rel' := fun r s => (r, s) ∈ F ++ [f]) (fun a x => by
      rw [List.mem_append, List.mem_singleton]
      refine or_congr Iff.rfl ⟨fun ⟨h1, h2⟩ => by rw [h1, h2], fun e => by rw [← e]; exact ⟨rfl, rfl⟩⟩)
    have hl : F.length + 1 = (F ++ [f]).length := by simp
    rw [hl] at hrel
    obtain ⟨O', q1, q2, q3⟩ := MS.facts (blk_keep h0 hc id) (h2.keep hc (fun _ _ => id)) (h3.keep hc (fun _ _ => id)) d1 d2 d3 h4 hk (fun i hi => Nat.lt_of_lt_of_le (h5 i hi) hc.size) hrel h8 h9 h10
    exact ⟨h6, ⟨O', q1, q2, q3⟩, q3⟩
end
end Go.Proofs.YtanompfdjfgfbaaGreat

/- A region that draws its order, whose last operation writes and leans on all that read: what is so amid it. -/
namespace Go.Proofs.YtanompfdjfgfbaaGreat
open Go.RowKit

/-- Till operation n has come up nothing that was there is turned, and it comes behind the first m; then F is so. -/
structure LastW (n m : Nat) (w0 : World) (F : World → Prop) (L : Nat → Bool) (w : World) : Prop where
  all : L n = true → ∀ j, j < m → L j = true
  pre : L n = false → Chg (fun _ => False) w0 w
  post : L n = true → F w

theorem LastW.start (n m : Nat) (w0 : World) (F : World → Prop) {w : World} (h : Chg (fun _ => False) w0 w) : LastW n m w0 F (fun _ => false) w := ⟨fun h => (by cases h), fun _ => h, fun h => (by cases h)⟩

theorem LastW.not {n m : Nat} {w0 : World} {F : World → Prop} {L : Nat → Bool} {w : World} (h : LastW n m w0 F L w) {j : Nat} (hj : j < m) (hl : L j = false) : L n = false := by
  cases hn : L n with
  | false => rfl
  | true => rw [h.all hn j hj] at hl; cases hl

theorem LastW.early {n m : Nat} {w0 : World} {F : World → Prop} {L : Nat → Bool} {w : World} (h : LastW n m w0 F L w) {j : Nat} (hj : j < m) (hl : L j = false) : Chg (fun _ => False) w0 w := h.pre (h.not hj hl)

theorem LastW.step {n m : Nat} {w0 : World} {F : World → Prop} {L : Nat → Bool} {w w' : World} (h : LastW n m w0 F L w) {j : Nat} (hj : j < m ∧ j ≠ n) (hl : L j = false) (hc : Chg (fun _ => False) w w') : LastW n m w0 F (upd L j) w' := by
  have hn := h.not hj.1 hl
  have e : upd L j n = false := by unfold upd; rw [if_neg (fun e => hj.2 e.symm)]; exact hn
  exact ⟨fun h' => (by rw [e] at h'; cases h'), fun _ => (h.pre hn).trans hc (fun _ _ h => h), fun h' => (by rw [e] at h'; cases h')⟩

theorem LastW.stay {n m : Nat} {w0 : World} {F : World → Prop} {L : Nat → Bool} {w : World} (h : LastW n m w0 F L w) {j : Nat} (hj : j ≠ n) : LastW n m w0 F (upd L j) w := by
  have e : upd L j n = L n := by unfold upd; rw [if_neg (fun e => hj e.symm)]
  refine ⟨fun h' i hi => ?_, fun h' => h.pre (by rw [← e]; exact h'), fun h' => h.post (by rw [← e]; exact h')⟩
  unfold upd
  split
  · rfl
  · exact h.all (by rw [← e]; exact h') i hi

theorem LastW.last {n m : Nat} {w0 : World} {F : World → Prop} {L : Nat → Bool} {w w' : World} (_ : LastW n m w0 F L w) (hall : ∀ j, j < m → L j = true) (hf : F w') : LastW n m w0 F (upd L n) w' := by
  have e : upd L n n = true := by unfold upd; rw [if_pos rfl]
  refine ⟨fun _ i hi => ?_, fun h' => (by rw [e] at h'; cases h'), fun _ => hf⟩
  unfold upd
  split
  · rfl
  · exact hall i hi
end Go.Proofs.YtanompfdjfgfbaaGreat

/- A rule for a region that draws its order, with a state: where an operation has come up, all that it leans on have. -/
namespace Go.Proofs.YtanompfdjfgfbaaGreat
open Go.RowKit

/-- Where an operation has come up, those that it leans on have. -/
def ClosedL (ops : Array Oper) (L : Nat → Bool) : Prop := ∀ (i : Nat) (o : Oper), ops[i]? = some o → L i = true → ∀ e ∈ o.after, Region.binds .any e = true → L e.on = true

theorem ClosedL.upd {ops : Array Oper} {L : Nat → Bool} (h : ClosedL ops L) {i : Nat} {o : Oper} (ho : ops[i]? = some o) (he : ∀ e ∈ o.after, Region.binds .any e = true → L e.on = true) : ClosedL ops (upd L i) := by
  have mono : ∀ j, L j = true → Proofs.YtanompfdjfgfbaaGreat.upd L i j = true := fun j hj => by
    unfold Proofs.YtanompfdjfgfbaaGreat.upd
    split
    · rfl
    · exact hj
  intro j p hp hj e hep hb
  by_cases hji : j = i
  · subst hji
    rw [ho] at hp
    cases hp
    exact mono _ (he e hep hb)
  · refine mono _ (h j p hp ?_ e hep hb)
    unfold Proofs.YtanompfdjfgfbaaGreat.upd at hj
    rwa [if_neg hji] at hj

def ObD (P : Program) (Q : Exit → Act → World → Prop) (S : World → World → Prop) (W : (Nat → Bool) → World → Prop) (G : Tmp → Value → World → Prop) (ops : Array Oper) (i : Nat) (g : Option (Tmp × Bool)) (o : Oper) : Prop :=
  ∀ (L : Nat → Bool) (a : Act) (w : World), L i = false → (∀ e ∈ o.after, Region.binds .any e = true → L e.on = true) → ClosedL ops L → W L w → (∀ t ∈ looks g o, Knows G a w t) →
    ∀ K : Act → World → Prop, (∀ v w', S w w' → W (upd L i) w' → Gd G o.dst v w' → K (a.put o.dst v) w') →
      match g with
      | none => o.wp P a w K Q
      | some (t, b) => if says b a.tmps[t]? = true then o.wp P a w K Q else K (a.put o.dst undef) w

inductive ObsD (P : Program) (Q : Exit → Act → World → Prop) (S : World → World → Prop) (W : (Nat → Bool) → World → Prop) (G : Tmp → Value → World → Prop) (ops : Array Oper) : Nat → List Oper → Prop
  | nil {n : Nat} : ObsD P Q S W G ops n []
  | cons {n : Nat} {o : Oper} {l : List Oper} (g : Option (Tmp × Bool)) (hg : gSlot ops o = g) (h : ObD P Q S W G ops n g o) (hs : ObsD P Q S W G ops (n + 1) l) : ObsD P Q S W G ops n (o :: l)

theorem ObsD.toL {P : Program} {Q : Exit → Act → World → Prop} {S : World → World → Prop} {W : (Nat → Bool) → World → Prop} {G : Tmp → Value → World → Prop} {ops : Array Oper} {n : Nat} {l : List Oper} (h : ObsD P Q S W G ops n l) :
    (∀ (k : Nat) (o : Oper), l[k]? = some o → ops[n + k]? = some o) → ObsL P Q S (fun L w => ClosedL ops L ∧ W L w) G ops n l := by
  induction h with
  | nil => exact fun _ => ObsL.nil
  | @cons n o l g hg h hs ih =>
    intro hl
    have ho : ops[n]? = some o := hl 0 o rfl
    refine ObsL.cons g hg ?_ (ih (fun k p hk => ?_))
    · intro L a w hi he hW hk K hK
      exact h L a w hi he hW.1 hW.2 hk K (fun v w' h1 h2 h3 => hK v w' h1 ⟨hW.1.upd ho he, h2⟩ h3)
    · rw [show n + 1 + k = n + (k + 1) from by omega]
      exact hl (k + 1) p hk

theorem wp_region_stateD {P : Program} {Q : Exit → Act → World → Prop} {id : Nat} {l : List Oper} {w0 : World} {a0 : Act} (S : World → World → Prop) (W : (Nat → Bool) → World → Prop) (G : Tmp → Value → World → Prop) (ds outs : List Tmp) (hm : P.follows .mixedOrders = true) (hok : regOk l.toArray ds = true)
    (hW : W (fun _ => false) w0.drew) (hG : ∀ t v w w', S w w' → G t v w → G t v w')
    (hsize : (ds.all fun t => decide (t < a0.tmps.size)) = true) (houts : ((outsOf l.toArray ds).all fun t => outs.contains t) = true)
    (hstart : ∀ t ∈ outs, Knows G a0 w0.drew t)
    (hobs : ObsD P Q S W G l.toArray 0 l)
    (hfin : ∀ (L : Nat → Bool) (vals : Tmp → Value) (w : World), (∀ i, i < l.length → L i = true) → W L w → (∀ t ∈ ds, G t (vals t) w) → Q .normal ⟨putAll vals ds a0.tmps, a0.defers⟩ w) :
    (Code.region id l.toArray true).wp P Q a0 w0 :=
  wp_region_state S (fun L w => ClosedL l.toArray L ∧ W L w) G ds outs hm hok ⟨fun _ _ _ h => (by cases h), hW⟩ hG hsize houts hstart (hobs.toL (fun k o hk => by rw [Nat.zero_add]; simpa using hk)) (fun L vals w h1 h2 h3 => hfin L vals w h1 h2.2 h3)

theorem ObD.plain {P : Program} {Q : Exit → Act → World → Prop} {S : World → World → Prop} {W : (Nat → Bool) → World → Prop} {G : Tmp → Value → World → Prop} {ops : Array Oper} {i : Nat} {o : Oper}
    (h : ∀ (L : Nat → Bool) (a : Act) (w : World), L i = false → (∀ e ∈ o.after, Region.binds .any e = true → L e.on = true) → ClosedL ops L → W L w → (∀ t ∈ looks none o, Knows G a w t) →
      ∀ K : Act → World → Prop, (∀ v w', S w w' → W (upd L i) w' → Gd G o.dst v w' → K (a.put o.dst v) w') → o.wp P a w K Q) : ObD P Q S W G ops i none o := h

/-- Does each operation ahead of n have one behind it, up to n? -/
def behindOk (ops : Array Oper) (n : Nat) : Bool :=
  (List.range n).all fun j => (List.range (n + 1)).any fun i => decide (j < i) && match ops[i]? with
    | none => false
    | some o => o.after.any fun e => Region.binds .any e && e.on == j

theorem behind_all {ops : Array Oper} {L : Nat → Bool} {n : Nat} {o : Oper} (hc : ClosedL ops L) (ho : ops[n]? = some o) (he : ∀ e ∈ o.after, Region.binds .any e = true → L e.on = true) (hb : behindOk ops n = true) : ∀ j, j < n → L j = true := by
  have key : ∀ d j, n - j ≤ d → j < n → L j = true := by
    intro d
    induction d with
    | zero => intro j h1 h2; omega
    | succ d ih =>
      intro j h1 h2
      have h3 := List.all_eq_true.1 hb j (List.mem_range.2 h2)
      obtain ⟨i, hi, h4⟩ := List.any_eq_true.1 h3
      simp only [Bool.and_eq_true, decide_eq_true_eq] at h4
      obtain ⟨hji, h5⟩ := h4
      have hin : i ≤ n := by have := List.mem_range.1 hi; omega
      cases hop : ops[i]? with
      | none => rw [hop] at h5; cases h5
      | some p =>
        rw [hop] at h5
        simp only [Array.any_eq_true, Bool.and_eq_true, beq_iff_eq] at h5
        obtain ⟨q, hq, h6, h7⟩ := h5
        have hm : p.after[q] ∈ p.after := Array.getElem_mem hq
        rw [← h7]
        by_cases e : i = n
        · subst e
          rw [ho] at hop
          cases hop
          exact he _ hm h6
        · exact hc i p hop (ih i (by omega) (by omega)) _ hm h6
  exact fun j hj => key (n - j) j (Nat.le_refl _) hj
end Go.Proofs.YtanompfdjfgfbaaGreat

/- Facts that are put in: those that weren't there are told. -/
namespace Go.Proofs.YtanompfdjfgfbaaGreat
open Go.RowKit Go.Maps

/-- What has been put in so far: v tells the new ones. -/
def PutI (K O : Nat → Prop) (g : Nat) (F : List FactB) (n2 : Nat) (R2 : RoleB → CredB → Prop) (n3 : Nat) (R3 : List UInt8 → CredB → Prop) (hs : List FactB) (w w' : World) (v : Value) : Prop :=
  ∃ cs O', Came w.heap.size O' w' v cs ∧ MS K O' w' g (F ++ cs) n2 R2 n3 R3 ∧ Grew O O' w ∧ Chg (fun i => O i ∧ ¬ K i) w w' ∧ (F ++ cs).Nodup ∧ ∀ f, f ∈ F ++ cs ↔ f ∈ F ∨ f ∈ hs

def PutPost (K O : Nat → Prop) (g : Nat) (F : List FactB) (n2 : Nat) (R2 : RoleB → CredB → Prop) (n3 : Nat) (R3 : List UInt8 → CredB → Prop) (hs : List FactB) (w : World) (e : Ending) (w' : World) : Prop :=
  ∃ v, e = .returned v ∧ PutI K O g F n2 R2 n3 R3 hs w w' v

set_option maxRecDepth 100000 in
set_option maxHeartbeats 2000000 in
theorem pput {K O D : Nat → Prop} (ls : List CredB) (g : Nat) (F : List FactB) {n2 n3 : Nat} {R2 : RoleB → CredB → Prop} {R3 : List UInt8 → CredB → Prop} (ao : Option Addr) (cp : Nat) (hs : List FactB) (w : World) (h : MS K O w g F n2 R2 n3 R3) (hl : ls.length ≤ 1000) (hnd : F.Nodup) (hF : ∀ f ∈ F, Der ls f) (hH : ∀ f ∈ hs, Der ls f)
    (hst : FactsAt D w ao hs) (hD : ∀ i, D i → ¬ O i ∧ i < w.heap.size) (hn : hs.length ≤ 4611686018427387904) :
    Calls Tryz.prog 55 #[.pointer (some ⟨g, 0, none⟩), .slice ao hs.length cp] w (PutPost K O g F n2 R2 n3 R3 hs w) := by
  have HM := hid (And.intro h (And.intro hnd (And.intro hF (And.intro hH (And.intro hst hD)))))
  have HLL := hid hl
  clear h hnd hF hH hst hD hl
  go_enter Tryz.func55, Tryz.ntmps55
  go_wp2
  go_loopw [5, 10] (fun v i wr => ∃ (k : Nat), k ≤ hs.length ∧ i = .int .i64 k ∧ PutI K O g F n2 R2 n3 R3 (hs.take k) w wr v) (fun _ i _ => hs.length - (intOf i).toNat)
  case atStart => exact ⟨0, Nat.zero_le _, rfl, [], O, Came.nil _ _ _, by rw [List.append_nil]; exact HM.out.1, Grew.refl _ _, Chg.refl _ _, by rw [List.append_nil]; exact HM.out.2.1, fun f => by simp⟩
  case round =>
    obtain ⟨k, hk, rfl, hI⟩ := hrel
    by_cases hlt : k < hs.length
    · obtain ⟨cs, O1, hcm, hms, hgr, hch, hnd, hmem⟩ := hI
      obtain ⟨hms0, hnd0, hF, hH, hst, hD⟩ := HM.out
      obtain ⟨b, off, hao, hDb, ⟨a0, a1, a2⟩⟩ := (hst.keep hch (fun i hi e => (hD i hi).1 e.1)) k hlt
      have hdq : Der ls hs[k] := hH _ (List.getElem_mem hlt)
      have hshort := der_short hdq
      have hlo := hms.lo
      have hder : ∀ f ∈ F ++ cs, Der ls f := fun f hf => by
        rcases (hmem f).1 hf with h | h
        · exact hF f h
        · exact hH f (List.mem_of_mem_take h)
      have hfew := der_few hnd hder HLL.out
      have htk : hs.take (k + 1) = hs.take k ++ [hs[k]] := List.take_succ_eq_append_getElem hlt
      generalize hs[k] = q at *
      have hw1 : Chg (fun _ => False) wr (wr.alloc (.cells #[.string ⟨q.1.1.toArray⟩, .string ⟨q.1.2.toArray⟩, .string ⟨q.2.toArray⟩] 52)) := (Chg.refl _ wr).alloc _
      have hms1 := hms.quiet hw1
      have hbx := heap_alloc_new wr (.cells #[.string ⟨q.1.1.toArray⟩, .string ⟨q.1.2.toArray⟩, .string ⟨q.2.toArray⟩] 52)
      have hbxO : ¬ O1 wr.heap.size := fun e => by have := hlo _ e; omega
      have HL := hid (show cs.length ≤ 4000000 from by simp at hfew; omega)
      subst hao
      by_cases hq : q ∈ F ++ cs
      · obtain ⟨m, hm0, hcall⟩ := hms1.enter_no q ⟨by omega, by omega, by omega⟩ (by omega) hq
        have HN : Hid (∀ w', Chg (fun _ => False) (wr.alloc (.cells #[.string ⟨q.1.1.toArray⟩, .string ⟨q.1.2.toArray⟩, .string ⟨q.2.toArray⟩] 52)) w' → PutI K O g F n2 R2 n3 R3 (hs.take (k + 1)) w w' u5) := hid (fun w' hc => by
          refine ⟨cs, O1, (hcm.quiet hw1).quiet hc, hms1.quiet hc, hgr, (hch.stepK hgr hw1.none).stepK hgr hc.none, hnd, fun f => ?_⟩
          rw [hmem f, htk, List.mem_append, List.mem_singleton]
          refine ⟨fun h => h.elim .inl (fun h => .inr (.inl h)), fun h => ?_⟩
          rcases h with h | h | h
          · exact .inl h
          · exact .inr h
          · rw [h]; exact (hmem q).1 hq)
        have x0 := cell_blk hbx 0
        have x1 := cell_blk hbx 1
        have x2 := cell_blk hbx 2
        simp only [List.getElem?_toArray, List.getElem?_cons_zero, List.getElem?_cons_succ] at x0 x1 x2
        have HX := hid (And.intro hm0 (And.intro x0 (And.intro x1 x2)))
        have HE := hid hcall
        clear hst hD hnd0 hF hH hms0 hcm hms hgr hch hnd hmem hdq hshort hlo hder hfew htk hw1 hms1 hbx hbxO hq hm0 hcall x0 x1 x2
        go_wp2_with fail
        clear a0 a1 a2
        generalize wr.alloc (.cells #[.string ⟨q.1.1.toArray⟩, .string ⟨q.1.2.toArray⟩, .string ⟨q.2.toArray⟩] 52) = w2 at *
        obtain ⟨A, hA⟩ : ∃ A, wr.heap.size = A := ⟨_, rfl⟩
        simp only [hA] at HX ⊢
        clear hA
        refine wp_region_stateD (Chg (fun i => O1 i ∧ ¬ K i)) (LastW 8 8 w2 (fun w' => Chg (fun _ => False) w2 w')) (specAtR [.eq (.pointer (some ⟨g, 0, none⟩)), .any, .any, .any, .any, .any, .any, .eq (.pointer (some ⟨A, 0, none⟩)), .any, .any, .any, .any, .any, .any, .eq (.pointer (some ⟨g, 0, none⟩)), .eq (.pointer (some ⟨g, 0, none⟩)), .eq (.pointer (some ⟨g, 0, none⟩)), .eq (.map (some m)), .eq (.pointer (some ⟨A, 0, none⟩)), .eq (.agg #[.string ⟨q.1.1.toArray⟩, .string ⟨q.1.2.toArray⟩]), .eq (.pointer (some ⟨A, 2, none⟩)), .eq (.string ⟨q.2.toArray⟩), .eq (.bool false), .any, .any, .any, .any, .any, .any]) [14, 15, 16, 17, 18, 19, 20, 21, 22] [0, 7] (by kernel_rfl) (by kernel_rfl) (LastW.start _ _ _ _ (Chg.refl _ _).drew) (fun t v w w' hc h => specAtR_st _ t v w w' hc h) (by rfl) (by kernel_rfl) ?start ?obs ?fin
        case start =>
          simp only [List.forall_mem_cons]; exact ⟨⟨_, rfl, rfl⟩, ⟨_, rfl, rfl⟩, fun _ h => by cases h⟩
        case obs =>
          clear HN HM HL HLL
          refine ObsD.cons none (by kernel_rfl) ?_ ?_
          · refine ObD.plain fun L a w hi he hD hW hk K k => ?_
            obtain ⟨_, e0, rfl⟩ := hk 0 (by decide)
            clear hk
            have hR := hW.early (by decide) hi
            have hS := hW.step (by decide) hi (Chg.refl _ _)
            clear hi he hW hD
            go_simp
            exact k _ _ (Chg.refl _ _) hS rfl
          refine ObsD.cons none (by kernel_rfl) ?_ ?_
          · refine ObD.plain fun L a w hi he hD hW hk K k => ?_
            obtain ⟨_, e14, rfl⟩ := hk 14 (by decide)
            clear hk
            have hR := hW.early (by decide) hi
            have hS := hW.step (by decide) hi (Chg.refl _ _)
            clear hi he hW hD
            go_simp
            exact k _ _ (Chg.refl _ _) hS rfl
          refine ObsD.cons none (by kernel_rfl) ?_ ?_
          · refine ObD.plain fun L a w hi he hD hW hk K k => ?_
            obtain ⟨_, e15, rfl⟩ := hk 15 (by decide)
            clear hk
            have hR := hW.early (by decide) hi
            have hS := hW.step (by decide) hi (Chg.refl _ _)
            clear hi he hW hD
            go_simp
            exact k _ _ (Chg.refl _ _) hS rfl
          refine ObsD.cons none (by kernel_rfl) ?_ ?_
          · refine ObD.plain fun L a w hi he hD hW hk K k => ?_
            obtain ⟨_, e16, rfl⟩ := hk 16 (by decide)
            clear hk
            have hR := hW.early (by decide) hi
            have hS := hW.step (by decide) hi (Chg.refl _ _)
            have zz := hR.cell HX.out.1 id
            clear hi he hW hD
            go_simp
            exact k _ _ (Chg.refl _ _) hS rfl
          refine ObsD.cons none (by kernel_rfl) ?_ ?_
          · refine ObD.plain fun L a w hi he hD hW hk K k => ?_
            obtain ⟨_, e7, rfl⟩ := hk 7 (by decide)
            clear hk
            have hR := hW.early (by decide) hi
            have hS := hW.step (by decide) hi (Chg.refl _ _)
            clear hi he hW hD
            go_simp
            exact k _ _ (Chg.refl _ _) hS rfl
          refine ObsD.cons none (by kernel_rfl) ?_ ?_
          · refine ObD.plain fun L a w hi he hD hW hk K k => ?_
            obtain ⟨_, e18, rfl⟩ := hk 18 (by decide)
            clear hk
            have hR := hW.early (by decide) hi
            have hS := hW.step (by decide) hi (Chg.refl _ _)
            have z0 := hR.cell HX.out.2.1 id
            have z1 := hR.cell HX.out.2.2.1 id
            clear hi he hW hD
            go_simp
            exact k _ _ (Chg.refl _ _) hS rfl
          refine ObsD.cons none (by kernel_rfl) ?_ ?_
          · refine ObD.plain fun L a w hi he hD hW hk K k => ?_
            obtain ⟨_, e7, rfl⟩ := hk 7 (by decide)
            clear hk
            have hR := hW.early (by decide) hi
            have hS := hW.step (by decide) hi (Chg.refl _ _)
            clear hi he hW hD
            go_simp
            exact k _ _ (Chg.refl _ _) hS rfl
          refine ObsD.cons none (by kernel_rfl) ?_ ?_
          · refine ObD.plain fun L a w hi he hD hW hk K k => ?_
            obtain ⟨_, e20, rfl⟩ := hk 20 (by decide)
            clear hk
            have hR := hW.early (by decide) hi
            have hS := hW.step (by decide) hi (Chg.refl _ _)
            have z2 := hR.cell HX.out.2.2.2 id
            clear hi he hW hD
            go_simp
            exact k _ _ (Chg.refl _ _) hS rfl
          refine ObsD.cons none (by kernel_rfl) ?_ ?_
          · refine ObD.plain fun L a w hi he hD hW hk K k => ?_
            obtain ⟨_, e17, rfl⟩ := hk 17 (by decide)
            obtain ⟨_, e19, rfl⟩ := hk 19 (by decide)
            obtain ⟨_, e21, rfl⟩ := hk 21 (by decide)
            clear hk
            have hR := hW.pre hi
            have hall := behind_all (n := 8) hD rfl he (by kernel_rfl)
            clear he hD
            have hq := HE.out w hR
            have HS := hid (And.intro hW hall)
            have HR := hid hR
            clear hi hW hall hR
            go_simp
            refine hq.mono ?_
            rintro e w5 ⟨rfl, hC⟩
            exact k _ _ hC.none (HS.out.1.last (w' := w5) HS.out.2 (HR.out.trans hC (fun _ _ h => h))) rfl
          exact ObsD.nil
        case fin =>
          intro L vals w9 hL hWL hv
          have HEND := hid (hWL.post (hL 8 (by decide)))
          clear hL hWL
          have h22 : vals 22 = .bool false := hv 22 (by decide)
          simp only [putAll, List.setIfInBounds_toArray, List.set_cons_zero, List.set_cons_succ, h22]
          clear h22 hv HX HE
          go_wp2
          go_roundw
          case rel => exact ⟨k + 1, by omega, by go_num, HN.out w9 HEND.out⟩
          case measure => simp [intOf]; omega
      · obtain ⟨m, hm0, hcall⟩ := hms1.enter_yes q ⟨by omega, by omega, by omega⟩ (by omega) hq
        have HN : Hid (∀ w8 w9, Chg (fun _ => False) (wr.alloc (.cells #[.string ⟨q.1.1.toArray⟩, .string ⟨q.1.2.toArray⟩, .string ⟨q.2.toArray⟩] 52)) w8 → MEntPost K O1 g (F ++ cs) n2 R2 n3 R3 q w8 w9 → ∃ O2 : Nat → Prop, w.heap.size ≤ w9.heap.size ∧ (∀ i, O2 i → i < w9.heap.size) ∧ Came w.heap.size O2 w9 u5 cs ∧ w9.cell? ⟨wr.heap.size, 0, none⟩ = some (.string ⟨q.1.1.toArray⟩) ∧ w9.cell? ⟨wr.heap.size, 1, none⟩ = some (.string ⟨q.1.2.toArray⟩) ∧ w9.cell? ⟨wr.heap.size, 2, none⟩ = some (.string ⟨q.2.toArray⟩) ∧
            ∀ v' w3, Came w.heap.size O2 w3 v' (cs ++ [q]) → Chg (fun i => w.heap.size ≤ i ∧ ¬ O2 i) (w9.alloc (.cells #[.string ⟨q.1.1.toArray⟩, .string ⟨q.1.2.toArray⟩, .string ⟨q.2.toArray⟩] 52)) w3 → PutI K O g F n2 R2 n3 R3 (hs.take (k + 1)) w w3 v') := hid (fun w8 w9 hc8 hP => by
          obtain ⟨O2, p1, p2, p3⟩ := hP
          have hc18 := hw1.trans hc8 (fun _ _ h => h)
          have hc9 : Chg (fun i => O1 i ∧ ¬ K i) wr w9 := hc18.none.trans p3 (fun _ _ h => h)
          have hg2 : Grew O1 O2 wr := fun i hi => (p2 i hi).imp id (fun h => Nat.le_trans hc18.size h)
          have hb9 := blk_keep (blk_keep hbx hc8 id) p3 (fun e => hbxO e.1)
          refine ⟨O2, Nat.le_trans hch.size hc9.size, p1.lo, hcm.keep hc9.up hg2, cell_blk hb9 0, cell_blk hb9 1, cell_blk hb9 2, fun v' w3 hv' hc3 => ?_⟩
          have hwa : Chg (fun _ => False) w9 (w9.alloc (.cells #[.string ⟨q.1.1.toArray⟩, .string ⟨q.1.2.toArray⟩, .string ⟨q.2.toArray⟩] 52)) := (Chg.refl _ w9).alloc _
          refine ⟨cs ++ [q], O2, hv', ?_, hgr.trans hg2 hch.size, ?_, ?_, fun f => ?_⟩
          · rw [← List.append_assoc]
            exact (p1.quiet hwa).keep hc3 (fun i hi e => e.2 hi)
          · exact ((hch.stepK hgr hc9).trans hwa (fun _ _ h => h.elim)).trans hc3 (fun i hi e => by have := e.1; omega)
          · rw [← List.append_assoc, List.nodup_append]
            refine ⟨hnd, by simp, fun a ha b hb e => ?_⟩
            rw [List.mem_singleton] at hb
            subst hb
            subst e
            exact hq ha
          · rw [← List.append_assoc, List.mem_append, List.mem_singleton, hmem f, htk, List.mem_append, List.mem_singleton, or_assoc])
        have x0 := cell_blk hbx 0
        have x1 := cell_blk hbx 1
        have x2 := cell_blk hbx 2
        simp only [List.getElem?_toArray, List.getElem?_cons_zero, List.getElem?_cons_succ] at x0 x1 x2
        have HX := hid (And.intro hm0 (And.intro x0 (And.intro x1 x2)))
        have HE := hid hcall
        clear hst hD hnd0 hF hH hms0 hcm hms hgr hch hnd hmem hdq hshort hlo hder hfew htk hw1 hms1 hbx hbxO hq hm0 hcall x0 x1 x2
        go_wp2_with fail
        clear a0 a1 a2
        generalize wr.alloc (.cells #[.string ⟨q.1.1.toArray⟩, .string ⟨q.1.2.toArray⟩, .string ⟨q.2.toArray⟩] 52) = w2 at *
        obtain ⟨A, hA⟩ : ∃ A, wr.heap.size = A := ⟨_, rfl⟩
        simp only [hA] at HX HN ⊢
        clear hA
        refine wp_region_stateD (Chg (fun i => O1 i ∧ ¬ K i)) (LastW 8 8 w2 (fun w' => ∃ w8, Chg (fun _ => False) w2 w8 ∧ MEntPost K O1 g (F ++ cs) n2 R2 n3 R3 q w8 w')) (specAtR [.eq (.pointer (some ⟨g, 0, none⟩)), .any, .any, .any, .any, .any, .any, .eq (.pointer (some ⟨A, 0, none⟩)), .any, .any, .any, .any, .any, .any, .eq (.pointer (some ⟨g, 0, none⟩)), .eq (.pointer (some ⟨g, 0, none⟩)), .eq (.pointer (some ⟨g, 0, none⟩)), .eq (.map (some m)), .eq (.pointer (some ⟨A, 0, none⟩)), .eq (.agg #[.string ⟨q.1.1.toArray⟩, .string ⟨q.1.2.toArray⟩]), .eq (.pointer (some ⟨A, 2, none⟩)), .eq (.string ⟨q.2.toArray⟩), .eq (.bool true), .any, .any, .any, .any, .any, .any]) [14, 15, 16, 17, 18, 19, 20, 21, 22] [0, 7] (by kernel_rfl) (by kernel_rfl) (LastW.start _ _ _ _ (Chg.refl _ _).drew) (fun t v w w' hc h => specAtR_st _ t v w w' hc h) (by rfl) (by kernel_rfl) ?start2 ?obs2 ?fin2
        case start2 =>
          simp only [List.forall_mem_cons]; exact ⟨⟨_, rfl, rfl⟩, ⟨_, rfl, rfl⟩, fun _ h => by cases h⟩
        case obs2 =>
          clear HN HM HL HLL
          refine ObsD.cons none (by kernel_rfl) ?_ ?_
          · refine ObD.plain fun L a w hi he hD hW hk K k => ?_
            obtain ⟨_, e0, rfl⟩ := hk 0 (by decide)
            clear hk
            have hR := hW.early (by decide) hi
            have hS := hW.step (by decide) hi (Chg.refl _ _)
            clear hi he hW hD
            go_simp
            exact k _ _ (Chg.refl _ _) hS rfl
          refine ObsD.cons none (by kernel_rfl) ?_ ?_
          · refine ObD.plain fun L a w hi he hD hW hk K k => ?_
            obtain ⟨_, e14, rfl⟩ := hk 14 (by decide)
            clear hk
            have hR := hW.early (by decide) hi
            have hS := hW.step (by decide) hi (Chg.refl _ _)
            clear hi he hW hD
            go_simp
            exact k _ _ (Chg.refl _ _) hS rfl
          refine ObsD.cons none (by kernel_rfl) ?_ ?_
          · refine ObD.plain fun L a w hi he hD hW hk K k => ?_
            obtain ⟨_, e15, rfl⟩ := hk 15 (by decide)
            clear hk
            have hR := hW.early (by decide) hi
            have hS := hW.step (by decide) hi (Chg.refl _ _)
            clear hi he hW hD
            go_simp
            exact k _ _ (Chg.refl _ _) hS rfl
          refine ObsD.cons none (by kernel_rfl) ?_ ?_
          · refine ObD.plain fun L a w hi he hD hW hk K k => ?_
            obtain ⟨_, e16, rfl⟩ := hk 16 (by decide)
            clear hk
            have hR := hW.early (by decide) hi
            have hS := hW.step (by decide) hi (Chg.refl _ _)
            have zz := hR.cell HX.out.1 id
            clear hi he hW hD
            go_simp
            exact k _ _ (Chg.refl _ _) hS rfl
          refine ObsD.cons none (by kernel_rfl) ?_ ?_
          · refine ObD.plain fun L a w hi he hD hW hk K k => ?_
            obtain ⟨_, e7, rfl⟩ := hk 7 (by decide)
            clear hk
            have hR := hW.early (by decide) hi
            have hS := hW.step (by decide) hi (Chg.refl _ _)
            clear hi he hW hD
            go_simp
            exact k _ _ (Chg.refl _ _) hS rfl
          refine ObsD.cons none (by kernel_rfl) ?_ ?_
          · refine ObD.plain fun L a w hi he hD hW hk K k => ?_
            obtain ⟨_, e18, rfl⟩ := hk 18 (by decide)
            clear hk
            have hR := hW.early (by decide) hi
            have hS := hW.step (by decide) hi (Chg.refl _ _)
            have z0 := hR.cell HX.out.2.1 id
            have z1 := hR.cell HX.out.2.2.1 id
            clear hi he hW hD
            go_simp
            exact k _ _ (Chg.refl _ _) hS rfl
          refine ObsD.cons none (by kernel_rfl) ?_ ?_
          · refine ObD.plain fun L a w hi he hD hW hk K k => ?_
            obtain ⟨_, e7, rfl⟩ := hk 7 (by decide)
            clear hk
            have hR := hW.early (by decide) hi
            have hS := hW.step (by decide) hi (Chg.refl _ _)
            clear hi he hW hD
            go_simp
            exact k _ _ (Chg.refl _ _) hS rfl
          refine ObsD.cons none (by kernel_rfl) ?_ ?_
          · refine ObD.plain fun L a w hi he hD hW hk K k => ?_
            obtain ⟨_, e20, rfl⟩ := hk 20 (by decide)
            clear hk
            have hR := hW.early (by decide) hi
            have hS := hW.step (by decide) hi (Chg.refl _ _)
            have z2 := hR.cell HX.out.2.2.2 id
            clear hi he hW hD
            go_simp
            exact k _ _ (Chg.refl _ _) hS rfl
          refine ObsD.cons none (by kernel_rfl) ?_ ?_
          · refine ObD.plain fun L a w hi he hD hW hk K k => ?_
            obtain ⟨_, e17, rfl⟩ := hk 17 (by decide)
            obtain ⟨_, e19, rfl⟩ := hk 19 (by decide)
            obtain ⟨_, e21, rfl⟩ := hk 21 (by decide)
            clear hk
            have hR := hW.pre hi
            have hall := behind_all (n := 8) hD rfl he (by kernel_rfl)
            clear he hD
            have hq := HE.out w hR
            have HS := hid (And.intro hW hall)
            have HR := hid hR
            clear hi hW hall hR
            go_simp
            refine hq.mono ?_
            rintro e w5 ⟨rfl, hP, hC⟩
            exact k _ _ hC (HS.out.1.last (w' := w5) HS.out.2 ⟨w, HR.out, hP⟩) rfl
          exact ObsD.nil
        case fin2 =>
          intro L vals w9 hL hWL hv
          have HEND := hid (hWL.post (hL 8 (by decide)))
          clear hL hWL
          have h22 : vals 22 = .bool true := hv 22 (by decide)
          simp only [putAll, List.setIfInBounds_toArray, List.set_cons_zero, List.set_cons_succ, h22]
          obtain ⟨w8, hc8, hP⟩ := HEND.out
          obtain ⟨O2, hB, hO9, hcm, hz0, hz1, hz2, hnext⟩ := HN.out w8 w9 hc8 hP
          have HH := hid (And.intro hB (And.intro hO9 (And.intro hcm hnext)))
          clear h22 hv HX HE HEND HN hP hc8 hB hO9 hcm hnext
          go_wp2_with (at_builtin; refine wpList_append_facts rfl (.tmp 23) (.tmp 25) rfl w.heap.size u5 cs rfl ((HH.out.2.2.1).quiet ((Chg.refl _ w9).alloc (.cells #[.string ⟨q.1.1.toArray⟩, .string ⟨q.1.2.toArray⟩, .string ⟨q.2.toArray⟩] 52))) (fun i hi => Nat.lt_of_lt_of_le (HH.out.2.1 i hi) (by simp)) (some ⟨w9.heap.size, 0, none⟩) 1 [q] rfl (fact_new w9 q) (fun e => by cases e) ?c1 ?c2 ?_)
          case c1 => have := HL.out; simp; omega
          case c2 => have := HH.out.1; simp; omega
          intro v' w3 hown hc3
          have HY := hid (HH.out.2.2.2 v' w3 hown hc3)
          clear hown hc3 HH hz0 hz1 hz2
          go_wp2
          go_roundw
          case rel => exact ⟨k + 1, by omega, by go_num, HY.out⟩
          case measure => simp [intOf]; omega
    · have hk2 : k = hs.length := by omega
      have HI := hid (show PutI K O g F n2 R2 n3 R3 hs w wr u5 from by rwa [hk2, List.take_length] at hI)
      clear hI hk2
      go_wp2
      go_ret
      exact ⟨_, rfl, HI.out⟩
end Go.Proofs.YtanompfdjfgfbaaGreat
