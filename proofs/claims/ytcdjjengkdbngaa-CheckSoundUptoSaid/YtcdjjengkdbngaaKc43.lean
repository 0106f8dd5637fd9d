/- Texts that the proof leans on, in one: PmState, PmEnterM, PmApp, PmMEnter. -/
import Derived.Test.YtcdjjengkdbngaaKc20
import Derived.Maps.AppendAt
/- The program's model as it lies in memory. -/
namespace Go.Proofs.Ytcdjjengkdbngaa
open Go.RowKit Go.Maps

/-- O' has what O has, and blocks that are new since w. -/
def Grew (O O' : Nat → Prop) (w : World) : Prop := ∀ i, O' i → O i ∨ w.heap.size ≤ i
theorem Grew.refl (O : Nat → Prop) (w : World) : Grew O O w := fun _ h => .inl h
theorem Grew.trans {O O1 O2 : Nat → Prop} {w w1 : World} (h : Grew O O1 w) (k : Grew O1 O2 w1) (hs : w.heap.size ≤ w1.heap.size) : Grew O O2 w := fun i hi => by
  rcases k i hi with h1 | h1
  · exact h i h1
  · exact .inr (Nat.le_trans hs h1)
theorem Grew.not {O O' : Nat → Prop} {w : World} (h : Grew O O' w) {k : Nat} (hk : k < w.heap.size) (hn : ¬ O k) : ¬ O' k := fun e => by
  rcases h k e with h1 | h1
  · exact hn h1
  · omega
/-- What a call has changed, and then another one. -/
theorem Chg.step {O O1 : Nat → Prop} {w w1 w2 : World} (h : Chg O w w1) (hg : Grew O O1 w) (k : Chg O1 w1 w2) : Chg O w w2 := h.trans k (fun i hi h1 => by
  rcases hg i h1 with h2 | h2
  · exact h2
  · omega)
theorem Chg.stepK {K O O1 : Nat → Prop} {w w1 w2 : World} (h : Chg (fun i => O i ∧ ¬ K i) w w1) (hg : Grew O O1 w) (k : Chg (fun i => O1 i ∧ ¬ K i) w1 w2) : Chg (fun i => O i ∧ ¬ K i) w w2 := h.trans k (fun i hi h1 => by
  rcases hg i h1.1 with h2 | h2
  · exact ⟨h2, h1.2⟩
  · omega)
theorem Chg.up {K O : Nat → Prop} {w w' : World} (h : Chg (fun i => O i ∧ ¬ K i) w w') : Chg O w w' := h.mono (fun _ _ h => h.1)
theorem Chg.none {S : Nat → Prop} {w w' : World} (h : Chg (fun _ => False) w w') : Chg S w w' := h.mono (fun _ _ h => h.elim)

/-- The model in the block g has the facts F; R2, R3 say which credentials lean on which roles, and are linked by which words. All of its blocks are of O, those that aren't the facts' of K. -/
structure MS (K O : Nat → Prop) (w : World) (g : Nat) (F : List FactB) (n2 : Nat) (R2 : RoleB → CredB → Prop) (n3 : Nat) (R3 : List UInt8 → CredB → Prop) : Prop where
  ex : ∃ m1 m2 m3, ∃ O1 O2 O3 : Nat → Prop, w.heap[g]? = some (.cells #[.map (some m1), .map (some m2), .map (some m3)] 75 (0, 0)) ∧
    Sets ktR ktS O1 w m1 F.length (fun r s => (r, s) ∈ F) ∧ Sets ktR ktC O2 w m2 n2 R2 ∧ Sets ktS ktC O3 w m3 n3 R3 ∧
    (∀ i, O1 i → O i ∧ ¬ K i) ∧ (∀ i, O2 i → K i ∧ ¬ O3 i ∧ i ≠ g) ∧ (∀ i, O3 i → K i ∧ i ≠ g)
  og : K g
  ko : ∀ i, K i → O i
  lo : ∀ i, O i → i < w.heap.size

section
variable {K O S : Nat → Prop} {w w' : World} {g n2 n3 : Nat} {F : List FactB} {R2 : RoleB → CredB → Prop} {R3 : List UInt8 → CredB → Prop}

theorem MS.keep (h : MS K O w g F n2 R2 n3 R3) (hc : Chg S w w') (hs : ∀ i, O i → ¬ S i) : MS K O w' g F n2 R2 n3 R3 := by
  obtain ⟨⟨m1, m2, m3, O1, O2, O3, h0, h1, h2, h3, d1, d2, d3⟩, h4, hk, h5⟩ := h
  exact ⟨⟨m1, m2, m3, O1, O2, O3, blk_keep h0 hc (hs g (hk g h4)), h1.keep hc (fun i hi => hs i (d1 i hi).1), h2.keep hc (fun i hi => hs i (hk i (d2 i hi).1)), h3.keep hc (fun i hi => hs i (hk i (d3 i hi).1)), d1, d2, d3⟩, h4, hk, fun i hi => Nat.lt_of_lt_of_le (h5 i hi) hc.size⟩

theorem MS.quiet (h : MS K O w g F n2 R2 n3 R3) (hc : Chg (fun _ => False) w w') : MS K O w' g F n2 R2 n3 R3 := h.keep hc (fun _ _ => id)

/-- The facts grow. -/
theorem MS.facts {F' : List FactB} {m1 m2 m3 : Nat} {O1 O2 O3 O1' : Nat → Prop} (h0 : w.heap[g]? = some (.cells #[.map (some m1), .map (some m2), .map (some m3)] 75 (0, 0)))
    (h2 : Sets ktR ktC O2 w m2 n2 R2) (h3 : Sets ktS ktC O3 w m3 n3 R3) (d1 : ∀ i, O1 i → O i ∧ ¬ K i) (d2 : ∀ i, O2 i → K i ∧ ¬ O3 i ∧ i ≠ g) (d3 : ∀ i, O3 i → K i ∧ i ≠ g) (h4 : K g) (hk : ∀ i, K i → O i) (h5 : ∀ i, O i → i < w.heap.size)
    (hs : Sets ktR ktS O1' w' m1 F'.length (fun r s => (r, s) ∈ F')) (hg : Grew O1 O1' w) (hc : Chg O1 w w') (hlo : ∀ i, O1' i → i < w'.heap.size) :
    ∃ O', MS K O' w' g F' n2 R2 n3 R3 ∧ Grew O O' w ∧ Chg (fun i => O i ∧ ¬ K i) w w' := by
  have hne : ∀ i, O1' i → (O i ∨ w.heap.size ≤ i) ∧ ¬ K i := fun i hi => by
    rcases hg i hi with h | h
    · exact ⟨.inl (d1 i h).1, (d1 i h).2⟩
    · exact ⟨.inr h, fun e => by have := h5 i (hk i e); omega⟩
  refine ⟨fun i => O i ∨ O1' i, ⟨⟨m1, m2, m3, O1', O2, O3, blk_keep h0 hc (fun e => (d1 g e).2 h4), hs, h2.keep hc (fun i hi e => (d1 i e).2 (d2 i hi).1), h3.keep hc (fun i hi e => (d1 i e).2 (d3 i hi).1),
    fun i hi => ⟨.inr hi, (hne i hi).2⟩, d2, d3⟩, h4, fun i hi => .inl (hk i hi), fun i hi => ?_⟩, fun i hi => ?_, hc.mono (fun i _ hi => d1 i hi)⟩
  · rcases hi with hi | hi
    · exact Nat.lt_of_lt_of_le (h5 i hi) hc.size
    · exact hlo i hi
  · rcases hi with hi | hi
    · exact .inl hi
    · exact (hne i hi).1

/-- What leans grows. -/
theorem MS.leans {n2' : Nat} {R2' : RoleB → CredB → Prop} {m1 m2 m3 : Nat} {O1 O2 O3 O2' : Nat → Prop} (h0 : w.heap[g]? = some (.cells #[.map (some m1), .map (some m2), .map (some m3)] 75 (0, 0)))
    (h1 : Sets ktR ktS O1 w m1 F.length (fun r s => (r, s) ∈ F)) (h3 : Sets ktS ktC O3 w m3 n3 R3) (d1 : ∀ i, O1 i → O i ∧ ¬ K i) (d2 : ∀ i, O2 i → K i ∧ ¬ O3 i ∧ i ≠ g) (d3 : ∀ i, O3 i → K i ∧ i ≠ g) (h4 : K g) (hk : ∀ i, K i → O i) (h5 : ∀ i, O i → i < w.heap.size)
    (hs : Sets ktR ktC O2' w' m2 n2' R2') (hg : Grew O2 O2' w) (hc : Chg O2 w w') (hlo : ∀ i, O2' i → i < w'.heap.size) :
    ∃ K' O', MS K' O' w' g F n2' R2' n3 R3 ∧ Grew O O' w ∧ Chg O w w' := by
  have hne : ∀ i, O2' i → (O i ∨ w.heap.size ≤ i) ∧ ¬ O1 i ∧ ¬ O3 i ∧ i ≠ g := fun i hi => by
    rcases hg i hi with h | h
    · exact ⟨.inl (hk i (d2 i h).1), fun e => (d1 i e).2 (d2 i h).1, (d2 i h).2.1, (d2 i h).2.2⟩
    · exact ⟨.inr h, fun e => by have := h5 i (d1 i e).1; omega, fun e => by have := h5 i (hk i (d3 i e).1); omega, fun e => by have := h5 g (hk g h4); omega⟩
  refine ⟨fun i => K i ∨ O2' i, fun i => O i ∨ O2' i, ⟨⟨m1, m2, m3, O1, O2', O3, blk_keep h0 hc (fun e => (d2 g e).2.2 rfl), h1.keep hc (fun i hi e => (d1 i hi).2 (d2 i e).1), hs, h3.keep hc (fun i hi e => (d2 i e).2.1 hi),
    fun i hi => ⟨.inl (d1 i hi).1, fun e => ?_⟩, fun i hi => ⟨.inr hi, (hne i hi).2.2⟩, fun i hi => ⟨.inl (d3 i hi).1, (d3 i hi).2⟩⟩, .inl h4, fun i hi => hi.imp (hk i) id, fun i hi => ?_⟩, fun i hi => ?_, hc.mono (fun i _ hi => hk i (d2 i hi).1)⟩
  · rcases e with e | e
    · exact (d1 i hi).2 e
    · exact (hne i e).2.1 hi
  · rcases hi with hi | hi
    · exact Nat.lt_of_lt_of_le (h5 i hi) hc.size
    · exact hlo i hi
  · rcases hi with hi | hi
    · exact .inl hi
    · exact (hne i hi).1

/-- What is linked grows. -/
theorem MS.links {n3' : Nat} {R3' : List UInt8 → CredB → Prop} {m1 m2 m3 : Nat} {O1 O2 O3 O3' : Nat → Prop} (h0 : w.heap[g]? = some (.cells #[.map (some m1), .map (some m2), .map (some m3)] 75 (0, 0)))
    (h1 : Sets ktR ktS O1 w m1 F.length (fun r s => (r, s) ∈ F)) (h2 : Sets ktR ktC O2 w m2 n2 R2) (d1 : ∀ i, O1 i → O i ∧ ¬ K i) (d2 : ∀ i, O2 i → K i ∧ ¬ O3 i ∧ i ≠ g) (d3 : ∀ i, O3 i → K i ∧ i ≠ g) (h4 : K g) (hk : ∀ i, K i → O i) (h5 : ∀ i, O i → i < w.heap.size)
    (hs : Sets ktS ktC O3' w' m3 n3' R3') (hg : Grew O3 O3' w) (hc : Chg O3 w w') (hlo : ∀ i, O3' i → i < w'.heap.size) :
    ∃ K' O', MS K' O' w' g F n2 R2 n3' R3' ∧ Grew O O' w ∧ Chg O w w' := by
  have hne : ∀ i, O3' i → (O i ∨ w.heap.size ≤ i) ∧ ¬ O1 i ∧ ¬ O2 i ∧ i ≠ g := fun i hi => by
    rcases hg i hi with h | h
    · exact ⟨.inl (hk i (d3 i h).1), fun e => (d1 i e).2 (d3 i h).1, fun e => (d2 i e).2.1 h, (d3 i h).2⟩
    · exact ⟨.inr h, fun e => by have := h5 i (d1 i e).1; omega, fun e => by have := h5 i (hk i (d2 i e).1); omega, fun e => by have := h5 g (hk g h4); omega⟩
  refine ⟨fun i => K i ∨ O3' i, fun i => O i ∨ O3' i, ⟨⟨m1, m2, m3, O1, O2, O3', blk_keep h0 hc (fun e => (d3 g e).2 rfl), h1.keep hc (fun i hi e => (d1 i hi).2 (d3 i e).1), h2.keep hc (fun i hi e => (d2 i hi).2.1 e), hs,
    fun i hi => ⟨.inl (d1 i hi).1, fun e => ?_⟩, fun i hi => ⟨.inl (d2 i hi).1, fun e => (hne i e).2.2.1 hi, (d2 i hi).2.2⟩, fun i hi => ⟨.inr hi, (hne i hi).2.2.2⟩⟩, .inl h4, fun i hi => hi.imp (hk i) id, fun i hi => ?_⟩, fun i hi => ?_, hc.mono (fun i _ hi => hk i (d3 i hi).1)⟩
  · rcases e with e | e
    · exact (d1 i hi).2 e
    · exact (hne i e).2.1 hi
  · rcases hi with hi | hi
    · exact Nat.lt_of_lt_of_le (h5 i hi) hc.size
    · exact hlo i hi
  · rcases hi with hi | hi
    · exact .inl hi
    · exact (hne i hi).1
end

/-- Is a pair there? -/
theorem Sets.ask {α β : Type} [DecidableEq α] [DecidableEq β] {ko : KT α} {ki : KT β} {O : Nat → Prop} {w : World} {mb n : Nat} {rel : α → β → Prop} {t e t2 e2 : TypeId} (h : Sets ko ki O w mb n rel) (ht : Try.prog.underlying t = some (.map ko.ty e)) (hz : ∀ w, (zeroValue e).run Try.prog w = .ok (.map none) w)
    (ht2 : Try.prog.underlying t2 = some (.map ki.ty e2)) (hz2 : ∀ w, (zeroValue e2).run Try.prog w = .ok (.agg #[]) w) {a : α} (ha : ko.ok a) {x : β} (hx : ki.ok x) :
    ∃ (y : Option Nat) (b : Bool), (b = true ↔ rel a x) ∧ ∀ w', Chg (fun _ => False) w w' → (Instr.lookup t (.map (some mb)) (ko.val a) false).run Try.prog w' = .ok (.map y) w' ∧ (Instr.lookup t2 (.map y) (ki.val x) true).run Try.prog w' = .ok (.tuple #[.agg #[], .bool b]) w' := by
  rcases h.here ht hz ha with ⟨b, xs, h1, h2, h3, h4, h5, h6⟩ | ⟨h1, h2⟩
  · refine ⟨some b, decide (x ∈ xs), by simp [h5], fun w' hc => ⟨h6 w' hc.none, (h3.keep hc id).look ht2 (hz2 w') hx⟩⟩
  · refine ⟨none, false, ⟨fun h => (by cases h), fun h => absurd h (h1 x)⟩, fun w' hc => ⟨h2 w' hc.none, ?_⟩⟩
    have := Maps.look_nil (w := w') true ki.keyed ht2 (hz2 w') (ki.reads x hx)
    simpa using this

theorem mZeroIn (w : World) : (zeroValue 85).run Try.prog w = .ok (.map none) w := by kernel_rfl
theorem mZeroUn (w : World) : (zeroValue 80).run Try.prog w = .ok (.agg #[]) w := by kernel_rfl
theorem mZeroIc (w : World) : (zeroValue 76).run Try.prog w = .ok (.map none) w := by kernel_rfl

/-- Some block's first place. -/
def Spec.ptrE : Spec := ⟨fun v _ => ∃ b, v = .pointer (some ⟨b, 0, none⟩), fun _ _ _ _ h => h⟩

/-- What enter leaves. -/
def EntPost {α β : Type} (ko : KT α) (ki : KT β) (O : Nat → Prop) (m n : Nat) (rel : α → β → Prop) (a : α) (x : β) (w : World) (e : Ending) (w' : World) : Prop :=
  (rel a x ∧ e = .returned (.bool false) ∧ Chg (fun _ => False) w w') ∨
  (¬ rel a x ∧ e = .returned (.bool true) ∧ ∃ O', Sets ko ki O' w' m (n + 1) (fun a' z => rel a' z ∨ (a' = a ∧ z = x)) ∧ Grew O O' w ∧ Chg O w w' ∧ ∀ i, O' i → i < w'.heap.size)
end Go.Proofs.Ytcdjjengkdbngaa

/- The contract of enter at the model's members. -/
namespace Go.Proofs.Ytcdjjengkdbngaa
open Go.RowKit Go.Maps


set_option maxRecDepth 100000 in
set_option maxHeartbeats 1000000 in
theorem enter_m {O : Nat → Prop} (m n : Nat) (rel : RoleB → List UInt8 → Prop) (r : RoleB) (s : List UInt8) (w : World) (h : Sets ktR ktS O w m n rel) (hO : ∀ i, O i → i < w.heap.size) (hr : ktR.ok r) (hs : ktS.ok s) (hn : n < 4611686018427387904) :
    Calls Try.prog 125 #[.map (some m), .agg #[.string ⟨r.1.toArray⟩, .string ⟨r.2.toArray⟩], .string ⟨s.toArray⟩] w (EntPost ktR ktS O m n rel r s w) := by
  have hc1 : Chg (fun _ => False) w (w.alloc (.cells #[.string ⟨r.1.toArray⟩, .string ⟨r.2.toArray⟩] 30)) := (Chg.refl _ w).alloc _
  rcases h.here (t := 71) (e := 85) Try.underlying71 mZeroIn hr with ⟨b, xs, h1, h2, h3, h4, h5, h6⟩ | ⟨h1, h2⟩
  · have z1 := h6 _ hc1.none
    have z2 := (h3.keep hc1 id).look (t := 85) (e := 80) Try.underlying85 (mZeroUn _) hs
    simp only [ktR, ktS] at z1 z2
    by_cases hx : s ∈ xs
    · simp only [hx, decide_true] at z2
      have HH := hid (And.intro ((h5 s).1 hx) hc1)
      clear h h1 h2 h3 h4 h5 h6 hx hc1
      go_enter Try.func125, Try.ntmps125
      go_wp2
      go_ret
      exact .inl ⟨HH.out.1, rfl, HH.out.2.alloc _⟩
    · simp only [hx, decide_false] at z2
      have hc2 : Chg (fun _ => False) w ((w.alloc (.cells #[.string ⟨r.1.toArray⟩, .string ⟨r.2.toArray⟩] 30)).alloc (.cells #[] 80)) := hc1.alloc _
      have z3 := h6 _ hc2.none
      have h3' := h3.keep hc2 id
      have q1 : ∀ w : World, (binOp .eql 85 (.map (some b)) (.map none)).run Try.prog w = .ok (.bool false) w := fun w => run_eql_map_nil w _ _ _ _ Try.underlying85
      obtain ⟨w', z4, k1, k2⟩ := h3'.add (t := 85) (e := 80) Try.underlying85 (by omega) hs hx
      simp only [ktR, ktS] at z3 z4
      have HH := hid (And.intro hc2 (And.intro k1 k2))
      have HX := hid (And.intro h (And.intro h1 (And.intro h2 (And.intro h5 h6))))
      have HL := hid (And.intro h4 hx)
      clear h h1 h2 h3 h4 h5 h6 hx hc1 hc2 h3' k1 k2
      go_enter Try.func125, Try.ntmps125
      go_wp2
      go_ret
      obtain ⟨hc2, k1, k2⟩ := HH.out
      obtain ⟨h, h1, h2, h5, h6⟩ := HX.out
      obtain ⟨h4, hx⟩ := HL.out
      refine .inr ⟨fun e => hx ((h5 s).2 e), rfl, O, ?_, Grew.refl _ _, (hc2.none).trans k2 (fun i _ hi => by subst hi; exact h1), fun i hi => Nat.lt_of_lt_of_le (hO i hi) (Nat.le_trans hc2.size k2.size)⟩
      exact (h.keep hc2 (fun _ _ => id)).grow (t := 71) (e := 85) Try.underlying71 mZeroIn hr (fun w2 hc => h6 w2 (hc2.none.trans hc (fun _ _ h => h))) k2 k1 (fun z => by simp [h5 z]) (by simp; omega)
  · have z1 := h2 _ hc1.none
    have z2 := Maps.look_nil (w := w.alloc (.cells #[.string ⟨r.1.toArray⟩, .string ⟨r.2.toArray⟩] 30)) true ktS.keyed (t := 85) (e := 80) Try.underlying85 (mZeroUn _) (ktS.reads s hs)
    have hc2 : Chg (fun _ => False) w ((w.alloc (.cells #[.string ⟨r.1.toArray⟩, .string ⟨r.2.toArray⟩] 30)).alloc (.cells #[] 80)) := hc1.alloc _
    have hc3 : Chg (fun _ => False) w (((w.alloc (.cells #[.string ⟨r.1.toArray⟩, .string ⟨r.2.toArray⟩] 30)).alloc (.cells #[] 80)).alloc (.map #[] 0)) := hc2.alloc _
    have z3 := h2 _ hc2.none
    have q1 : ∀ w : World, (binOp .eql 85 (.map none) (.map none)).run Try.prog w = .ok (.bool true) w := fun w => run_eql_map_nil w _ _ _ _ Try.underlying85
    have hmm := @run_makeMap Try.prog
    obtain ⟨w4, z4, k1, k2, k3⟩ := h.new (ki := ktS) (t := 71) (e := 85) Try.underlying71 mZeroIn hr (by omega) (h2 w (Chg.refl _ _)) hO hc3 (b := w.heap.size + 1 + 1) (by omega)
    have hmO := h.top
    have hm := hO _ hmO
    have z5 := k2 w4 (Chg.refl _ _)
    have hsm := (smap_made ktS ((w.alloc (.cells #[.string ⟨r.1.toArray⟩, .string ⟨r.2.toArray⟩] 30)).alloc (.cells #[] 80)))
    have e9 : ((w.alloc (.cells #[.string ⟨r.1.toArray⟩, .string ⟨r.2.toArray⟩] 30)).alloc (.cells #[] 80)).heap.size = w.heap.size + 1 + 1 := by simp
    rw [e9] at hsm
    have hsm4 := hsm.keep k1 (by omega)
    obtain ⟨w5, z6, k4, k5⟩ := hsm4.add (t := 85) (e := 80) Try.underlying85 (by simp) hs (by simp)
    have hb1 : (w.alloc (.cells #[.string ⟨r.1.toArray⟩, .string ⟨r.2.toArray⟩] 30)).heap[w.heap.size]? = some (.cells #[.string ⟨r.1.toArray⟩, .string ⟨r.2.toArray⟩] 30 (0, 0)) := heap_alloc_new w _
    have hb3 := blk_keep hb1 (((Chg.refl (fun _ => False) _).alloc (.cells #[] 80)).alloc (.map #[] 0)) id
    have hb4 := blk_keep hb3 k1 (by omega)
    have c0 := cell_blk hb4 0
    have c1 := cell_blk hb4 1
    simp only [List.getElem?_toArray, List.getElem?_cons_zero, List.getElem?_cons_succ] at c0 c1
    simp only [ktR, ktS] at z1 z2 z3 z4 z5 z6
    have HH := hid (And.intro hc3 (And.intro k1 (And.intro k3 (And.intro k4 k5))))
    have HX := hid h1
    clear h h1 h2 hc1 hc2 hc3 k1 k2 k3 k4 k5 hsm hsm4 e9 hb1 hb3 hb4
    go_enter Try.func125, Try.ntmps125
    go_wp2
    go_ret
    obtain ⟨hc3, k1, k3, k4, k5⟩ := HH.out
    have s1 := hc3.size
    have s2 := k1.size
    have s3 := k5.size
    refine .inr ⟨HX.out s, rfl, _, k3 w5 s k5 (by simpa using k4), fun i hi => ?_, ?_, fun i hi => ?_⟩
    · rcases hi with hi | hi
      · exact .inl hi
      · exact .inr (by omega)
    · refine (hc3.none.trans k1 (fun i _ hi => by subst hi; assumption)).trans k5 (fun i hi e => by omega)
    · rcases hi with hi | hi
      · have := hO i hi; omega
      · have := k4.lt; omega
end Go.Proofs.Ytcdjjengkdbngaa

/- append of a list of facts, onto a row of the call's own that lies apart from the model. -/
namespace Go.Proofs.Ytcdjjengkdbngaa
open Go.RowKit

theorem factRow_one9 (ls : List FactB) : ∀ u ∈ factRow ls, u.oneCell' = true := by
  intro u hu
  unfold factRow at hu
  rw [List.mem_flatMap] at hu
  obtain ⟨x, _, hx⟩ := hu
  exact fact_one x u hx

theorem factRow_len9 (ls : List FactB) : (factRow ls).length = ls.length * 3 := by
  unfold factRow
  induction ls with
  | nil => rfl
  | cons x l ih => rw [List.flatMap_cons, List.length_append, ih, List.length_cons]; simp [factCells]; omega

theorem factRow_append9 (a b : List FactB) : factRow (a ++ b) = factRow a ++ factRow b := by simp [factRow]

theorem FactAt.cells9 {w : World} {b o : Nat} {c : FactB} (h : FactAt w b o c) : ∀ j, j < 3 → w.cell? ⟨b, o + j, none⟩ = (factCells c)[j]?
  | 0, _ => h.k0
  | 1, _ => h.k1
  | 2, _ => h.k2
  | j + 3, h => absurd h (by omega)

theorem factsAt_row {D : Nat → Prop} {w : World} {ad : Addr} {ls : List FactB} (hst : FactsAt D w (some ad) ls) (j : Nat) (u : Value) (hj : (factRow ls)[j]? = some u) : w.cell? (ad.add j) = some u := by
  have hjl : j < (factRow ls).length := (List.getElem?_eq_some_iff.1 hj).1
  rw [factRow_len9] at hjl
  have hq : j / 3 < ls.length := by omega
  obtain ⟨b, off, e, _, h3⟩ := hst (j / 3) hq
  cases e
  have h4 := h3.cells9 (j % 3) (by omega)
  have h5 := factRow_get ls (j / 3) (j % 3) hq (by omega)
  have h6 : j / 3 * 3 + j % 3 = j := by omega
  rw [h6] at h5
  rw [add_off, show off + j = off + j / 3 * 3 + j % 3 by omega, h4, ← h5]
  exact hj

theorem factsAt_none {D : Nat → Prop} {w : World} {ls : List FactB} (hst : FactsAt D w none ls) : ls = [] := by
  cases ls with
  | nil => rfl
  | cons y l => obtain ⟨_, _, e, _⟩ := hst 0 (by simp); cases e

/-- A row of facts of the call's own, apart from O. -/
structure Came (B : Nat) (O : Nat → Prop) (w : World) (v : Value) (cs : List FactB) : Prop where
  own : OwnF B w v cs
  ap : ∀ k, v.ownBlock = some k → ¬ O k

theorem Came.nil (B : Nat) (O : Nat → Prop) (w : World) : Came B O w (.slice none 0 0) [] := ⟨World.ownsRow_nil _ _ _ _, fun _ h => (by cases h)⟩

theorem OwnF.blt {B : Nat} {w : World} {v : Value} {ls : List FactB} (h : OwnF B w v ls) {k : Nat} (hk : v.ownBlock = some k) : B ≤ k ∧ k < w.heap.size := by
  rcases h.2 with ⟨hx', _⟩ | ⟨g, cap', cur, hx', hg, hh, _⟩
  · rw [hx'] at hk; cases hk
  · have hk2 : g = k := by rw [hx'] at hk; simpa [Value.ownBlock] using hk
    subst hk2
    exact ⟨hg, lt_blk hh⟩

theorem Came.keep {B : Nat} {O O' : Nat → Prop} {w w' : World} {v : Value} {cs : List FactB} (h : Came B O w v cs) (hc : Chg O w w') (hg : Grew O O' w) : Came B O' w' v cs :=
  ⟨h.own.keep hc h.ap, fun k hk => hg.not (h.own.blt hk).2 (h.ap k hk)⟩

theorem Came.quiet {B : Nat} {O : Nat → Prop} {w w' : World} {v : Value} {cs : List FactB} (h : Came B O w v cs) (hc : Chg (fun _ => False) w w') : Came B O w' v cs :=
  ⟨h.own.keep hc (fun _ _ => id), h.ap⟩

theorem Came.low {B A : Nat} {O : Nat → Prop} {w : World} {v : Value} {cs : List FactB} (h : Came B O w v cs) (hA : A ≤ B) : Came A O w v cs := ⟨h.own.low hA, h.ap⟩

/-- The facts of such a row, to be read; they lie apart from O. -/
theorem Came.facts {B : Nat} {O : Nat → Prop} {w : World} {v : Value} {cs : List FactB} (h : Came B O w v cs) : ∃ ao cap, v = .slice ao cs.length cap ∧ FactsAt (fun k => B ≤ k ∧ k < w.heap.size ∧ ¬ O k) w ao cs ∧ (ao = none → cap = 0) := by
  obtain ⟨ao, cap, rfl, hf, h0⟩ := h.own.facts
  refine ⟨ao, cap, rfl, fun i hi => ?_, h0⟩
  obtain ⟨b, off, e, hb, hf⟩ := hf i hi
  refine ⟨b, off, e, ⟨hb.1, hb.2, h.ap b ?_⟩, hf⟩
  subst e
  rcases h.own.2 with ⟨hx', h0⟩ | ⟨g, cap', cur, hx', _⟩
  · cases hx'
  · cases hx'; rfl

theorem wpList_append_facts {D O : Nat → Prop} {ops : Array Oper} {rest : List Oper} {o : Oper} {a : Act} {w : World} {Q : Exit → Act → World → Prop} (hgd : o.guard = none) (s x : Operand)
    (ho : o.op = .call { callee := .builtin .append, args := #[s, x], argTypes := #[45, 45] }) (B : Nat) (v : Value) (zs : List FactB) (hs : a.eval s = v) (hown : Came B O w v zs) (hO : ∀ i, O i → i < w.heap.size)
    (ao : Option Addr) (cp : Nat) (ls : List FactB) (hx : a.eval x = .slice ao ls.length cp) (hst : FactsAt D w ao ls) (h0 : ao = none → cp = 0)
    (hlen : zs.length + ls.length ≤ 33554432) (hB : B ≤ w.heap.size)
    (h : ∀ v' w', Came B O w' v' (zs ++ ls) → Chg (fun i => B ≤ i ∧ ¬ O i) w w' → wpList Try.prog ops Q rest (a.put o.dst v') w') : wpList Try.prog ops Q (o :: rest) a w := by
  obtain ⟨i0, hi, hz0, hz1, hz2⟩ := info_parts Try.info34
  cases hao : ao with
  | none =>
    subst hao
    have hl := factsAt_none hst
    subst hl
    have hcp := h0 rfl
    subst hcp
    exact wpList_append_own_none hgd s x 45 ho B 34 i0 3 Try.underlying45 hi v _ _ hs hown.own hx (h v w (by rw [List.append_nil]; exact hown) (Chg.refl _ _))
  | some ad =>
    subst hao
    refine wpList_append_own_at w hgd s x 45 ho B 34 i0 (.agg #[.string ⟨#[]⟩, .string ⟨#[]⟩, .string ⟨#[]⟩]) 3 48 Try.underlying45 hi hz0 hz1 hz2 rfl (by decide) v _ _ hs hown.own ad ls.length cp (factRow ls) hx (by rw [factRow_len9]) (fun j u hj => factsAt_row hst j u hj) (fun u hu => factRow_one9 ls u hu) (by unfold maxLen; omega) (by omega) hB ?_
    · intro v' w' hown' hgr _ hat
      refine h v' w' ⟨by unfold OwnF; rw [factRow_append9, List.length_append]; exact hown', fun k hk => ?_⟩ ((Chg.refl _ _).grown hgr (fun k hk _ => ⟨(hown.own.blt hk).1, hown.ap k hk⟩))
      rcases hat with e | e
      · exact hown.ap k (e ▸ hk)
      · rw [e] at hk
        cases hk
        intro hq
        have := hO _ hq
        omega

/-- A fact in a block of its own. -/
theorem fact_new (w : World) (q : FactB) : FactsAt (fun _ => True) (w.alloc (.cells #[.string ⟨q.1.1.toArray⟩, .string ⟨q.1.2.toArray⟩, .string ⟨q.2.toArray⟩] 34)) (some ⟨w.heap.size, 0, none⟩) [q] := fun i hi => by
  have : i = 0 := by simp at hi; omega
  subst this
  exact ⟨w.heap.size, 0, rfl, trivial, fact_at_blk (f := q) (heap_alloc_new w _)⟩
end Go.Proofs.Ytcdjjengkdbngaa

/- enter at the model's members, as the model has it. -/
namespace Go.Proofs.Ytcdjjengkdbngaa
open Go.RowKit Go.Maps

section
variable {K O : Nat → Prop} {w : World} {g n2 n3 : Nat} {F : List FactB} {R2 : RoleB → CredB → Prop} {R3 : List UInt8 → CredB → Prop}

theorem MS.enter_no (h : MS K O w g F n2 R2 n3 R3) (f : FactB) (hs : f.1.1.length ≤ 9223372036854775807 ∧ f.1.2.length ≤ 9223372036854775807 ∧ f.2.length ≤ 9223372036854775807) (hn : F.length < 4611686018427387904) (hf : f ∈ F) :
    ∃ m, w.cell? ⟨g, 0, none⟩ = some (.map (some m)) ∧ ∀ w', Chg (fun _ => False) w w' → Calls Try.prog 125 #[.map (some m), .agg #[.string ⟨f.1.1.toArray⟩, .string ⟨f.1.2.toArray⟩], .string ⟨f.2.toArray⟩] w' fun e w'' => e = .returned (.bool false) ∧ Chg (fun _ => False) w' w'' := by
  obtain ⟨⟨m1, m2, m3, O1, O2, O3, h0, h1, h2, h3, d1, d2, d3⟩, h4, hk, h5⟩ := h
  refine ⟨m1, cell_blk h0 0, fun w' hc => ?_⟩
  refine (enter_m m1 F.length _ f.1 f.2 w' (h1.keep hc (fun _ _ => id)) (fun i hi => Nat.lt_of_lt_of_le (h5 i (d1 i hi).1) hc.size) ⟨hs.1, hs.2.1⟩ hs.2.2 hn).mono ?_
  rintro e w'' (⟨_, h6, h7⟩ | ⟨h6, _⟩)
  · exact ⟨h6, h7⟩
  · exact absurd hf h6

/-- What a new fact leaves. -/
def MEntPost (K O : Nat → Prop) (g : Nat) (F : List FactB) (n2 : Nat) (R2 : RoleB → CredB → Prop) (n3 : Nat) (R3 : List UInt8 → CredB → Prop) (f : FactB) (w w' : World) : Prop :=
  ∃ O', MS K O' w' g (F ++ [f]) n2 R2 n3 R3 ∧ Grew O O' w ∧ Chg (fun i => O i ∧ ¬ K i) w w'

theorem MS.enter_yes (h : MS K O w g F n2 R2 n3 R3) (f : FactB) (hs : f.1.1.length ≤ 9223372036854775807 ∧ f.1.2.length ≤ 9223372036854775807 ∧ f.2.length ≤ 9223372036854775807) (hn : F.length < 4611686018427387904) (hf : f ∉ F) :
    ∃ m, w.cell? ⟨g, 0, none⟩ = some (.map (some m)) ∧ ∀ w', Chg (fun _ => False) w w' → Calls Try.prog 125 #[.map (some m), .agg #[.string ⟨f.1.1.toArray⟩, .string ⟨f.1.2.toArray⟩], .string ⟨f.2.toArray⟩] w' fun e w'' => e = .returned (.bool true) ∧ MEntPost K O g F n2 R2 n3 R3 f w' w'' ∧ Chg (fun i => O i ∧ ¬ K i) w' w'' := by
  obtain ⟨⟨m1, m2, m3, O1, O2, O3, h0, h1, h2, h3, d1, d2, d3⟩, h4, hk, h5⟩ := h
  refine ⟨m1, cell_blk h0 0, fun w' hc => ?_⟩
  refine (enter_m m1 F.length _ f.1 f.2 w' (h1.keep hc (fun _ _ => id)) (fun i hi => Nat.lt_of_lt_of_le (h5 i (d1 i hi).1) hc.size) ⟨hs.1, hs.2.1⟩ hs.2.2 hn).mono ?_
  rintro e w'' (⟨h6, _⟩ | ⟨_, h6, O1', h7, h8, h9, h10⟩)
  · exact absurd h6 hf
  · have hrel := h7.cong (rel' := fun r s => (r, s) ∈ F ++ [f]) (fun a x => by
      rw [List.mem_append, List.mem_singleton]
      refine or_congr Iff.rfl ⟨fun ⟨h1, h2⟩ => by rw [h1, h2], fun e => by rw [← e]; exact ⟨rfl, rfl⟩⟩)
    have hl : F.length + 1 = (F ++ [f]).length := by simp
    rw [hl] at hrel
    obtain ⟨O', q1, q2, q3⟩ := MS.facts (blk_keep h0 hc id) (h2.keep hc (fun _ _ => id)) (h3.keep hc (fun _ _ => id)) d1 d2 d3 h4 hk (fun i hi => Nat.lt_of_lt_of_le (h5 i hi) hc.size) hrel h8 h9 h10
    exact ⟨h6, ⟨O', q1, q2, q3⟩, q3⟩
end
end Go.Proofs.Ytcdjjengkdbngaa
