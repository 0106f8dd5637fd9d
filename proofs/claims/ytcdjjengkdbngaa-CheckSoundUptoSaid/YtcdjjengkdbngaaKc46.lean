/- Texts that the proof leans on, in one: PmEnterL, PmRow, PmGrow, PmIn. -/
import Derived.Test.YtcdjjengkdbngaaKc43
import Derived.Test.YtcdjjengkdbngaaKc44
import Derived.Test.YtcdjjengkdbngaaKc45
/- The contract of enter at what is linked. -/
namespace Go.Proofs.Ytcdjjengkdbngaa
open Go.RowKit Go.Maps


set_option maxRecDepth 100000 in
set_option maxHeartbeats 1000000 in
theorem enter_l {O : Nat → Prop} (m n : Nat) (rel : List UInt8 → CredB → Prop) (s : List UInt8) (c : CredB) (w : World) (h : Sets ktS ktC O w m n rel) (hO : ∀ i, O i → i < w.heap.size) (hr : ktS.ok s) (hs : ktC.ok c) (hn : n < 4611686018427387904) :
    Calls Try.prog 100 #[.map (some m), .string ⟨s.toArray⟩, .agg #[.int .i64 c.kind, .string ⟨c.head.1.toArray⟩, .string ⟨c.head.2.toArray⟩, .string ⟨c.who.toArray⟩, .string ⟨c.b.1.toArray⟩, .string ⟨c.b.2.toArray⟩, .string ⟨c.c.1.toArray⟩, .string ⟨c.c.2.toArray⟩, .string ⟨c.w2.toArray⟩]] w (EntPost ktS ktC O m n rel s c w) := by
  have hc1 : Chg (fun _ => False) w (w.alloc (.cells #[.int .i64 c.kind, .string ⟨c.head.1.toArray⟩, .string ⟨c.head.2.toArray⟩, .string ⟨c.who.toArray⟩, .string ⟨c.b.1.toArray⟩, .string ⟨c.b.2.toArray⟩, .string ⟨c.c.1.toArray⟩, .string ⟨c.c.2.toArray⟩, .string ⟨c.w2.toArray⟩] 32)) := (Chg.refl _ w).alloc _
  rcases h.here (t := 73) (e := 76) Try.underlying73 mZeroIc hr with ⟨b, xs, h1, h2, h3, h4, h5, h6⟩ | ⟨h1, h2⟩
  · have z1 := h6 _ hc1.none
    have z2 := (h3.keep hc1 id).look (t := 76) (e := 80) Try.underlying76 (mZeroUn _) hs
    simp only [ktS, ktC, credV, credBox] at z1 z2
    by_cases hx : c ∈ xs
    · simp only [hx, decide_true] at z2
      have HH := hid (And.intro ((h5 c).1 hx) hc1)
      clear h h1 h2 h3 h4 h5 h6 hx hc1
      go_enter Try.func100, Try.ntmps100
      go_wp2
      go_ret
      exact .inl ⟨HH.out.1, rfl, HH.out.2.alloc _⟩
    · simp only [hx, decide_false] at z2
      have hc2 : Chg (fun _ => False) w ((w.alloc (.cells #[.int .i64 c.kind, .string ⟨c.head.1.toArray⟩, .string ⟨c.head.2.toArray⟩, .string ⟨c.who.toArray⟩, .string ⟨c.b.1.toArray⟩, .string ⟨c.b.2.toArray⟩, .string ⟨c.c.1.toArray⟩, .string ⟨c.c.2.toArray⟩, .string ⟨c.w2.toArray⟩] 32)).alloc (.cells #[] 80)) := hc1.alloc _
      have z3 := h6 _ hc2.none
      have h3' := h3.keep hc2 id
      have q1 : ∀ w : World, (binOp .eql 76 (.map (some b)) (.map none)).run Try.prog w = .ok (.bool false) w := fun w => run_eql_map_nil w _ _ _ _ Try.underlying76
      obtain ⟨w', z4, k1, k2⟩ := h3'.add (t := 76) (e := 80) Try.underlying76 (by omega) hs hx
      simp only [ktS, ktC, credV, credBox] at z3 z4
      have HH := hid (And.intro hc2 (And.intro k1 k2))
      have HX := hid (And.intro h (And.intro h1 (And.intro h2 (And.intro h5 h6))))
      have HL := hid (And.intro h4 hx)
      clear h h1 h2 h3 h4 h5 h6 hx hc1 hc2 h3' k1 k2
      go_enter Try.func100, Try.ntmps100
      go_wp2
      go_ret
      obtain ⟨hc2, k1, k2⟩ := HH.out
      obtain ⟨h, h1, h2, h5, h6⟩ := HX.out
      obtain ⟨h4, hx⟩ := HL.out
      refine .inr ⟨fun e => hx ((h5 c).2 e), rfl, O, ?_, Grew.refl _ _, (hc2.none).trans k2 (fun i _ hi => by subst hi; exact h1), fun i hi => Nat.lt_of_lt_of_le (hO i hi) (Nat.le_trans hc2.size k2.size)⟩
      exact (h.keep hc2 (fun _ _ => id)).grow (t := 73) (e := 76) Try.underlying73 mZeroIc hr (fun w2 hc => h6 w2 (hc2.none.trans hc (fun _ _ h => h))) k2 k1 (fun z => by simp [h5 z]) (by simp; omega)
  · have z1 := h2 _ hc1.none
    have z2 := Maps.look_nil (w := w.alloc (.cells #[.int .i64 c.kind, .string ⟨c.head.1.toArray⟩, .string ⟨c.head.2.toArray⟩, .string ⟨c.who.toArray⟩, .string ⟨c.b.1.toArray⟩, .string ⟨c.b.2.toArray⟩, .string ⟨c.c.1.toArray⟩, .string ⟨c.c.2.toArray⟩, .string ⟨c.w2.toArray⟩] 32)) true ktC.keyed (t := 76) (e := 80) Try.underlying76 (mZeroUn _) (ktC.reads c hs)
    have hc2 : Chg (fun _ => False) w ((w.alloc (.cells #[.int .i64 c.kind, .string ⟨c.head.1.toArray⟩, .string ⟨c.head.2.toArray⟩, .string ⟨c.who.toArray⟩, .string ⟨c.b.1.toArray⟩, .string ⟨c.b.2.toArray⟩, .string ⟨c.c.1.toArray⟩, .string ⟨c.c.2.toArray⟩, .string ⟨c.w2.toArray⟩] 32)).alloc (.cells #[] 80)) := hc1.alloc _
    have hc3 : Chg (fun _ => False) w (((w.alloc (.cells #[.int .i64 c.kind, .string ⟨c.head.1.toArray⟩, .string ⟨c.head.2.toArray⟩, .string ⟨c.who.toArray⟩, .string ⟨c.b.1.toArray⟩, .string ⟨c.b.2.toArray⟩, .string ⟨c.c.1.toArray⟩, .string ⟨c.c.2.toArray⟩, .string ⟨c.w2.toArray⟩] 32)).alloc (.cells #[] 80)).alloc (.map #[] 0)) := hc2.alloc _
    have z3 := h2 _ hc2.none
    have q1 : ∀ w : World, (binOp .eql 76 (.map none) (.map none)).run Try.prog w = .ok (.bool true) w := fun w => run_eql_map_nil w _ _ _ _ Try.underlying76
    have hmm := @run_makeMap Try.prog
    obtain ⟨w4, z4, k1, k2, k3⟩ := h.new (ki := ktC) (t := 73) (e := 76) Try.underlying73 mZeroIc hr (by omega) (h2 w (Chg.refl _ _)) hO hc3 (b := w.heap.size + 1 + 1) (by omega)
    have hmO := h.top
    have hm := hO _ hmO
    have z5 := k2 w4 (Chg.refl _ _)
    have hsm := (smap_made ktC ((w.alloc (.cells #[.int .i64 c.kind, .string ⟨c.head.1.toArray⟩, .string ⟨c.head.2.toArray⟩, .string ⟨c.who.toArray⟩, .string ⟨c.b.1.toArray⟩, .string ⟨c.b.2.toArray⟩, .string ⟨c.c.1.toArray⟩, .string ⟨c.c.2.toArray⟩, .string ⟨c.w2.toArray⟩] 32)).alloc (.cells #[] 80)))
    have e9 : ((w.alloc (.cells #[.int .i64 c.kind, .string ⟨c.head.1.toArray⟩, .string ⟨c.head.2.toArray⟩, .string ⟨c.who.toArray⟩, .string ⟨c.b.1.toArray⟩, .string ⟨c.b.2.toArray⟩, .string ⟨c.c.1.toArray⟩, .string ⟨c.c.2.toArray⟩, .string ⟨c.w2.toArray⟩] 32)).alloc (.cells #[] 80)).heap.size = w.heap.size + 1 + 1 := by simp
    rw [e9] at hsm
    have hsm4 := hsm.keep k1 (by omega)
    obtain ⟨w5, z6, k4, k5⟩ := hsm4.add (t := 76) (e := 80) Try.underlying76 (by simp) hs (by simp)
    have hb1 : (w.alloc (.cells #[.int .i64 c.kind, .string ⟨c.head.1.toArray⟩, .string ⟨c.head.2.toArray⟩, .string ⟨c.who.toArray⟩, .string ⟨c.b.1.toArray⟩, .string ⟨c.b.2.toArray⟩, .string ⟨c.c.1.toArray⟩, .string ⟨c.c.2.toArray⟩, .string ⟨c.w2.toArray⟩] 32)).heap[w.heap.size]? = some (.cells (credBox c) 32 (0, 0)) := heap_alloc_new w _
    have hb3 := blk_keep hb1 (((Chg.refl (fun _ => False) _).alloc (.cells #[] 80)).alloc (.map #[] 0)) id
    have hb4 := blk_keep hb3 k1 (by omega)
    obtain ⟨c0, c1, c2, c3, c4, c5, c6, c7, c8⟩ := cred_at_blk hb4
    simp only [ktS, ktC, credV, credBox] at z1 z2 z3 z4 z5 z6
    have HH := hid (And.intro hc3 (And.intro k1 (And.intro k3 (And.intro k4 k5))))
    have HX := hid h1
    clear h h1 h2 hc1 hc2 hc3 k1 k2 k3 k4 k5 hsm hsm4 e9 hb1 hb3 hb4
    go_enter Try.func100, Try.ntmps100
    go_wp2
    go_ret
    obtain ⟨hc3, k1, k3, k4, k5⟩ := HH.out
    have s1 := hc3.size
    have s2 := k1.size
    have s3 := k5.size
    refine .inr ⟨HX.out c, rfl, _, k3 w5 c k5 (by simpa using k4), fun i hi => ?_, ?_, fun i hi => ?_⟩
    · rcases hi with hi | hi
      · exact .inl hi
      · exact .inr (by omega)
    · refine (hc3.none.trans k1 (fun i _ hi => by subst hi; assumption)).trans k5 (fun i hi e => by omega)
    · rcases hi with hi | hi
      · have := hO i hi; omega
      · have := k4.lt; omega
end Go.Proofs.Ytcdjjengkdbngaa

/- A row of a map to sets, to be ranged over. -/
namespace Go.Proofs.Ytcdjjengkdbngaa
open Go.RowKit Go.Maps

theorem Sets.row {α β : Type} [DecidableEq α] {ko : KT α} {ki : KT β} {O : Nat → Prop} {w : World} {mb n : Nat} {rel : α → β → Prop} {t e t2 e2 : TypeId} (h : Sets ko ki O w mb n rel) (ht : Try.prog.underlying t = some (.map ko.ty e)) (hz : ∀ w, (zeroValue e).run Try.prog w = .ok (.map none) w)
    (ht2 : Try.prog.underlying t2 = some (.map ki.ty e2)) {a : α} (ha : ko.ok a) :
    ∃ (y : Option Nat) (xs : List β), (∀ x, x ∈ xs ↔ rel a x) ∧ xs.Nodup ∧ xs.length ≤ n ∧ (∀ x ∈ xs, ki.ok x) ∧ (∀ b, y = some b → O b) ∧ (∀ w', Chg (fun _ => False) w w' → (Instr.lookup t (.map (some mb)) (ko.val a) false).run Try.prog w' = .ok (.map y) w') ∧
      ∀ w', Chg (fun _ => False) w w' → ∃ w'' cnt, (Instr.range t2 (.map y)).run Try.prog w' = .ok (.pointer (some ⟨w'.heap.size, 0, none⟩)) w'' ∧ KRange ki unitElem w'' y w'.heap.size xs cnt ∧ Chg (fun _ => False) w' w'' := by
  rcases h.here ht hz ha with ⟨b, xs, h1, h2, h3, h4, h5, h6⟩ | ⟨h1, h2⟩
  · refine ⟨some b, xs, h5, h3.nd, h4, h3.ok, fun b' e => by cases e; exact h1, fun w' hc => h6 w' hc.none, fun w' hc => ?_⟩
    obtain ⟨M, hM⟩ := h3
    obtain ⟨w'', q1, q2, q3, _⟩ := (hM.keep hc id).range ht2
    exact ⟨w'', _, q1, q2, q3⟩
  · refine ⟨none, [], fun x => ⟨fun h => (by cases h), fun h => absurd h (h1 x)⟩, List.nodup_nil, Nat.zero_le _, fun _ h => (by cases h), fun _ e => (by cases e), fun w' hc => h2 w' hc.none, fun w' hc => ?_⟩
    obtain ⟨w'', q1, q2, q3, _⟩ := krange_nil ki unitElem w' ht2
    exact ⟨w'', _, q1, q2, q3⟩

/-- A range under way, its block new. -/
def Spec.rng {α : Type} (k : KT α) (R : Value → Option (DataW Value × List MemPlace)) (lo : Nat) (y : Option Nat) (xs : List α) : Spec :=
  ⟨fun v w => ∃ r cnt, v = .pointer (some ⟨r, 0, none⟩) ∧ lo ≤ r ∧ KRange k R w y r xs cnt, fun _ _ _ hc ⟨r, cnt, h1, h2, h3⟩ => ⟨r, cnt, h1, h2, h3.keep hc (fun _ _ => id) id⟩⟩

/-- What one step tells. -/
def StepPost (F : List FactB) (c : CredB) (who : List UInt8) (w : World) (e : Ending) (w' : World) : Prop :=
  ∃ ao cap hs, e = .returned (.slice ao hs.length cap) ∧ FactsAt (fun i => w.heap.size ≤ i ∧ i < w'.heap.size) w' ao hs ∧ Chg (fun _ => False) w w' ∧ (∀ f, f ∈ hs ↔ StepOf F c who f) ∧ hs.length ≤ 4611686018427387904

theorem StepPost.of {F : List FactB} {c : CredB} {who : List UInt8} {w w' : World} {v : Value} {hs : List FactB} {O : Nat → Prop} (hcm : Came w.heap.size O w' v hs) (hc : Chg (fun _ => False) w w') (hm : ∀ f, f ∈ hs ↔ StepOf F c who f) (hl : hs.length ≤ 4611686018427387904) : StepPost F c who w (.returned v) w' := by
  obtain ⟨ao, cap, rfl, hf, _⟩ := hcm.facts
  exact ⟨ao, cap, hs, rfl, hf.mono (fun i hi => ⟨hi.1, hi.2.1⟩), hc, hm, hl⟩
end Go.Proofs.Ytcdjjengkdbngaa

/- How what came grows, amid take and follow; enter at what leans and is linked, as the model has it. -/
namespace Go.Proofs.Ytcdjjengkdbngaa
open Go.RowKit Go.Maps

/-- Since the world w, cs came; v tells them. -/
structure GrowI (ls : List CredB) (K O : Nat → Prop) (g : Nat) (F : List FactB) (n2 : Nat) (R2 : RoleB → CredB → Prop) (n3 : Nat) (R3 : List UInt8 → CredB → Prop) (w w' : World) (v : Value) (cs : List FactB) (O' : Nat → Prop) : Prop where
  came : Came w.heap.size O' w' v cs
  ms : MS K O' w' g (F ++ cs) n2 R2 n3 R3
  grew : Grew O O' w
  chg : Chg (fun i => O i ∧ ¬ K i) w w'
  nd : (F ++ cs).Nodup
  der : ∀ f ∈ F ++ cs, Der ls f

section
variable {ls : List CredB} {K O O1 : Nat → Prop} {g : Nat} {F : List FactB} {n2 : Nat} {R2 : RoleB → CredB → Prop} {n3 : Nat} {R3 : List UInt8 → CredB → Prop} {w wr : World} {v : Value} {cs : List FactB}

theorem GrowI.start (h : MS K O w g F n2 R2 n3 R3) (hnd : F.Nodup) (hF : ∀ f ∈ F, Der ls f) : GrowI ls K O g F n2 R2 n3 R3 w w (.slice none 0 0) [] O :=
  ⟨Came.nil _ _ _, by rw [List.append_nil]; exact h, Grew.refl _ _, Chg.refl _ _, by rw [List.append_nil]; exact hnd, by rw [List.append_nil]; exact hF⟩

theorem GrowI.quiet (h : GrowI ls K O g F n2 R2 n3 R3 w wr v cs O1) {w' : World} (hc : Chg (fun _ => False) wr w') : GrowI ls K O g F n2 R2 n3 R3 w w' v cs O1 :=
  ⟨h.came.quiet hc, h.ms.quiet hc, h.grew, h.chg.trans hc (fun _ _ h => h.elim), h.nd, h.der⟩

theorem GrowI.few (h : GrowI ls K O g F n2 R2 n3 R3 w wr v cs O1) (hl : ls.length ≤ 1000) : F.length + cs.length ≤ 4000000 := by
  have := der_few h.nd h.der hl
  rwa [List.length_append] at this

/-- A block that was there, and isn't the model's. -/
theorem GrowI.blk (h : GrowI ls K O g F n2 R2 n3 R3 w wr v cs O1) {b : Nat} {o : Obj} (hb : w.heap[b]? = some o) (hn : ¬ O b) : wr.heap[b]? = some o := blk_keep hb h.chg.up hn

/-- A range's step turns its own block alone. -/
theorem GrowI.iter (h : GrowI ls K O g F n2 R2 n3 R3 w wr v cs O1) {w' : World} {r : Nat} (hc : Chg (· = r) wr w') (hr : w.heap.size ≤ r) (hrO : ¬ O1 r) (hv : ∀ k, v.ownBlock = some k → k ≠ r) : GrowI ls K O g F n2 R2 n3 R3 w w' v cs O1 :=
  ⟨⟨h.came.own.keep hc hv, h.came.ap⟩, h.ms.keep hc (fun i hi e => hrO (by have : i = r := e; rwa [this] at hi)), h.grew, h.chg.trans hc (fun i hi e => by have : i = r := e; omega), h.nd, h.der⟩

theorem GrowI.base {w0 : World} (h : GrowI ls K O g F n2 R2 n3 R3 w wr v cs O1) (hq : Chg (fun _ => False) w0 w) : GrowI ls K O g F n2 R2 n3 R3 w0 wr v cs O1 :=
  ⟨h.came.low hq.size, h.ms, fun i hi => (h.grew i hi).imp id (fun h => Nat.le_trans hq.size h), hq.none.trans h.chg (fun _ _ h => h), h.nd, h.der⟩

/-- What is there behind put and append. -/
def GrowPut (ls : List CredB) (K O : Nat → Prop) (g : Nat) (F : List FactB) (n2 : Nat) (R2 : RoleB → CredB → Prop) (n3 : Nat) (R3 : List UInt8 → CredB → Prop) (w : World) (v : Value) (cs : List FactB) (O1 : Nat → Prop) (hs : List FactB) (wr w9 : World) (v9 : Value) : Prop :=
  ∃ ao cap cs2, ∃ O2 : Nat → Prop, v9 = .slice ao cs2.length cap ∧ (ao = none → cap = 0) ∧ FactsAt (fun _ => True) w9 ao cs2 ∧ Came w.heap.size O2 w9 v cs ∧ (∀ i, O2 i → i < w9.heap.size) ∧ w.heap.size ≤ w9.heap.size ∧ cs.length + cs2.length ≤ 4000000 ∧ Grew O1 O2 wr ∧ Chg (fun i => O1 i ∧ ¬ K i) wr w9 ∧
    ∀ v' w3, Came w.heap.size O2 w3 v' (cs ++ cs2) → Chg (fun i => w.heap.size ≤ i ∧ ¬ O2 i) w9 w3 → GrowI ls K O g F n2 R2 n3 R3 w w3 v' (cs ++ cs2) O2 ∧ ∀ f, f ∈ F ++ (cs ++ cs2) ↔ f ∈ F ++ cs ∨ f ∈ hs

theorem GrowI.put (h : GrowI ls K O g F n2 R2 n3 R3 w wr v cs O1) (hl : ls.length ≤ 1000) {hs : List FactB} (hH : ∀ f ∈ hs, Der ls f) {w9 : World} {v9 : Value} (hp : PutI K O1 g (F ++ cs) n2 R2 n3 R3 hs wr w9 v9) : GrowPut ls K O g F n2 R2 n3 R3 w v cs O1 hs wr w9 v9 := by
  obtain ⟨cs2, O2, p1, p2, p3, p4, p5, p6⟩ := hp
  obtain ⟨ao, cap, e9, hf, h0⟩ := p1.facts
  have hder : ∀ f ∈ F ++ cs ++ cs2, Der ls f := fun f hf => by
    rcases (p6 f).1 hf with h1 | h1
    · exact h.der f h1
    · exact hH f h1
  have hfew := der_few p5 hder hl
  have hc9 : Chg (fun i => O i ∧ ¬ K i) w w9 := h.chg.stepK h.grew p4
  refine ⟨ao, cap, cs2, O2, e9, h0, hf.mono (fun _ _ => trivial), h.came.keep p4.up p3, p2.lo, hc9.size, by simp at hfew; omega, p3, p4, fun v' w3 hv hc => ⟨⟨hv, ?_, h.grew.trans p3 h.chg.size, ?_, ?_, ?_⟩, fun f => ?_⟩⟩
  · rw [← List.append_assoc]
    exact p2.keep hc (fun i hi e => e.2 hi)
  · exact hc9.trans hc (fun i hi e => by have := e.1; omega)
  · rw [← List.append_assoc]; exact p5
  · rw [← List.append_assoc]; exact hder
  · rw [← List.append_assoc]; exact p6 f

/-- Apart from one block more. -/
theorem Came.more {B : Nat} {O : Nat → Prop} {w : World} {v : Value} {cs : List FactB} (h : Came B O w v cs) {r : Nat} (hv : ∀ k, v.ownBlock = some k → k ≠ r) : Came B (fun i => O i ∨ i = r) w v cs :=
  ⟨h.own, fun k hk e => e.elim (h.ap k hk) (hv k hk)⟩
theorem Came.less {B : Nat} {O : Nat → Prop} {w : World} {v : Value} {cs : List FactB} {r : Nat} (h : Came B (fun i => O i ∨ i = r) w v cs) : Came B O w v cs ∧ ∀ k, v.ownBlock = some k → k ≠ r :=
  ⟨⟨h.own, fun k hk e => h.ap k hk (.inl e)⟩, fun k hk e => h.ap k hk (.inr e)⟩

/-- The credentials that lean on a role, to be ranged over. -/
theorem MS.leanRow (h : MS K O w g F n2 R2 n3 R3) {r : RoleB} (hr : ktR.ok r) :
    ∃ (m : Nat) (y : Option Nat) (xs : List CredB), w.cell? ⟨g, 1, none⟩ = some (.map (some m)) ∧ (∀ c, c ∈ xs ↔ R2 r c) ∧ (∀ c ∈ xs, isCred c = true) ∧ (∀ b, y = some b → K b) ∧ (∀ w', Chg (fun _ => False) w w' → (Instr.lookup 72 (.map (some m)) (ktR.val r) false).run Try.prog w' = .ok (.map y) w') ∧
      ∀ w', Chg (fun _ => False) w w' → ∃ w'' cnt, (Instr.range 76 (.map y)).run Try.prog w' = .ok (.pointer (some ⟨w'.heap.size, 0, none⟩)) w'' ∧ KRange ktC unitElem w'' y w'.heap.size xs cnt ∧ Chg (fun _ => False) w' w'' := by
  obtain ⟨⟨m1, m2, m3, O1, O2, O3, h0, h1, h2, h3, d1, d2, d3⟩, h4, hk, h5⟩ := h
  obtain ⟨y, xs, q1, _, _, q2, q3, q4, q5⟩ := h2.row (t := 72) (e := 76) (t2 := 76) (e2 := 80) Try.underlying72 mZeroIc Try.underlying76 hr
  exact ⟨m2, y, xs, cell_blk h0 1, q1, q2, fun b e => (d2 b (q3 b e)).1, q4, q5⟩

/-- The credentials that are linked by a word, to be ranged over. -/
theorem MS.linkRow (h : MS K O w g F n2 R2 n3 R3) {r : List UInt8} (hr : ktS.ok r) :
    ∃ (m : Nat) (y : Option Nat) (xs : List CredB), w.cell? ⟨g, 2, none⟩ = some (.map (some m)) ∧ (∀ c, c ∈ xs ↔ R3 r c) ∧ (∀ c ∈ xs, isCred c = true) ∧ (∀ b, y = some b → K b) ∧ (∀ w', Chg (fun _ => False) w w' → (Instr.lookup 73 (.map (some m)) (ktS.val r) false).run Try.prog w' = .ok (.map y) w') ∧
      ∀ w', Chg (fun _ => False) w w' → ∃ w'' cnt, (Instr.range 76 (.map y)).run Try.prog w' = .ok (.pointer (some ⟨w'.heap.size, 0, none⟩)) w'' ∧ KRange ktC unitElem w'' y w'.heap.size xs cnt ∧ Chg (fun _ => False) w' w'' := by
  obtain ⟨⟨m1, m2, m3, O1, O2, O3, h0, h1, h2, h3, d1, d2, d3⟩, h4, hk, h5⟩ := h
  obtain ⟨y, xs, q1, _, _, q2, q3, q4, q5⟩ := h3.row (t := 73) (e := 76) (t2 := 76) (e2 := 80) Try.underlying73 mZeroIc Try.underlying76 hr
  exact ⟨m3, y, xs, cell_blk h0 2, q1, q2, fun b e => (d3 b (q3 b e)).1, q4, q5⟩

theorem MS.cong {n2' n3' : Nat} {R2' : RoleB → CredB → Prop} {R3' : List UInt8 → CredB → Prop} (h : MS K O w g F n2 R2 n3 R3) (h2 : ∀ a x, R2 a x ↔ R2' a x) (h3 : ∀ a x, R3 a x ↔ R3' a x) (e2 : n2 ≤ n2') (e3 : n3 ≤ n3') : MS K O w g F n2' R2' n3' R3' := by
  obtain ⟨⟨m1, m2, m3, O1, O2, O3, a0, a1, a2, a3, d1, d2, d3⟩, a4, ak, a5⟩ := h
  exact ⟨⟨m1, m2, m3, O1, O2, O3, a0, a1, (a2.cong h2).le e2, (a3.cong h3).le e3, d1, d2, d3⟩, a4, ak, a5⟩

theorem MS.lean_no (h : MS K O w g F n2 R2 n3 R3) (r : RoleB) (c : CredB) (hr : ktR.ok r) (hc : isCred c = true) (hn : n2 < 4611686018427387904) (hR : R2 r c) :
    ∃ m, w.cell? ⟨g, 1, none⟩ = some (.map (some m)) ∧ ∀ w', Chg (fun _ => False) w w' → Calls Try.prog 101 #[.map (some m), .agg #[.string ⟨r.1.toArray⟩, .string ⟨r.2.toArray⟩], credV c] w' fun e w'' => e = .returned (.bool false) ∧ Chg (fun _ => False) w' w'' := by
  obtain ⟨⟨m1, m2, m3, O1, O2, O3, h0, h1, h2, h3, d1, d2, d3⟩, h4, hk, h5⟩ := h
  refine ⟨m2, cell_blk h0 1, fun w' hcw => ?_⟩
  refine (enter_c m2 n2 _ r c w' (h2.keep hcw (fun _ _ => id)) (fun i hi => Nat.lt_of_lt_of_le (h5 i (hk i (d2 i hi).1)) hcw.size) hr hc hn).mono ?_
  rintro e w'' (⟨_, h6, h7⟩ | ⟨h6, _⟩)
  · exact ⟨h6, h7⟩
  · exact absurd hR h6

/-- What a credential that is entered leaves. -/
def LeanPost (O : Nat → Prop) (g : Nat) (F : List FactB) (n2 : Nat) (R2 : RoleB → CredB → Prop) (n3 : Nat) (R3 : List UInt8 → CredB → Prop) (w w' : World) : Prop :=
  ∃ K' O', MS K' O' w' g F n2 R2 n3 R3 ∧ Grew O O' w ∧ Chg O w w'

theorem MS.lean_yes (h : MS K O w g F n2 R2 n3 R3) (r : RoleB) (c : CredB) (hr : ktR.ok r) (hc : isCred c = true) (hn : n2 < 4611686018427387904) (hR : ¬ R2 r c) :
    ∃ m, w.cell? ⟨g, 1, none⟩ = some (.map (some m)) ∧ ∀ w', Chg (fun _ => False) w w' → Calls Try.prog 101 #[.map (some m), .agg #[.string ⟨r.1.toArray⟩, .string ⟨r.2.toArray⟩], credV c] w' fun e w'' => e = .returned (.bool true) ∧ LeanPost O g F (n2 + 1) (fun a x => R2 a x ∨ (a = r ∧ x = c)) n3 R3 w' w'' ∧ Chg O w' w'' := by
  obtain ⟨⟨m1, m2, m3, O1, O2, O3, h0, h1, h2, h3, d1, d2, d3⟩, h4, hk, h5⟩ := h
  refine ⟨m2, cell_blk h0 1, fun w' hcw => ?_⟩
  refine (enter_c m2 n2 _ r c w' (h2.keep hcw (fun _ _ => id)) (fun i hi => Nat.lt_of_lt_of_le (h5 i (hk i (d2 i hi).1)) hcw.size) hr hc hn).mono ?_
  rintro e w'' (⟨h6, _⟩ | ⟨_, h6, O2', h7, h8, h9, h10⟩)
  · exact absurd h6 hR
  · obtain ⟨K', O', q1, q2, q3⟩ := MS.leans (blk_keep h0 hcw id) (h1.keep hcw (fun _ _ => id)) (h3.keep hcw (fun _ _ => id)) d1 d2 d3 h4 hk (fun i hi => Nat.lt_of_lt_of_le (h5 i hi) hcw.size) h7 h8 h9 h10
    exact ⟨h6, ⟨K', O', q1, q2, q3⟩, q3⟩

theorem MS.link_no (h : MS K O w g F n2 R2 n3 R3) (r : List UInt8) (c : CredB) (hr : ktS.ok r) (hc : isCred c = true) (hn : n3 < 4611686018427387904) (hR : R3 r c) :
    ∃ m, w.cell? ⟨g, 2, none⟩ = some (.map (some m)) ∧ ∀ w', Chg (fun _ => False) w w' → Calls Try.prog 100 #[.map (some m), .string ⟨r.toArray⟩, credV c] w' fun e w'' => e = .returned (.bool false) ∧ Chg (fun _ => False) w' w'' := by
  obtain ⟨⟨m1, m2, m3, O1, O2, O3, h0, h1, h2, h3, d1, d2, d3⟩, h4, hk, h5⟩ := h
  refine ⟨m3, cell_blk h0 2, fun w' hcw => ?_⟩
  refine (enter_l m3 n3 _ r c w' (h3.keep hcw (fun _ _ => id)) (fun i hi => Nat.lt_of_lt_of_le (h5 i (hk i (d3 i hi).1)) hcw.size) hr hc hn).mono ?_
  rintro e w'' (⟨_, h6, h7⟩ | ⟨h6, _⟩)
  · exact ⟨h6, h7⟩
  · exact absurd hR h6

theorem MS.link_yes (h : MS K O w g F n2 R2 n3 R3) (r : List UInt8) (c : CredB) (hr : ktS.ok r) (hc : isCred c = true) (hn : n3 < 4611686018427387904) (hR : ¬ R3 r c) :
    ∃ m, w.cell? ⟨g, 2, none⟩ = some (.map (some m)) ∧ ∀ w', Chg (fun _ => False) w w' → Calls Try.prog 100 #[.map (some m), .string ⟨r.toArray⟩, credV c] w' fun e w'' => e = .returned (.bool true) ∧ LeanPost O g F n2 R2 (n3 + 1) (fun a x => R3 a x ∨ (a = r ∧ x = c)) w' w'' ∧ Chg O w' w'' := by
  obtain ⟨⟨m1, m2, m3, O1, O2, O3, h0, h1, h2, h3, d1, d2, d3⟩, h4, hk, h5⟩ := h
  refine ⟨m3, cell_blk h0 2, fun w' hcw => ?_⟩
  refine (enter_l m3 n3 _ r c w' (h3.keep hcw (fun _ _ => id)) (fun i hi => Nat.lt_of_lt_of_le (h5 i (hk i (d3 i hi).1)) hcw.size) hr hc hn).mono ?_
  rintro e w'' (⟨h6, _⟩ | ⟨_, h6, O3', h7, h8, h9, h10⟩)
  · exact absurd h6 hR
  · obtain ⟨K', O', q1, q2, q3⟩ := MS.links (blk_keep h0 hcw id) (h1.keep hcw (fun _ _ => id)) (h2.keep hcw (fun _ _ => id)) d1 d2 d3 h4 hk (fun i hi => Nat.lt_of_lt_of_le (h5 i hi) hcw.size) h7 h8 h9 h10
    exact ⟨h6, ⟨K', O', q1, q2, q3⟩, q3⟩
end
end Go.Proofs.Ytcdjjengkdbngaa

/- Is somebody in a role? -/
namespace Go.Proofs.Ytcdjjengkdbngaa
open Go.RowKit Go.Maps

def pinSpecs (g A m : Nat) (r : RoleB) (s : List UInt8) (y : Option Nat) (b : Bool) : List Spec := [.eq (.pointer (some ⟨g, 0, none⟩)), .any, .eq (.string ⟨s.toArray⟩), .any, .eq (.pointer (some ⟨A, 0, none⟩)), .any, .any, .ptrE, .eq (.bool b), .any, .any, .eq (.tuple #[.agg #[], .bool b]), .eq (.pointer (some ⟨g, 0, none⟩)), .eq (.pointer (some ⟨g, 0, none⟩)), .eq (.pointer (some ⟨g, 0, none⟩)), .eq (.map (some m)), .eq (.agg #[.string ⟨r.1.toArray⟩, .string ⟨r.2.toArray⟩]), .eq (.map y), .eq (.string ⟨s.toArray⟩), .eq (.tuple #[.agg #[], .bool b]), .eq (.agg #[]), .eq (.bool b), .any]

set_option maxRecDepth 100000 in
set_option maxHeartbeats 1000000 in
theorem pin {K O : Nat → Prop} (g : Nat) (F : List FactB) {n2 n3 : Nat} {R2 : RoleB → CredB → Prop} {R3 : List UInt8 → CredB → Prop} (r : RoleB) (s : List UInt8) (w : World) (h : MS K O w g F n2 R2 n3 R3) (hr : ktR.ok r) (hs : ktS.ok s) :
    Calls Try.prog 12 #[.pointer (some ⟨g, 0, none⟩), .agg #[.string ⟨r.1.toArray⟩, .string ⟨r.2.toArray⟩], .string ⟨s.toArray⟩] w fun e w' => e = .returned (.bool (decide ((r, s) ∈ F))) ∧ Chg (fun _ => False) w w' := by
  have hc1 : Chg (fun _ => False) w (w.alloc (.cells #[.string ⟨r.1.toArray⟩, .string ⟨r.2.toArray⟩] 30)) := (Chg.refl _ w).alloc _
  have hb1 : (w.alloc (.cells #[.string ⟨r.1.toArray⟩, .string ⟨r.2.toArray⟩] 30)).heap[w.heap.size]? = some (.cells #[.string ⟨r.1.toArray⟩, .string ⟨r.2.toArray⟩] 30 (0, 0)) := heap_alloc_new w _
  obtain ⟨⟨m, m2, m3, O1, O2, O3, h0, h1, _⟩, _⟩ := h
  have h0' := blk_keep h0 hc1 id
  obtain ⟨y, b, hb, hl⟩ := (h1.keep hc1 (fun _ _ => id)).ask (t := 71) (e := 85) (t2 := 85) (e2 := 80) Try.underlying71 mZeroIn Try.underlying85 mZeroUn hr hs
  simp only [ktR, ktS] at hl
  have HB : Hid (decide ((r, s) ∈ F) = b) := hid (by cases b with
    | true => simpa using hb
    | false => simpa using hb)
  have x0 := cell_blk h0' 0
  have x1 := cell_blk hb1 0
  have x2 := cell_blk hb1 1
  simp only [List.getElem?_toArray, List.getElem?_cons_zero, List.getElem?_cons_succ] at x0 x1 x2
  have HX := hid (And.intro x0 (And.intro x1 x2))
  have HL := hid hl
  have HC := hid hc1
  clear h0 h1 h0' hb hl x0 x1 x2 hc1 hb1
  go_enter Try.func12, Try.ntmps12
  go_wp2_with fail
  generalize (w.alloc (.cells #[.string ⟨r.1.toArray⟩, .string ⟨r.2.toArray⟩] 30)) = w1 at *
  obtain ⟨A, hAe⟩ : ∃ A, w.heap.size = A := ⟨_, rfl⟩
  simp only [hAe] at HX ⊢
  clear hAe
  refine wp_region_specs (pinSpecs g A m r s y b) [12, 13, 14, 15, 16, 17, 18, 19, 11, 20, 21, 7, 8] [0, 2, 4] (by kernel_rfl) (by kernel_rfl) (by rfl) (by kernel_rfl) ?start ?obs ?fin
  case start =>
    simp only [List.forall_mem_cons]; exact ⟨⟨_, rfl, rfl⟩, ⟨_, rfl, rfl⟩, ⟨_, rfl, rfl⟩, fun _ h => by cases h⟩
  case obs =>
    clear HC HB
    refine Obs.cons none (by kernel_rfl) ?_ ?_
    · refine Ob.plain fun a w hR hk K k => ?_
      obtain ⟨_, e0, f0⟩ := hk 0 (by decide)
      clear hk
      go_simp
      exact k _ _ (Chg.refl _ _) f0
    refine Obs.cons none (by kernel_rfl) ?_ ?_
    · refine Ob.plain fun a w hR hk K k => ?_
      obtain ⟨_, e12, rfl⟩ := hk 12 (by decide)
      clear hk
      go_simp
      exact k _ _ (Chg.refl _ _) rfl
    refine Obs.cons none (by kernel_rfl) ?_ ?_
    · refine Ob.plain fun a w hR hk K k => ?_
      obtain ⟨_, e13, rfl⟩ := hk 13 (by decide)
      clear hk
      go_simp
      exact k _ _ (Chg.refl _ _) rfl
    refine Obs.cons none (by kernel_rfl) ?_ ?_
    · refine Ob.plain fun a w hR hk K k => ?_
      obtain ⟨_, e14, rfl⟩ := hk 14 (by decide)
      clear hk
      have zz := hR.cell HX.out.1 id
      go_simp
      exact k _ _ (Chg.refl _ _) rfl
    refine Obs.cons none (by kernel_rfl) ?_ ?_
    · refine Ob.plain fun a w hR hk K k => ?_
      obtain ⟨_, e4, rfl⟩ := hk 4 (by decide)
      clear hk
      have z0 := hR.cell HX.out.2.1 id
      have z1 := hR.cell HX.out.2.2 id
      go_simp
      exact k _ _ (Chg.refl _ _) rfl
    refine Obs.cons none (by kernel_rfl) ?_ ?_
    · refine Ob.plain fun a w hR hk K k => ?_
      obtain ⟨_, e15, rfl⟩ := hk 15 (by decide)
      obtain ⟨_, e16, rfl⟩ := hk 16 (by decide)
      clear hk
      have q := (HL.out w hR).1
      go_simp
      exact k _ _ (Chg.refl _ _) rfl
    refine Obs.cons none (by kernel_rfl) ?_ ?_
    · refine Ob.plain fun a w hR hk K k => ?_
      obtain ⟨_, e2, f2⟩ := hk 2 (by decide)
      clear hk
      go_simp
      exact k _ _ (Chg.refl _ _) f2
    refine Obs.cons none (by kernel_rfl) ?_ ?_
    · refine Ob.plain fun a w hR hk K k => ?_
      obtain ⟨_, e17, rfl⟩ := hk 17 (by decide)
      obtain ⟨_, e18, rfl⟩ := hk 18 (by decide)
      clear hk
      have q := (HL.out w hR).2
      go_simp
      exact k _ _ (Chg.refl _ _) rfl
    refine Obs.cons none (by kernel_rfl) ?_ ?_
    · refine Ob.plain fun a w hR hk K k => ?_
      obtain ⟨_, e19, f19⟩ := hk 19 (by decide)
      clear hk
      go_simp
      exact k _ _ (Chg.refl _ _) f19
    refine Obs.cons none (by kernel_rfl) ?_ ?_
    · refine Ob.plain fun a w hR hk K k => ?_
      obtain ⟨_, e11, rfl⟩ := hk 11 (by decide)
      clear hk
      go_simp
      exact k _ _ (Chg.refl _ _) rfl
    refine Obs.cons none (by kernel_rfl) ?_ ?_
    · refine Ob.plain fun a w hR hk K k => ?_
      obtain ⟨_, e11, rfl⟩ := hk 11 (by decide)
      clear hk
      go_simp
      exact k _ _ (Chg.refl _ _) rfl
    refine Obs.cons none (by kernel_rfl) ?_ ?_
    · refine Ob.plain fun a w hR hk K k => ?_
      clear hk
      go_simp
      exact k _ _ ((Chg.refl _ _).alloc _) ⟨_, rfl⟩
    refine Obs.cons none (by kernel_rfl) ?_ ?_
    · refine Ob.plain fun a w hR hk K k => ?_
      obtain ⟨_, e7, f7⟩ := hk 7 (by decide)
      obtain ⟨_, e20, rfl⟩ := hk 20 (by decide)
      clear hk
      obtain ⟨bb, rfl⟩ := f7
      go_simp
      exact k undef _ (Chg.refl _ _) trivial
    refine Obs.cons none (by kernel_rfl) ?_ ?_
    · refine Ob.plain fun a w hR hk K k => ?_
      obtain ⟨_, e21, f21⟩ := hk 21 (by decide)
      clear hk
      go_simp
      exact k _ _ (Chg.refl _ _) f21
    exact Obs.nil
  case fin =>
    intro vals w9 hc9 hv
    have h8 : vals 8 = .bool b := hv 8 (by decide)
    simp only [putAll, List.setIfInBounds_toArray, List.set_cons_zero, List.set_cons_succ, h8]
    have HC9 := hid (HC.out.trans hc9 (fun _ _ h => h))
    clear hc9 hv h8 HC HX HL
    go_wp2
    go_ret
    exact ⟨by rw [HB.out]; rfl, HC9.out⟩
end Go.Proofs.Ytcdjjengkdbngaa
