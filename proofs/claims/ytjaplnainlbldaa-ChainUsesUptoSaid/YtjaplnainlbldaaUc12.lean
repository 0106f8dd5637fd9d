/- Texts that the proof leans on, in one: KvMap, RegA, LastW. -/
import Derived.Test.YtjaplnainlbldaaUc11
import Derived.WideKeyEntry
import Derived.Test.YtjaplnainlbldaaUc5
/- Maps of the program's check, as they lie in memory: by what a look-up gives. -/
namespace Go.Proofs.Ytjaplnainlbldaa
open Go.RowKit Go.Maps Go.ChangeMaps Go.WideMaps

/-- Facts. -/
def ktF : KT FactB where
  ty := 26
  val := factV
  lit := factLit
  ok f := factShort f 9223372036854775807
  keyed := factKeyed
  isKey _ := trivial
  reads _ h := factReads h
  inj a b h := by
    obtain ⟨⟨a1, a2⟩, a3⟩ := a
    obtain ⟨⟨b1, b2⟩, b3⟩ := b
    simp [factV, factBox] at h
    obtain ⟨rfl, rfl, rfl⟩ := h
    rfl

variable {α : Type}

/-- The map in the block mb has at most n entries; at a key a lies F a. -/
structure KV (k : KT α) (w : World) (mb n : Nat) (F : α → Option Value) : Prop where
  ex : ∃ M : DataW Value, w.ownsMap Try.prog k.ty heldElem mb n M ∧ ∀ a, k.ok a → Maps.has M (k.lit a) = (F a).isSome ∧ ∀ v, F a = some v → ∀ z, M.atKey (k.lit a) z = .held v

section
variable {k : KT α} {w : World} {mb n : Nat} {F : α → Option Value}

theorem owns_blk {R : Value → Option (DataW Value × List MemPlace)} {w' : World} {ty : TypeId} {M : DataW Value} (h : w.ownsMap Try.prog ty R mb n M) (hb : w'.heap[mb]? = w.heap[mb]?) : w'.ownsMap Try.prog ty R mb n M := by
  obtain ⟨es, clock, h0, r⟩ := h
  exact ⟨es, clock, hb.trans h0, r⟩
theorem KV.blk {w' : World} (h : KV k w mb n F) (hb : w'.heap[mb]? = w.heap[mb]?) : KV k w' mb n F := let ⟨M, h1, h2⟩ := h.ex; ⟨M, owns_blk h1 hb, h2⟩
theorem KV.keep {S : Nat → Prop} {w' : World} (h : KV k w mb n F) (hc : Chg S w w') (hs : ¬ S mb) : KV k w' mb n F := let ⟨M, h1, h2⟩ := h.ex; ⟨M, owns_keep h1 hc hs, h2⟩
theorem KV.lt (h : KV k w mb n F) : mb < w.heap.size := let ⟨_, h1, _⟩ := h.ex; h1.lt
theorem KV.le {n' : Nat} (h : KV k w mb n F) (hn : n ≤ n') : KV k w mb n' F := let ⟨M, h1, h2⟩ := h.ex; ⟨M, h1.mono hn, h2⟩
theorem KV.cong {F' : α → Option Value} (h : KV k w mb n F) (hf : ∀ a, k.ok a → F a = F' a) : KV k w mb n F' := let ⟨M, h1, h2⟩ := h.ex; ⟨M, h1, fun a ha => hf a ha ▸ h2 a ha⟩
theorem kv_made (k : KT α) (w : World) : KV k (w.alloc (.map #[] 0)) w.heap.size 0 (fun _ => none) :=
  ⟨_, World.ownsMap_made w _ _ _, fun _ _ => ⟨rfl, fun _ h => (by cases h)⟩⟩

theorem KV.at {M : DataW Value} (h2 : ∀ a, k.ok a → Maps.has M (k.lit a) = (F a).isSome ∧ ∀ v, F a = some v → ∀ z, M.atKey (k.lit a) z = .held v) {a : α} (ha : k.ok a) {z v : Value} {ps : List MemPlace} (hv : heldElem v = some (M.atKey (k.lit a) (.held z), ps)) : v = (F a).getD z := by
  obtain ⟨q1, q2⟩ := h2 a ha
  cases hF : F a with
  | some u =>
    rw [q2 u hF] at hv
    simp only [heldElem, Option.some.injEq, Prod.mk.injEq, DataW.held.injEq] at hv
    exact hv.1
  | none =>
    rw [hF] at q1
    rw [Maps.atKey_of_not_has q1] at hv
    simp only [heldElem, Option.some.injEq, Prod.mk.injEq, DataW.held.injEq] at hv
    exact hv.1

theorem KV.look {t e : TypeId} (h : KV k w mb n F) (ht : Try.prog.underlying t = some (.map k.ty e)) {z : Value} (hz : (zeroValue e).run Try.prog w = .ok z w) {a : α} (ha : k.ok a) :
    (Instr.lookup t (.map (some mb)) (k.val a) false).run Try.prog w = .ok ((F a).getD z) w := by
  obtain ⟨M, h1, h2⟩ := h.ex
  obtain ⟨v, ps, hrun, hv⟩ := h1.lookup k.keyed ht hz (R := heldElem) rfl (k.reads a ha)
  rw [hrun, KV.at h2 ha hv]

theorem KV.look_ok {t e : TypeId} (h : KV k w mb n F) (ht : Try.prog.underlying t = some (.map k.ty e)) {z : Value} (hz : (zeroValue e).run Try.prog w = .ok z w) {a : α} (ha : k.ok a) :
    (Instr.lookup t (.map (some mb)) (k.val a) true).run Try.prog w = .ok (.tuple #[(F a).getD z, .bool (F a).isSome]) w := by
  obtain ⟨M, h1, h2⟩ := h.ex
  obtain ⟨v, ps, hrun, hv⟩ := h1.look_ok k.keyed ht hz (R := heldElem) rfl (k.reads a ha)
  rw [hrun, KV.at h2 ha hv, (h2 a ha).1]

/-- One more. -/
def putF [DecidableEq α] (F : α → Option Value) (a : α) (v : Value) : α → Option Value := fun b => if b = a then some v else F b

theorem KV.put [DecidableEq α] {M : DataW Value} {w' : World} {n' : Nat} (hM : ∃ m, M = .map m) (h2 : ∀ a, k.ok a → Maps.has M (k.lit a) = (F a).isSome ∧ ∀ v, F a = some v → ∀ z, M.atKey (k.lit a) z = .held v) {a : α} (ha : k.ok a) {v : Value} (h : w'.ownsMap Try.prog k.ty heldElem mb n' (M.put (k.lit a) (.held v))) : KV k w' mb n' (putF F a v) := by
  refine ⟨_, h, fun b hb => ?_⟩
  unfold putF
  by_cases e : b = a
  · subst e
    rw [if_pos rfl]
    exact ⟨by rw [Maps.has_put_same hM (k.isKey _)]; rfl, fun u hu z => by cases hu; exact Maps.atKey_put_same hM (k.isKey _) _ _⟩
  · rw [if_neg e]
    have hne : k.lit b ≠ k.lit a := fun e' => e (k.lit_inj hb ha e')
    obtain ⟨q1, q2⟩ := h2 b hb
    exact ⟨by rw [Maps.has_put_other hne]; exact q1, fun u hu z => by rw [Maps.atKey_put_other hne]; exact q2 u hu z⟩

theorem KV.set [DecidableEq α] {t e : TypeId} (h : KV k w mb n F) (ht : Try.prog.underlying t = some (.map k.ty e)) (hn : n < 9223372036854775807) {a : α} (ha : k.ok a) (v : Value) :
    ∃ w', (Instr.mapUpdate t (.map (some mb)) (k.val a) v).run Try.prog w = .ok () w' ∧ KV k w' mb (n + 1) (putF F a v) ∧ Chg (· = mb) w w' ∧ w'.heap.size = w.heap.size := by
  obtain ⟨M, h1, h2⟩ := h.ex
  obtain ⟨es, clock, hb, Ft, hs, hM⟩ := h1
  obtain ⟨w', hrun, hown, hg⟩ := (show w.ownsMap Try.prog k.ty heldElem mb n M from ⟨es, clock, hb, Ft, hs, hM⟩).update k.keyed ht (by unfold maxLen; omega) (k.reads a ha) (val := v) (d := .held v) (ps := []) rfl
  obtain ⟨es', clock', hrun', _⟩ := Maps.fit_store (R' := heldElem) k.keyed ht hb Ft (Nat.lt_of_le_of_lt hs (by unfold maxLen; omega)) (fun _ _ _ _ hz => hz) (k.reads a ha) (val := v) (yv := (.held v, [])) rfl
  rw [hrun] at hrun'
  cases hrun'
  exact ⟨_, hrun, KV.put (Go.World.ownsMap.isMap ⟨es, clock, hb, Ft, hs, hM⟩) h2 ha hown, (Chg.refl (· = mb) w).grown hg (fun k hk _ => by simpa using hk.symm), by simp [setBlock]⟩

/-- The element at a key, which is then stored anew. -/
theorem KV.entry [DecidableEq α] {t e : TypeId} (h : KV k w mb n F) (K : KeyLaw Try.prog k.ty) (ht : Try.prog.underlying t = some (.map k.ty e)) {z : Value} (hz : ∀ u : World, (zeroValue e).run Try.prog u = .ok z u) (hn : n < 9223372036854775807) {a : α} (ha : k.ok a) :
    ∃ (st : Nat) (w1 : World), (Instr.mapEntry t (.map (some mb)) (k.val a)).run Try.prog w = .ok (.tuple #[(F a).getD z, goInt st]) w1 ∧ Chg (· = mb) w w1 ∧ w1.heap.size = w.heap.size ∧
      ∀ (w2 : World) (v : Value), w2.heap[mb]? = w1.heap[mb]? → ∃ w3, (Instr.entryStore t (.map (some mb)) (goInt st) v).run Try.prog w2 = .ok () w3 ∧ Chg (· = mb) w2 w3 ∧ w3.heap.size = w2.heap.size ∧ KV k w3 mb (n + 1) (putF F a v) := by
  obtain ⟨M, h1, h2⟩ := h.ex
  have h1' := h1
  obtain ⟨es, clock, hb, Ft, hs, hM⟩ := h1
  have hkey := k.reads a ha
  obtain ⟨v0, st, es1, clock1, hrun, hv0, hst⟩ := WideElems.entry_then_store (R := heldElem) K ht hz hb Ft hkey
  have hval : v0 = (F a).getD z := by
    obtain ⟨v, ps, hl, hv⟩ := h1'.lookup k.keyed ht (hz w) (R := heldElem) rfl hkey
    rw [← KV.at h2 ha hv]
    rcases Maps.fit_look false k.keyed ht (hz w) hb Ft hkey with ⟨hr, hno, _⟩ | ⟨e0, y, he0, hk0, hr, _⟩
    · rw [hl] at hr
      cases hr
      rcases hv0 with ⟨e1, h3, h4, _⟩ | ⟨_, h3⟩
      · exact absurd h4 (hno e1 h3)
      · exact h3
    · rw [hl] at hr
      cases hr
      rcases hv0 with ⟨e1, h3, h4, h5⟩ | ⟨h3, _⟩
      · rw [h5, entry_eq_of_key (List.pairwise_map.1 (List.nodup_iff_pairwise_ne.1 Ft.stamped.2.2)) h3 he0 (h4.trans hk0.symm)]
        rfl
      · exact absurd hk0 (h3 e0 he0)
  subst hval
  have hsb : ∀ (u : World) (o : Obj) (es0 : Array MapEntry) (c0 : Nat), u.heap[mb]? = some (.map es0 c0) → Chg (· = mb) u (setBlock u mb o) ∧ (setBlock u mb o).heap.size = u.heap.size ∧ (setBlock u mb o).heap[mb]? = some o := fun u o es0 c0 hu =>
    ⟨(Chg.refl (· = mb) u).grown (row := some mb) ⟨rfl, rfl, rfl, by simp [setBlock], fun i _ hi => heap_setBlock_other hu _ (fun e => hi (by rw [e]))⟩ (fun k hk _ => by simpa using hk.symm), by simp [setBlock], heap_setBlock_same hu _⟩
  obtain ⟨c1, s1, b1⟩ := hsb w (.map es1 clock1) _ _ hb
  refine ⟨st, _, hrun, c1, s1, fun w2 v hw2 => ?_⟩
  rw [b1] at hw2
  obtain ⟨es', clock', hr2, hr3⟩ := hst w2 v hw2
  obtain ⟨c2, s2, b2⟩ := hsb w2 (.map es' clock') _ _ hw2
  obtain ⟨w', hset, hkv, _⟩ := h.set ht hn ha v
  rw [hset] at hr3
  cases hr3
  exact ⟨_, hr2, c2, s2, hkv.blk (by rw [b2, (hsb w (.map es' clock') _ _ hb).2.2])⟩
end
end Go.Proofs.Ytjaplnainlbldaa

/- The rule for a region that draws its order, with a state that hangs on which operations have come up, on the slots and on the world. -/
namespace Go.Proofs.Ytjaplnainlbldaa
open Go.RowKit

/-- What is to be shown of the operation i, W being what holds of the world where the operations of L have come up, S what becomes of a world. -/
def ObA (P : Program) (Q : Exit → Act → World → Prop) (S : World → World → Prop) (W : (Nat → Bool) → Act → World → Prop) (G : Tmp → Value → World → Prop) (i : Nat) (g : Option (Tmp × Bool)) (o : Oper) : Prop :=
  ∀ (L : Nat → Bool) (a : Act) (w : World), L i = false → (∀ e ∈ o.after, Region.binds .any e = true → L e.on = true) → W L a w → (∀ t ∈ looks g o, Knows G a w t) →
    ∀ K : Act → World → Prop, (∀ v w', S w w' → W (upd L i) (a.put o.dst v) w' → Gd G o.dst v w' → K (a.put o.dst v) w') →
      match g with
      | none => o.wp P a w K Q
      | some (t, b) => if says b a.tmps[t]? = true then o.wp P a w K Q else K (a.put o.dst undef) w

inductive ObsA (P : Program) (Q : Exit → Act → World → Prop) (S : World → World → Prop) (W : (Nat → Bool) → Act → World → Prop) (G : Tmp → Value → World → Prop) (ops : Array Oper) : Nat → List Oper → Prop
  | nil {n : Nat} : ObsA P Q S W G ops n []
  | cons {n : Nat} {o : Oper} {l : List Oper} (g : Option (Tmp × Bool)) (hg : gSlot ops o = g) (h : ObA P Q S W G n g o) (hs : ObsA P Q S W G ops (n + 1) l) : ObsA P Q S W G ops n (o :: l)

section
variable {P : Program} {ops : Array Oper} {Q : Exit → Act → World → Prop} {S : World → World → Prop} {W : (Nat → Bool) → Act → World → Prop} {G : Tmp → Value → World → Prop} {a0 : Act} {ds : List Tmp}

theorem ObsA.all {n : Nat} {l : List Oper} (h : ObsA P Q S W G ops n l) : ∀ (i : Nat) (o : Oper), l[i]? = some o → ObA P Q S W G (n + i) (gSlot ops o) o := by
  induction h with
  | nil => intro i o ho; simp at ho
  | @cons k _ _ g hg h hs ih =>
    intro i o ho
    cases i with
    | zero =>
      simp only [List.getElem?_cons_zero, Option.some.injEq] at ho
      subst ho
      rw [hg]
      exact h
    | succ i =>
      simp only [List.getElem?_cons_succ] at ho
      have := ih i o ho
      rwa [show k + 1 + i = k + (i + 1) from by omega] at this

structure RegInvA (ops : Array Oper) (W : (Nat → Bool) → Act → World → Prop) (G : Tmp → Value → World → Prop) (a0 : Act) (listed : Array Bool) (a : Act) (w : World) : Prop where
  len : listed.size = ops.size
  world : W (fun j => listed.getD j false) a w
  defers : a.defers = a0.defers
  size : a.tmps.size = a0.tmps.size
  same : ∀ t, (∀ (i : Nat) (o : Oper), ops[i]? = some o → o.dst ≠ some t) → a.tmps[t]? = a0.tmps[t]?
  known : ∀ (i : Nat) (o : Oper) (t : Tmp), ops[i]? = some o → listed.getD i false = true → o.dst = some t → Knows G a w t
  outs : ∀ t ∈ outsOf ops (dstsOf ops.toList), Knows G a0 w t

theorem region_goA (hds : dstsOf ops.toList = ds) (hnd : ds.Nodup)
    (hok : ∀ (i : Nat) (o : Oper), ops[i]? = some o → (o.guard.isSome = true → (gSlot ops o).isSome = true) ∧ (∀ e ∈ o.after, Region.binds .any e = true → e.on < i) ∧
      (∀ t ∈ looks (gSlot ops o) o, t ∈ ds → ∃ e ∈ o.after, Region.binds .any e = true ∧ (ops[e.on]?).bind (·.dst) = some t))
    (hG : ∀ t v w w', S w w' → G t v w → G t v w')
    (hsize : ∀ t ∈ ds, t < a0.tmps.size)
    (hobs : ∀ (i : Nat) (o : Oper), ops[i]? = some o → ObA P Q S W G i (gSlot ops o) o)
    (hfin : ∀ L a w, (∀ i, i < ops.size → L i = true) → W L a w → a.defers = a0.defers → a.tmps.size = a0.tmps.size → (∀ t, t ∉ ds → a.tmps[t]? = a0.tmps[t]?) → (∀ t ∈ ds, Knows G a w t) → Q .normal a w) :
    ∀ (fuel : Nat) (listed : Array Bool) (a : Act) (w : World), unlisted ops.size listed ≤ fuel → RegInvA ops W G a0 listed a w → wpAny P .any ops Q fuel listed a w := by
  have hend : ∀ (listed : Array Bool) (a : Act) (w : World), Region.ready .any ops listed = [] → RegInvA ops W G a0 listed a w → Q .normal a w := by
    intro listed a w hr hi
    have hall : ∀ (i : Nat), i < ops.size → listed.getD i false = true := by
      intro i
      induction i using Nat.strongRecOn with
      | ind i ih =>
        intro hlt
        refine Decidable.byContradiction fun hne => ?_
        have hmem : i ∈ Region.ready .any ops listed := by
          rw [mem_ready]
          refine ⟨?_, ops[i], Array.getElem?_eq_getElem hlt, fun e he hb => ?_⟩
          · have h1 : i < listed.size := by rw [hi.len]; exact hlt
            simp [h1] at hne ⊢
            exact hne
          · have := (hok i _ (Array.getElem?_eq_getElem hlt)).2.1 e he hb
            exact ih e.on this (by omega)
        rw [hr] at hmem
        cases hmem
    refine hfin (fun j => listed.getD j false) a w hall hi.world hi.defers hi.size (fun t ht => hi.same t fun i o ho hd => ht (mem_ds hds ho hd)) (fun t ht => ?_)
    obtain ⟨i, o, ho, hd⟩ := of_mem_ds hds ht
    exact hi.known i o t ho (hall i (Array.getElem?_eq_some_iff.1 ho).1) hd
  have hzero : ∀ (listed : Array Bool), unlisted ops.size listed = 0 → listed.size = ops.size → Region.ready .any ops listed = [] := by
    intro listed h0 hlen
    refine List.eq_nil_iff_forall_not_mem.2 fun i hi => ?_
    obtain ⟨h1, o, ho, _⟩ := mem_ready.1 hi
    have hlt := (Array.getElem?_eq_some_iff.1 ho).1
    have := List.countP_eq_zero.1 h0 i (List.mem_range.2 hlt)
    have h2 : i < listed.size := by omega
    simp [h2] at h1 this
    rw [h1] at this
    cases this
  intro fuel
  induction fuel with
  | zero =>
    intro listed a w hu hi
    have hr := hzero listed (by omega) hi.len
    exact ⟨hr, hend listed a w hr hi⟩
  | succ fuel ih =>
    intro listed a w hu hi
    refine ⟨fun hr => hend listed a w hr hi, fun i hir => ?_⟩
    obtain ⟨hun, o, ho, hpre⟩ := mem_ready.1 hir
    obtain ⟨hok1, hok2, hok3⟩ := hok i o ho
    have hilt := (Array.getElem?_eq_some_iff.1 ho).1
    have hilt' : i < listed.size := by rw [hi.len]; exact hilt
    have hun' : listed.getD i false = false := by
      simp [hilt'] at hun ⊢
      exact hun
    have hkn : ∀ t ∈ looks (gSlot ops o) o, Knows G a w t := by
      intro t ht
      by_cases hin : t ∈ ds
      · obtain ⟨e, he, hb, hd⟩ := hok3 t ht hin
        cases hoe : ops[e.on]? with
        | none => rw [hoe] at hd; cases hd
        | some p => rw [hoe] at hd; exact hi.known e.on p t hoe (hpre e he hb) hd
      · obtain ⟨v, hv, hg⟩ := hi.outs t (by
          unfold outsOf
          refine List.mem_filter.2 ⟨List.mem_flatMap.2 ⟨o, Array.mem_toList_iff.2 (Array.mem_of_getElem? ho), ht⟩, ?_⟩
          rw [hds]
          simpa using hin)
        exact ⟨v, (hi.same t fun j p hj hd => hin (mem_ds hds hj hd)).trans hv, hg⟩
    have hK : ∀ v w', S w w' → W (upd (fun j => listed.getD j false) i) (a.put o.dst v) w' → Gd G o.dst v w' → wpAny P .any ops Q fuel (listed.setIfInBounds i true) (a.put o.dst v) w' := by
      intro v w' hR hW hg
      refine ih _ _ _ ?_ ⟨by simpa using hi.len, by rw [← upd_listed hilt']; exact hW, ?_, ?_, ?_, ?_, ?_⟩
      · have : unlisted ops.size (listed.setIfInBounds i true) < unlisted ops.size listed := by
          refine countP_lt (fun j hj => ?_) _ i (List.mem_range.2 hilt) ?_ ?_
          · by_cases hji : i = j
            · subst hji
              simp [hilt'] at hj
            · rw [getD_set_ne false hji] at hj
              exact hj
          · simp [hilt'] at hun ⊢
            exact hun
          · simp [hilt']
        omega
      · cases o.dst <;> exact hi.defers
      · cases o.dst with
        | none => exact hi.size
        | some d => simpa [Act.put] using hi.size
      · intro t ht
        rw [← hi.same t ht]
        cases hd : o.dst with
        | none => rfl
        | some d =>
          have : d ≠ t := fun e => ht i o ho (e ▸ hd)
          simp [Act.put, Array.getElem?_setIfInBounds_ne this]
      · intro j p t hj hl hd
        by_cases hji : i = j
        · subst hji
          rw [ho] at hj
          cases hj
          rw [hd] at hg ⊢
          refine ⟨v, ?_, hg⟩
          have hlt : t < a.tmps.size := by rw [hi.size]; exact hsize t (mem_ds hds ho hd)
          simp [Act.put, hlt]
        · rw [getD_set_ne false hji] at hl
          obtain ⟨u, hu1, hu2⟩ := hi.known j p t hj hl hd
          refine ⟨u, ?_, hG _ _ _ _ hR hu2⟩
          cases hod : o.dst with
          | none => exact hu1
          | some d =>
            have hdt : d ≠ t := fun e => hji (nodup_dst ops.toList (by rw [hds]; exact hnd) i j o p t (by simpa using ho) (by simpa using hj) (e ▸ hod) hd)
            simp [Act.put, Array.getElem?_setIfInBounds_ne hdt, hu1]
      · intro t ht
        obtain ⟨u, hu1, hu2⟩ := hi.outs t ht
        exact ⟨u, hu1, hG _ _ _ _ hR hu2⟩
    have hOb := hobs i o ho (fun j => listed.getD j false) a w hun' (fun e he hb => hpre e he hb) hi.world hkn _ hK
    unfold wpOp
    simp only [ho]
    rw [wanted_of hok1]
    cases hgs : gSlot ops o with
    | none =>
      rw [hgs] at hOb
      simp only [if_true]
      exact .inl hOb
    | some tb =>
      obtain ⟨t, b⟩ := tb
      rw [hgs] at hOb
      simp only at hOb ⊢
      split at hOb
      · rename_i h; rw [if_pos h]; exact .inl hOb
      · rename_i h; rw [if_neg h]; exact hOb

/-- The rule with a state. -/
theorem wp_region_stateA {id : Nat} {l : List Oper} {w0 : World} (S : World → World → Prop) (W : (Nat → Bool) → Act → World → Prop) (G : Tmp → Value → World → Prop) (ds outs : List Tmp) (hm : P.follows .mixedOrders = true) (hok : regOk l.toArray ds = true)
    (hW : W (fun _ => false) a0 w0.drew) (hG : ∀ t v w w', S w w' → G t v w → G t v w')
    (hsize : (ds.all fun t => decide (t < a0.tmps.size)) = true) (houts : ((outsOf l.toArray ds).all fun t => outs.contains t) = true)
    (hstart : ∀ t ∈ outs, Knows G a0 w0.drew t)
    (hobs : ObsA P Q S W G l.toArray 0 l)
    (hfin : ∀ (L : Nat → Bool) (vals : Tmp → Value) (w : World), (∀ i, i < l.length → L i = true) → W L ⟨putAll vals ds a0.tmps, a0.defers⟩ w → (∀ t ∈ ds, G t (vals t) w) → Q .normal ⟨putAll vals ds a0.tmps, a0.defers⟩ w) :
    (Code.region id l.toArray true).wp P Q a0 w0 := by
  obtain ⟨h1, h2, h3⟩ := regOk_spec hok
  have hsz : ∀ t ∈ ds, t < a0.tmps.size := fun t ht => by simpa using List.all_eq_true.1 hsize t ht
  refine wp_region_any hm (region_goA (S := S) (W := W) (G := G) (a0 := a0) h1 h2 h3 hG hsz (fun i o ho => by have := hobs.all i o (by simpa using ho); rwa [Nat.zero_add] at this) ?_ _ _ _ _ ?_ ⟨by simp, ?_, rfl, rfl, fun _ _ => rfl, fun i o t ho hl hd => ?_, fun t ht => ?_⟩)
  · intro L a w hL hR hd hs hsame hkn
    have e : a = ⟨putAll (fun t => a.tmps.getD t undef) ds a0.tmps, a0.defers⟩ := by
      obtain ⟨tm, df⟩ := a
      simp only at hd hs hsame hkn ⊢
      rw [hd]
      congr 1
      refine Array.ext' ?_
      refine List.ext_getElem? fun t => ?_
      rw [Array.getElem?_toList, Array.getElem?_toList]
      by_cases ht : t ∈ ds
      · rw [putAll_in _ ds _ t h2 ht (hsz t ht)]
        obtain ⟨v, hv, _⟩ := hkn t ht
        rw [hv, Array.getD_eq_getD_getElem?, hv]
        rfl
      · rw [putAll_out _ ds _ t ht]
        exact hsame t ht
    have hR2 := hR
    rw [e] at hR2 ⊢
    exact hfin L (fun t => a.tmps.getD t undef) w (by simpa using hL) hR2 (fun t ht => by
      obtain ⟨v, hv, hg⟩ := hkn t ht
      have : a.tmps.getD t undef = v := by
        rw [Array.getD_eq_getD_getElem?, hv]
        rfl
      rw [this]
      exact hg)
  · unfold unlisted
    refine Nat.le_trans List.countP_le_length ?_
    simp
  · have : (fun j => (Array.replicate l.toArray.size false).getD j false) = fun _ => false := by
      funext j
      rw [Array.getD_eq_getD_getElem?, Array.getElem?_replicate]
      split <;> rfl
    rw [this]
    exact hW
  · simp [Array.getElem?_replicate] at hl
    split at hl <;> simp at hl
  · rw [h1] at ht
    have h4 := List.all_eq_true.1 houts t ht
    exact hstart t (by simpa using h4)

end

theorem ObA.plain {P : Program} {Q : Exit → Act → World → Prop} {S : World → World → Prop} {W : (Nat → Bool) → Act → World → Prop} {G : Tmp → Value → World → Prop} {i : Nat} {o : Oper}
    (h : ∀ (L : Nat → Bool) (a : Act) (w : World), L i = false → (∀ e ∈ o.after, Region.binds .any e = true → L e.on = true) → W L a w → (∀ t ∈ looks none o, Knows G a w t) →
      ∀ K : Act → World → Prop, (∀ v w', S w w' → W (upd L i) (a.put o.dst v) w' → Gd G o.dst v w' → K (a.put o.dst v) w') → o.wp P a w K Q) : ObA P Q S W G i none o := h

end Go.Proofs.Ytjaplnainlbldaa

/- A region that draws its order, whose last operation writes and leans on all that read: what is so amid it. -/
namespace Go.Proofs.Ytjaplnainlbldaa
open Go.RowKit

/-- Till operation n has come up nothing that was there is turned, and it comes behind the first m; then F is so. -/
structure LastW (n m : Nat) (w0 : World) (F : World → Prop) (L : Nat → Bool) (w : World) : Prop where
  all : L n = true → ∀ j, j < m → L j = true
  pre : L n = false → Chg (fun _ => False) w0 w
  post : L n = true → F w

theorem LastW.start (n m : Nat) (w0 : World) (F : World → Prop) {w : World} (h : Chg (fun _ => False) w0 w) : LastW n m w0 F (fun _ => false) w := ⟨fun h => (by cases h), fun _ => h, fun h => (by cases h)⟩

theorem LastW.not {n m : Nat} {w0 : World} {F : World → Prop} {L : Nat → Bool} {w : World} (h : LastW n m w0 F L w) {j : Nat} (hj : j < m) (hl : L j = false) : L n = false := by
  cases hn : L n with
  | false => rfl
  | true => rw [h.all hn j hj] at hl; cases hl

theorem LastW.early {n m : Nat} {w0 : World} {F : World → Prop} {L : Nat → Bool} {w : World} (h : LastW n m w0 F L w) {j : Nat} (hj : j < m) (hl : L j = false) : Chg (fun _ => False) w0 w := h.pre (h.not hj hl)

theorem LastW.step {n m : Nat} {w0 : World} {F : World → Prop} {L : Nat → Bool} {w w' : World} (h : LastW n m w0 F L w) {j : Nat} (hj : j < m ∧ j ≠ n) (hl : L j = false) (hc : Chg (fun _ => False) w w') : LastW n m w0 F (upd L j) w' := by
  have hn := h.not hj.1 hl
  have e : upd L j n = false := by unfold upd; rw [if_neg (fun e => hj.2 e.symm)]; exact hn
  exact ⟨fun h' => (by rw [e] at h'; cases h'), fun _ => (h.pre hn).trans hc (fun _ _ h => h), fun h' => (by rw [e] at h'; cases h')⟩

theorem LastW.stay {n m : Nat} {w0 : World} {F : World → Prop} {L : Nat → Bool} {w : World} (h : LastW n m w0 F L w) {j : Nat} (hj : j ≠ n) : LastW n m w0 F (upd L j) w := by
  have e : upd L j n = L n := by unfold upd; rw [if_neg (fun e => hj e.symm)]
  refine ⟨fun h' i hi => ?_, fun h' => h.pre (by rw [← e]; exact h'), fun h' => h.post (by rw [← e]; exact h')⟩
  unfold upd
  split
  · rfl
  · exact h.all (by rw [← e]; exact h') i hi

theorem LastW.last {n m : Nat} {w0 : World} {F : World → Prop} {L : Nat → Bool} {w w' : World} (_ : LastW n m w0 F L w) (hall : ∀ j, j < m → L j = true) (hf : F w') : LastW n m w0 F (upd L n) w' := by
  have e : upd L n n = true := by unfold upd; rw [if_pos rfl]
  refine ⟨fun _ i hi => ?_, fun h' => (by rw [e] at h'; cases h'), fun _ => hf⟩
  unfold upd
  split
  · rfl
  · exact hall i hi
end Go.Proofs.Ytjaplnainlbldaa
