/- Texts that the proof leans on, in one: RegE, LastW, RegD. -/
import Derived.Test.YtcbfieodjbfjdaaNc3
/- A rule for a region that draws its order, where one slot is read before the one operation that writes it. -/
namespace Go.Proofs.Ytcbfieodjbfjdaa
open Go.RowKit

/-- What a reader knows of the slots: of te, that it holds ve. -/
def rdE (te : Tmp) (ve : Value) (G : Tmp → Value → World → Prop) (t : Tmp) (v : Value) (w : World) : Prop := if t = te then v = ve else G t v w

def ObE (P : Program) (Q : Exit → Act → World → Prop) (R : World → World → Prop) (GR G : Tmp → Value → World → Prop) (w0 : World) (g : Option (Tmp × Bool)) (o : Oper) : Prop :=
  ∀ (a : Act) (w : World), R w0 w → (∀ t ∈ looks g o, Knows GR a w t) →
    ∀ K : Act → World → Prop, (∀ v w', R w w' → Gd G o.dst v w' → K (a.put o.dst v) w') →
      match g with
      | none => o.wp P a w K Q
      | some (t, b) => if says b a.tmps[t]? = true then o.wp P a w K Q else K (a.put o.dst undef) w

inductive ObsE (P : Program) (Q : Exit → Act → World → Prop) (R : World → World → Prop) (GR G : Tmp → Value → World → Prop) (w0 : World) (ops : Array Oper) : List Oper → Prop
  | nil : ObsE P Q R GR G w0 ops []
  | cons {o : Oper} {l : List Oper} (g : Option (Tmp × Bool)) (hg : gSlot ops o = g) (h : ObE P Q R GR G w0 g o) (hs : ObsE P Q R GR G w0 ops l) : ObsE P Q R GR G w0 ops (o :: l)

theorem ObE.plain {P : Program} {Q : Exit → Act → World → Prop} {R : World → World → Prop} {GR G : Tmp → Value → World → Prop} {w0 : World} {o : Oper}
    (h : ∀ (a : Act) (w : World), R w0 w → (∀ t ∈ looks none o, Knows GR a w t) → ∀ K : Act → World → Prop, (∀ v w', R w w' → Gd G o.dst v w' → K (a.put o.dst v) w') → o.wp P a w K Q) : ObE P Q R GR G w0 none o := h

/-- As regOk, but te may be read ahead of its writer, if the writer leans on each reader by an edge of its own. -/
def regOkE (ops : Array Oper) (ds : List Tmp) (te : Tmp) : Bool :=
  (dstsOf ops.toList == ds) && decide ds.Nodup &&
  ((List.range ops.size).all fun i => match ops[i]? with
    | none => true
    | some o =>
      (match o.guard with | none => true | some _ => (gSlot ops o).isSome) &&
      (o.after.all fun e => !Region.binds .any e || decide (e.on < i)) &&
      ((looks (gSlot ops o) o).all fun t => t == te || (!ds.contains t || o.after.any fun e => Region.binds .any e && ((ops[e.on]?).bind (·.dst) == some t)))) &&
  ((List.range ops.size).all fun j => match ops[j]? with
    | none => true
    | some p => !(p.dst == some te) || ((List.range ops.size).all fun i => match ops[i]? with
      | none => true
      | some o => !(looks (gSlot ops o) o).contains te || p.after.any fun e => Region.binds .any e && (e.on == i)))

section
variable {P : Program} {ops : Array Oper} {Q : Exit → Act → World → Prop} {R : World → World → Prop} {G : Tmp → Value → World → Prop} {w0 : World} {a0 : Act} {ds : List Tmp} {te : Tmp} {ve : Value}

theorem regOkE_spec (h : regOkE ops ds te = true) : dstsOf ops.toList = ds ∧ ds.Nodup ∧ (∀ (i : Nat) (o : Oper), ops[i]? = some o → (o.guard.isSome = true → (gSlot ops o).isSome = true) ∧ (∀ e ∈ o.after, Region.binds .any e = true → e.on < i) ∧
      (∀ t ∈ looks (gSlot ops o) o, t ∈ ds → t ≠ te → ∃ e ∈ o.after, Region.binds .any e = true ∧ (ops[e.on]?).bind (·.dst) = some t)) ∧
      ∀ (j : Nat) (p : Oper), ops[j]? = some p → p.dst = some te → ∀ (i : Nat) (o : Oper), ops[i]? = some o → te ∈ looks (gSlot ops o) o → ∃ e ∈ p.after, Region.binds .any e = true ∧ e.on = i := by
  unfold regOkE at h
  rw [Bool.and_eq_true, Bool.and_eq_true, Bool.and_eq_true] at h
  obtain ⟨⟨⟨h1, h2⟩, h3⟩, h5⟩ := h
  refine ⟨by simpa using h1, by simpa using h2, fun i o ho => ?_, fun j p hj hd i o ho ht => ?_⟩
  · have h4 := List.all_eq_true.1 h3 i (List.mem_range.2 (Array.getElem?_eq_some_iff.1 ho).1)
    rw [ho] at h4
    simp only [Bool.and_eq_true] at h4
    obtain ⟨⟨k1, k2⟩, k3⟩ := h4
    refine ⟨fun hs => ?_, fun e he hb => ?_, fun t ht hd hne => ?_⟩
    · cases hg : o.guard with
      | none => rw [hg] at hs; cases hs
      | some _ => rw [hg] at k1; exact k1
    · have := Array.all_eq_true_iff_forall_mem.1 k2 e he
      simp only [hb, Bool.not_true, Bool.false_or, decide_eq_true_eq] at this
      exact this
    · have := List.all_eq_true.1 k3 t ht
      simp only [Bool.or_eq_true, Bool.not_eq_true', beq_iff_eq] at this
      rcases this with this | this | this
      · exact absurd this hne
      · rw [← List.contains_iff_mem, this] at hd; cases hd
      · obtain ⟨e, he, hb⟩ := Array.any_eq_true'.1 this
        simp only [Bool.and_eq_true, beq_iff_eq] at hb
        exact ⟨e, he, hb.1, hb.2⟩
  · have h6 := List.all_eq_true.1 h5 j (List.mem_range.2 (Array.getElem?_eq_some_iff.1 hj).1)
    rw [hj] at h6
    simp only [hd, beq_self_eq_true, Bool.not_true, Bool.false_or] at h6
    have h7 := List.all_eq_true.1 h6 i (List.mem_range.2 (Array.getElem?_eq_some_iff.1 ho).1)
    rw [ho] at h7
    simp only [List.contains_iff_mem.2 ht, Bool.not_true, Bool.false_or] at h7
    obtain ⟨e, he, hb⟩ := Array.any_eq_true'.1 h7
    simp only [Bool.and_eq_true, beq_iff_eq] at hb
    exact ⟨e, he, hb.1, hb.2⟩

theorem ObsE.all {GR : Tmp → Value → World → Prop} {l : List Oper} (h : ObsE P Q R GR G w0 ops l) : ∀ o ∈ l, ObE P Q R GR G w0 (gSlot ops o) o := by
  induction h with
  | nil => intro o ho; cases ho
  | cons g hg h hs ih =>
    intro o ho
    rcases List.mem_cons.1 ho with rfl | ho
    · rw [hg]; exact h
    · exact ih o ho

structure RegInvE (ops : Array Oper) (R : World → World → Prop) (G : Tmp → Value → World → Prop) (w0 : World) (a0 : Act) (listed : Array Bool) (a : Act) (w : World) : Prop where
  len : listed.size = ops.size
  world : R w0 w
  defers : a.defers = a0.defers
  size : a.tmps.size = a0.tmps.size
  same : ∀ t, (∀ (i : Nat) (o : Oper), ops[i]? = some o → o.dst = some t → listed.getD i false = false) → a.tmps[t]? = a0.tmps[t]?
  known : ∀ (i : Nat) (o : Oper) (t : Tmp), ops[i]? = some o → listed.getD i false = true → o.dst = some t → Knows G a w t
  pre : ∀ (i : Nat) (o : Oper), ops[i]? = some o → listed.getD i false = true → ∀ e ∈ o.after, Region.binds .any e = true → listed.getD e.on false = true

theorem region_goE (hds : dstsOf ops.toList = ds) (hnd : ds.Nodup)
    (hok : ∀ (i : Nat) (o : Oper), ops[i]? = some o → (o.guard.isSome = true → (gSlot ops o).isSome = true) ∧ (∀ e ∈ o.after, Region.binds .any e = true → e.on < i) ∧
      (∀ t ∈ looks (gSlot ops o) o, t ∈ ds → t ≠ te → ∃ e ∈ o.after, Region.binds .any e = true ∧ (ops[e.on]?).bind (·.dst) = some t))
    (hte : ∀ (j : Nat) (p : Oper), ops[j]? = some p → p.dst = some te → ∀ (i : Nat) (o : Oper), ops[i]? = some o → te ∈ looks (gSlot ops o) o → ∃ e ∈ p.after, Region.binds .any e = true ∧ e.on = i) (hve : a0.tmps[te]? = some ve)
    (htrans : ∀ a b c, R a b → R b c → R a c) (hG : ∀ t v w w', R w w' → G t v w → G t v w')
    (hsize : ∀ t ∈ ds, t < a0.tmps.size)
    (hstart : ∀ w, R w0 w → ∀ t ∈ outsOf ops ds, Knows G a0 w t)
    (hobs : ∀ o ∈ ops.toList, ObE P Q R (rdE te ve G) G w0 (gSlot ops o) o)
    (hfin : ∀ a w, R w0 w → a.defers = a0.defers → a.tmps.size = a0.tmps.size → (∀ t, t ∉ ds → a.tmps[t]? = a0.tmps[t]?) → (∀ t ∈ ds, Knows G a w t) → Q .normal a w) :
    ∀ (fuel : Nat) (listed : Array Bool) (a : Act) (w : World), unlisted ops.size listed ≤ fuel → RegInvE ops R G w0 a0 listed a w → wpAny P .any ops Q fuel listed a w := by
  have hend : ∀ (listed : Array Bool) (a : Act) (w : World), Region.ready .any ops listed = [] → RegInvE ops R G w0 a0 listed a w → Q .normal a w := by
    intro listed a w hr hi
    have hall : ∀ (i : Nat), i < ops.size → listed.getD i false = true := by
      intro i
      induction i using Nat.strongRecOn with
      | ind i ih =>
        intro hlt
        refine Decidable.byContradiction fun hne => ?_
        have hmem : i ∈ Region.ready .any ops listed := by
          rw [mem_ready]
          refine ⟨?_, ops[i], Array.getElem?_eq_getElem hlt, fun e he hb => ?_⟩
          · have h1 : i < listed.size := by rw [hi.len]; exact hlt
            simp [h1] at hne ⊢
            exact hne
          · have := (hok i _ (Array.getElem?_eq_getElem hlt)).2.1 e he hb
            exact ih e.on this (by omega)
        rw [hr] at hmem
        cases hmem
    refine hfin a w hi.world hi.defers hi.size (fun t ht => hi.same t fun i o ho hd => absurd (mem_ds hds ho hd) ht) (fun t ht => ?_)
    obtain ⟨i, o, ho, hd⟩ := of_mem_ds hds ht
    exact hi.known i o t ho (hall i (Array.getElem?_eq_some_iff.1 ho).1) hd
  have hzero : ∀ (listed : Array Bool), unlisted ops.size listed = 0 → listed.size = ops.size → Region.ready .any ops listed = [] := by
    intro listed h0 hlen
    refine List.eq_nil_iff_forall_not_mem.2 fun i hi => ?_
    obtain ⟨h1, o, ho, _⟩ := mem_ready.1 hi
    have hlt := (Array.getElem?_eq_some_iff.1 ho).1
    have := List.countP_eq_zero.1 h0 i (List.mem_range.2 hlt)
    have h2 : i < listed.size := by omega
    simp [h2] at h1 this
    rw [h1] at this
    cases this
  intro fuel
  induction fuel with
  | zero =>
    intro listed a w hu hi
    have hr := hzero listed (by omega) hi.len
    exact ⟨hr, hend listed a w hr hi⟩
  | succ fuel ih =>
    intro listed a w hu hi
    refine ⟨fun hr => hend listed a w hr hi, fun i hir => ?_⟩
    obtain ⟨hun, o, ho, hpre⟩ := mem_ready.1 hir
    obtain ⟨hok1, hok2, hok3⟩ := hok i o ho
    have hilt := (Array.getElem?_eq_some_iff.1 ho).1
    have hilt' : i < listed.size := by rw [hi.len]; exact hilt
    have hif : listed.getD i false = false := by
      simp [hilt'] at hun ⊢
      exact hun
    have hkn : ∀ t ∈ looks (gSlot ops o) o, Knows (rdE te ve G) a w t := by
      intro t ht
      by_cases hee : t = te
      · subst hee
        refine ⟨ve, (hi.same t fun j p hj hd => ?_).trans hve, by simp [rdE]⟩
        obtain ⟨e, he, hb, hon⟩ := hte j p hj hd i o ho ht
        refine Decidable.byContradiction fun hl => ?_
        have := hi.pre j p hj (by simpa using hl) e he hb
        rw [hon, hif] at this
        cases this
      refine (?_ : Knows G a w t).imp fun v hv => ⟨hv.1, by rw [rdE, if_neg hee]; exact hv.2⟩
      by_cases hin : t ∈ ds
      · obtain ⟨e, he, hb, hd⟩ := hok3 t ht hin hee
        cases hoe : ops[e.on]? with
        | none => rw [hoe] at hd; cases hd
        | some p => rw [hoe] at hd; exact hi.known e.on p t hoe (hpre e he hb) hd
      · obtain ⟨v, hv, hg⟩ := hstart w hi.world t (by
          unfold outsOf
          refine List.mem_filter.2 ⟨List.mem_flatMap.2 ⟨o, Array.mem_toList_iff.2 (Array.mem_of_getElem? ho), ht⟩, ?_⟩
          simpa using hin)
        exact ⟨v, (hi.same t fun j p hj hd => absurd (mem_ds hds hj hd) hin).trans hv, hg⟩
    have hK : ∀ v w', R w w' → Gd G o.dst v w' → wpAny P .any ops Q fuel (listed.setIfInBounds i true) (a.put o.dst v) w' := by
      intro v w' hR hg
      refine ih _ _ _ ?_ ⟨by simpa using hi.len, htrans _ _ _ hi.world hR, ?_, ?_, ?_, ?_, ?_⟩
      · have : unlisted ops.size (listed.setIfInBounds i true) < unlisted ops.size listed := by
          refine countP_lt (fun j hj => ?_) _ i (List.mem_range.2 hilt) ?_ ?_
          · by_cases hji : i = j
            · subst hji
              simp [hilt'] at hj
            · rw [getD_set_ne false hji] at hj
              exact hj
          · simp [hilt'] at hun ⊢
            exact hun
          · simp [hilt']
        omega
      · cases o.dst <;> exact hi.defers
      · cases o.dst with
        | none => exact hi.size
        | some d => simpa [Act.put] using hi.size
      · intro t ht
        rw [← hi.same t (fun j p hj hd => by
          have h1 := ht j p hj hd
          by_cases hji : i = j
          · subst hji; exact hif
          · rwa [getD_set_ne false hji] at h1)]
        cases hd : o.dst with
        | none => rfl
        | some d =>
          have : d ≠ t := fun e => by
            have h1 := ht i o ho (e ▸ hd)
            simp [hilt'] at h1
          simp [Act.put, Array.getElem?_setIfInBounds_ne this]
      · intro j p t hj hl hd
        by_cases hji : i = j
        · subst hji
          rw [ho] at hj
          cases hj
          rw [hd] at hg ⊢
          refine ⟨v, ?_, hg⟩
          have hlt : t < a.tmps.size := by rw [hi.size]; exact hsize t (mem_ds hds ho hd)
          simp [Act.put, hlt]
        · rw [getD_set_ne false hji] at hl
          obtain ⟨u, hu1, hu2⟩ := hi.known j p t hj hl hd
          refine ⟨u, ?_, hG _ _ _ _ hR hu2⟩
          cases hod : o.dst with
          | none => exact hu1
          | some d =>
            have hdt : d ≠ t := fun e => hji (nodup_dst ops.toList (by rw [hds]; exact hnd) i j o p t (by simpa using ho) (by simpa using hj) (e ▸ hod) hd)
            simp [Act.put, Array.getElem?_setIfInBounds_ne hdt, hu1]
      · intro j p hj hl e he hb
        by_cases hie : i = e.on
        · rw [← hie]; simp [hilt']
        · rw [getD_set_ne false hie]
          by_cases hji : i = j
          · subst hji
            rw [ho] at hj
            cases hj
            exact hpre e he hb
          · rw [getD_set_ne false hji] at hl
            exact hi.pre j p hj hl e he hb
    have hOb := hobs o (Array.mem_toList_iff.2 (Array.mem_of_getElem? ho)) a w hi.world hkn _ hK
    unfold wpOp
    simp only [ho]
    rw [wanted_of hok1]
    cases hgs : gSlot ops o with
    | none =>
      rw [hgs] at hOb
      simp only [if_true]
      exact .inl hOb
    | some tb =>
      obtain ⟨t, b⟩ := tb
      rw [hgs] at hOb
      simp only at hOb ⊢
      split at hOb
      · rename_i h; rw [if_pos h]; exact .inl hOb
      · rename_i h; rw [if_neg h]; exact hOb

theorem wp_region_early {id : Nat} {l : List Oper} (R : World → World → Prop) (G : Tmp → Value → World → Prop) (ds : List Tmp) (hm : P.follows .mixedOrders = true) (te : Tmp) (ve : Value) (hok : regOkE l.toArray ds te = true) (hve : a0.tmps[te]? = some ve)
    (htrans : ∀ a b c, R a b → R b c → R a c) (hdrew : R w0 w0.drew) (hG : ∀ t v w w', R w w' → G t v w → G t v w')
    (hsize : (ds.all fun t => decide (t < a0.tmps.size)) = true) (outs : List Tmp) (houts : outsOf l.toArray ds = outs)
    (hstart : ∀ w, R w0 w → ∀ t ∈ outs, Knows G a0 w t)
    (hobs : ObsE P Q R (rdE te ve G) G w0 l.toArray l)
    (hfin : ∀ (vals : Tmp → Value) (w : World), R w0 w → (∀ t ∈ ds, G t (vals t) w) → Q .normal ⟨putAll vals ds a0.tmps, a0.defers⟩ w) :
    (Code.region id l.toArray true).wp P Q a0 w0 := by
  obtain ⟨h1, h2, h3, h4⟩ := regOkE_spec hok
  subst houts
  have hsz : ∀ t ∈ ds, t < a0.tmps.size := fun t ht => by simpa using List.all_eq_true.1 hsize t ht
  refine wp_region_any hm (region_goE (R := R) (G := G) (w0 := w0) (a0 := a0) (te := te) (ve := ve) h1 h2 h3 h4 hve htrans hG hsz hstart (by simpa using hobs.all) ?_ _ _ _ _ ?_ ⟨by simp, hdrew, rfl, rfl, fun _ _ => rfl, fun i o t ho hl hd => ?_, fun i o ho hl e he hb => ?_⟩)
  · intro a w hR hd hs hsame hkn
    have := hfin (fun t => a.tmps.getD t undef) w hR (fun t ht => by
      obtain ⟨v, hv, hg⟩ := hkn t ht
      have : a.tmps.getD t undef = v := by
        rw [Array.getD_eq_getD_getElem?, hv]
        rfl
      rw [this]
      exact hg)
    have e : a = ⟨putAll (fun t => a.tmps.getD t undef) ds a0.tmps, a0.defers⟩ := by
      obtain ⟨tm, df⟩ := a
      simp only at hd hs hsame hkn ⊢
      rw [hd]
      congr 1
      refine Array.ext' ?_
      refine List.ext_getElem? fun t => ?_
      rw [Array.getElem?_toList, Array.getElem?_toList]
      by_cases ht : t ∈ ds
      · rw [putAll_in _ ds _ t h2 ht (hsz t ht)]
        obtain ⟨v, hv, _⟩ := hkn t ht
        rw [hv, Array.getD_eq_getD_getElem?, hv]
        rfl
      · rw [putAll_out _ ds _ t ht]
        exact hsame t ht
    rw [e]
    exact this
  · unfold unlisted
    refine Nat.le_trans List.countP_le_length ?_
    simp
  · simp [Array.getElem?_replicate] at hl
    split at hl <;> simp at hl
  · simp [Array.getElem?_replicate] at hl
    split at hl <;> simp at hl

end

/-- The rule by specs, where te is read before it is written. -/
theorem wp_region_specsE {P : Program} {Q : Exit → Act → World → Prop} {w0 : World} {a0 : Act} {id : Nat} {l : List Oper} (specs : List Spec) (ds outs : List Tmp) (te : Tmp) (ve : Value) (hm : P.follows .mixedOrders = true) (hok : regOkE l.toArray ds te = true) (hve : a0.tmps[te]? = some ve)
    (hsize : (ds.all fun t => decide (t < a0.tmps.size)) = true) (houts : ((outsOf l.toArray ds).all fun t => outs.contains t) = true)
    (hstart : ∀ t ∈ outs, Knows (specAt specs) a0 w0 t)
    (hobs : ObsE P Q (Chg fun _ => False) (rdE te ve (specAt specs)) (specAt specs) w0 l.toArray l)
    (hfin : ∀ (vals : Tmp → Value) (w : World), Chg (fun _ => False) w0 w → (∀ t ∈ ds, specAt specs t (vals t) w) → Q .normal ⟨putAll vals ds a0.tmps, a0.defers⟩ w) :
    (Code.region id l.toArray true).wp P Q a0 w0 :=
  wp_region_early (R := Chg fun _ => False) (G := specAt specs) (ds := ds) hm te ve hok hve (fun _ _ _ h k => h.trans k (fun _ _ h => h)) (Chg.refl _ _).drew (fun t v w w' hc h => specAt_st specs t v w w' hc h) hsize _ rfl
    (fun w hc t ht => by
      have h1 := List.all_eq_true.1 houts t ht
      obtain ⟨v, hv, hg⟩ := hstart t (by simpa using h1)
      exact ⟨v, hv, specAt_st specs t v w0 w hc hg⟩)
    hobs hfin

end Go.Proofs.Ytcbfieodjbfjdaa

/- A region that draws its order, whose last operation writes and leans on all that read: what is so amid it. -/
namespace Go.Proofs.Ytcbfieodjbfjdaa
open Go.RowKit

end Go.Proofs.Ytcbfieodjbfjdaa

/- A rule for a region that draws its order, with a state: where an operation has come up, all that it leans on have. -/
namespace Go.Proofs.Ytcbfieodjbfjdaa
open Go.RowKit

/-- Where an operation has come up, those that it leans on have. -/
def ClosedL (ops : Array Oper) (L : Nat → Bool) : Prop := ∀ (i : Nat) (o : Oper), ops[i]? = some o → L i = true → ∀ e ∈ o.after, Region.binds .any e = true → L e.on = true

theorem ClosedL.upd {ops : Array Oper} {L : Nat → Bool} (h : ClosedL ops L) {i : Nat} {o : Oper} (ho : ops[i]? = some o) (he : ∀ e ∈ o.after, Region.binds .any e = true → L e.on = true) : ClosedL ops (upd L i) := by
  have mono : ∀ j, L j = true → Proofs.Ytcbfieodjbfjdaa.upd L i j = true := fun j hj => by
    unfold Proofs.Ytcbfieodjbfjdaa.upd
    split
    · rfl
    · exact hj
  intro j p hp hj e hep hb
  by_cases hji : j = i
  · subst hji
    rw [ho] at hp
    cases hp
    exact mono _ (he e hep hb)
  · refine mono _ (h j p hp ?_ e hep hb)
    unfold Proofs.Ytcbfieodjbfjdaa.upd at hj
    rwa [if_neg hji] at hj

end Go.Proofs.Ytcbfieodjbfjdaa
