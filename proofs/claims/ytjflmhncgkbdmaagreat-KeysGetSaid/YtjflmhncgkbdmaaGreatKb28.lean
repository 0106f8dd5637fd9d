/- Texts that the proof leans on, in one: RegE, RefKGreat, OpenB, RoleCells. -/
import Derived.Test.YtjflmhncgkbdmaaGreatKb6
import Derived.Test.YtjflmhncgkbdmaaGreatKb27
import Derived.Test.YtjflmhncgkbdmaaGreatKb15
import Derived.Test.YtjflmhncgkbdmaaGreatRows
import Derived.Test.YtjflmhncgkbdmaaGreatKb2
import Derived.ProofKit
import Derived.OpenShut
import Derived.ShutString
import Derived.ChangeOld
import Derived.Deep.Slices
import Derived.Deep.Fields
import Derived.ChangeSame
import Derived.Test.YtjflmhncgkbdmaaGreatKb1
/- A rule for a region that draws its order, where one slot is read before the one operation that writes it. -/
namespace Go.Proofs.YtjflmhncgkbdmaaGreat
open Go.RowKit

/-- What a reader knows of the slots: of te, that it holds ve. -/
def rdE (te : Tmp) (ve : Value) (G : Tmp → Value → World → Prop) (t : Tmp) (v : Value) (w : World) : Prop := if t = te then v = ve else G t v w

def ObE (P : Program) (Q : Exit → Act → World → Prop) (R : World → World → Prop) (GR G : Tmp → Value → World → Prop) (w0 : World) (g : Option (Tmp × Bool)) (o : Oper) : Prop :=
  ∀ (a : Act) (w : World), R w0 w → (∀ t ∈ looks g o, Knows GR a w t) →
    ∀ K : Act → World → Prop, (∀ v w', R w w' → Gd G o.dst v w' → K (a.put o.dst v) w') →
      match g with
      | none => o.wp P a w K Q
      | some (t, b) => if says b a.tmps[t]? = true then o.wp P a w K Q else K (a.put o.dst undef) w

inductive ObsE (P : Program) (Q : Exit → Act → World → Prop) (R : World → World → Prop) (GR G : Tmp → Value → World → Prop) (w0 : World) (ops : Array Oper) : List Oper → Prop
  | nil : ObsE P Q R GR G w0 ops []
  | cons {o : Oper} {l : List Oper} (g : Option (Tmp × Bool)) (hg : gSlot ops o = g) (h : ObE P Q R GR G w0 g o) (hs : ObsE P Q R GR G w0 ops l) : ObsE P Q R GR G w0 ops (o :: l)

theorem ObE.plain {P : Program} {Q : Exit → Act → World → Prop} {R : World → World → Prop} {GR G : Tmp → Value → World → Prop} {w0 : World} {o : Oper}
    (h : ∀ (a : Act) (w : World), R w0 w → (∀ t ∈ looks none o, Knows GR a w t) → ∀ K : Act → World → Prop, (∀ v w', R w w' → Gd G o.dst v w' → K (a.put o.dst v) w') → o.wp P a w K Q) : ObE P Q R GR G w0 none o := h

/-- As regOk, but te may be read ahead of its writer, if the writer leans on each reader by an edge of its own. -/
def regOkE (ops : Array Oper) (ds : List Tmp) (te : Tmp) : Bool :=
  (dstsOf ops.toList == ds) && decide ds.Nodup &&
  ((List.range ops.size).all fun i => match ops[i]? with
    | none => true
    | some o =>
      (match o.guard with | none => true | some _ => (gSlot ops o).isSome) &&
      (o.after.all fun e => !Region.binds .any e || decide (e.on < i)) &&
      ((looks (gSlot ops o) o).all fun t => t == te || (!ds.contains t || o.after.any fun e => Region.binds .any e && ((ops[e.on]?).bind (·.dst) == some t)))) &&
  ((List.range ops.size).all fun j => match ops[j]? with
    | none => true
    | some p => !(p.dst == some te) || ((List.range ops.size).all fun i => match ops[i]? with
      | none => true
      | some o => !(looks (gSlot ops o) o).contains te || p.after.any fun e => Region.binds .any e && (e.on == i)))

section
variable {P : Program} {ops : Array Oper} {Q : Exit → Act → World → Prop} {R : World → World → Prop} {G : Tmp → Value → World → Prop} {w0 : World} {a0 : Act} {ds : List Tmp} {te : Tmp} {ve : Value}

theorem regOkE_spec (h : regOkE ops ds te = true) : dstsOf ops.toList = ds ∧ ds.Nodup ∧ (∀ (i : Nat) (o : Oper), ops[i]? = some o → (o.guard.isSome = true → (gSlot ops o).isSome = true) ∧ (∀ e ∈ o.after, Region.binds .any e = true → e.on < i) ∧
      (∀ t ∈ looks (gSlot ops o) o, t ∈ ds → t ≠ te → ∃ e ∈ o.after, Region.binds .any e = true ∧ (ops[e.on]?).bind (·.dst) = some t)) ∧
      ∀ (j : Nat) (p : Oper), ops[j]? = some p → p.dst = some te → ∀ (i : Nat) (o : Oper), ops[i]? = some o → te ∈ looks (gSlot ops o) o → ∃ e ∈ p.after, Region.binds .any e = true ∧ e.on = i := by
  unfold regOkE at h
  rw [Bool.and_eq_true, Bool.and_eq_true, Bool.and_eq_true] at h
  obtain ⟨⟨⟨h1, h2⟩, h3⟩, h5⟩ := h
  refine ⟨by simpa using h1, by simpa using h2, fun i o ho => ?_, fun j p hj hd i o ho ht => ?_⟩
  · have h4 := List.all_eq_true.1 h3 i (List.mem_range.2 (Array.getElem?_eq_some_iff.1 ho).1)
    rw [ho] at h4
    simp only [Bool.and_eq_true] at h4
    obtain ⟨⟨k1, k2⟩, k3⟩ := h4
    refine ⟨fun hs => ?_, fun e he hb => ?_, fun t ht hd hne => ?_⟩
    · cases hg : o.guard with
      | none => rw [hg] at hs; cases hs
      | some _ => rw [hg] at k1; exact k1
    · have := Array.all_eq_true_iff_forall_mem.1 k2 e he
      simp only [hb, Bool.not_true, Bool.false_or, decide_eq_true_eq] at this
      exact this
    · have := List.all_eq_true.1 k3 t ht
      simp only [Bool.or_eq_true, Bool.not_eq_true', beq_iff_eq] at this
      rcases this with this | this | this
      · exact absurd this hne
      · rw [← List.contains_iff_mem, this] at hd; cases hd
      · obtain ⟨e, he, hb⟩ := Array.any_eq_true'.1 this
        simp only [Bool.and_eq_true, beq_iff_eq] at hb
        exact ⟨e, he, hb.1, hb.2⟩
  · have h6 := List.all_eq_true.1 h5 j (List.mem_range.2 (Array.getElem?_eq_some_iff.1 hj).1)
    rw [hj] at h6
    simp only [hd, beq_self_eq_true, Bool.not_true, Bool.false_or] at h6
    have h7 := List.all_eq_true.1 h6 i (List.mem_range.2 (Array.getElem?_eq_some_iff.1 ho).1)
    rw [ho] at h7
    simp only [List.contains_iff_mem.2 ht, Bool.not_true, Bool.false_or] at h7
    obtain ⟨e, he, hb⟩ := Array.any_eq_true'.1 h7
    simp only [Bool.and_eq_true, beq_iff_eq] at hb
    exact ⟨e, he, hb.1, hb.2⟩

theorem ObsE.all {GR : Tmp → Value → World → Prop} {l : List Oper} (h : ObsE P Q R GR G w0 ops l) : ∀ o ∈ l, ObE P Q R GR G w0 (gSlot ops o) o := by
  induction h with
  | nil => intro o ho; cases ho
  | cons g hg h hs ih =>
    intro o ho
    rcases List.mem_cons.1 ho with rfl | ho
    · rw [hg]; exact h
    · exact ih o ho

structure RegInvE (ops : Array Oper) (R : World → World → Prop) (G : Tmp → Value → World → Prop) (w0 : World) (a0 : Act) (listed : Array Bool) (a : Act) (w : World) : Prop where
  len : listed.size = ops.size
  world : R w0 w
  defers : a.defers = a0.defers
  size : a.tmps.size = a0.tmps.size
  same : ∀ t, (∀ (i : Nat) (o : Oper), ops[i]? = some o → o.dst = some t → listed.getD i false = false) → a.tmps[t]? = a0.tmps[t]?
  known : ∀ (i : Nat) (o : Oper) (t : Tmp), ops[i]? = some o → listed.getD i false = true → o.dst = some t → Knows G a w t
  pre : ∀ (i : Nat) (o : Oper), ops[i]? = some o → listed.getD i false = true → ∀ e ∈ o.after, Region.binds .any e = true → listed.getD e.on false = true

theorem region_goE (hds : dstsOf ops.toList = ds) (hnd : ds.Nodup)
    (hok : ∀ (i : Nat) (o : Oper), ops[i]? = some o → (o.guard.isSome = true → (gSlot ops o).isSome = true) ∧ (∀ e ∈ o.after, Region.binds .any e = true → e.on < i) ∧
      (∀ t ∈ looks (gSlot ops o) o, t ∈ ds → t ≠ te → ∃ e ∈ o.after, Region.binds .any e = true ∧ (ops[e.on]?).bind (·.dst) = some t))
    (hte : ∀ (j : Nat) (p : Oper), ops[j]? = some p → p.dst = some te → ∀ (i : Nat) (o : Oper), ops[i]? = some o → te ∈ looks (gSlot ops o) o → ∃ e ∈ p.after, Region.binds .any e = true ∧ e.on = i) (hve : a0.tmps[te]? = some ve)
    (htrans : ∀ a b c, R a b → R b c → R a c) (hG : ∀ t v w w', R w w' → G t v w → G t v w')
    (hsize : ∀ t ∈ ds, t < a0.tmps.size)
    (hstart : ∀ w, R w0 w → ∀ t ∈ outsOf ops ds, Knows G a0 w t)
    (hobs : ∀ o ∈ ops.toList, ObE P Q R (rdE te ve G) G w0 (gSlot ops o) o)
    (hfin : ∀ a w, R w0 w → a.defers = a0.defers → a.tmps.size = a0.tmps.size → (∀ t, t ∉ ds → a.tmps[t]? = a0.tmps[t]?) → (∀ t ∈ ds, Knows G a w t) → Q .normal a w) :
    ∀ (fuel : Nat) (listed : Array Bool) (a : Act) (w : World), unlisted ops.size listed ≤ fuel → RegInvE ops R G w0 a0 listed a w → wpAny P .any ops Q fuel listed a w := by
  have hend : ∀ (listed : Array Bool) (a : Act) (w : World), Region.ready .any ops listed = [] → RegInvE ops R G w0 a0 listed a w → Q .normal a w := by
    intro listed a w hr hi
    have hall : ∀ (i : Nat), i < ops.size → listed.getD i false = true := by
      intro i
      induction i using Nat.strongRecOn with
      | ind i ih =>
        intro hlt
        refine Decidable.byContradiction fun hne => ?_
        have hmem : i ∈ Region.ready .any ops listed := by
          rw [mem_ready]
          refine ⟨?_, ops[i], Array.getElem?_eq_getElem hlt, fun e he hb => ?_⟩
          · have h1 : i < listed.size := by rw [hi.len]; exact hlt
            simp [h1] at hne ⊢
            exact hne
          · have := (hok i _ (Array.getElem?_eq_getElem hlt)).2.1 e he hb
            exact ih e.on this (by omega)
        rw [hr] at hmem
        cases hmem
    refine hfin a w hi.world hi.defers hi.size (fun t ht => hi.same t fun i o ho hd => absurd (mem_ds hds ho hd) ht) (fun t ht => ?_)
    obtain ⟨i, o, ho, hd⟩ := of_mem_ds hds ht
    exact hi.known i o t ho (hall i (Array.getElem?_eq_some_iff.1 ho).1) hd
  have hzero : ∀ (listed : Array Bool), unlisted ops.size listed = 0 → listed.size = ops.size → Region.ready .any ops listed = [] := by
    intro listed h0 hlen
    refine List.eq_nil_iff_forall_not_mem.2 fun i hi => ?_
    obtain ⟨h1, o, ho, _⟩ := mem_ready.1 hi
    have hlt := (Array.getElem?_eq_some_iff.1 ho).1
    have := List.countP_eq_zero.1 h0 i (List.mem_range.2 hlt)
    have h2 : i < listed.size := by omega
    simp [h2] at h1 this
    rw [h1] at this
    cases this
  intro fuel
  induction fuel with
  | zero =>
    intro listed a w hu hi
    have hr := hzero listed (by omega) hi.len
    exact ⟨hr, hend listed a w hr hi⟩
  | succ fuel ih =>
    intro listed a w hu hi
    refine ⟨fun hr => hend listed a w hr hi, fun i hir => ?_⟩
    obtain ⟨hun, o, ho, hpre⟩ := mem_ready.1 hir
    obtain ⟨hok1, hok2, hok3⟩ := hok i o ho
    have hilt := (Array.getElem?_eq_some_iff.1 ho).1
    have hilt' : i < listed.size := by rw [hi.len]; exact hilt
    have hif : listed.getD i false = false := by
      simp [hilt'] at hun ⊢
      exact hun
    have hkn : ∀ t ∈ looks (gSlot ops o) o, Knows (rdE te ve G) a w t := by
      intro t ht
      by_cases hee : t = te
      · subst hee
        refine ⟨ve, (hi.same t fun j p hj hd => ?_).trans hve, by simp [rdE]⟩
        obtain ⟨e, he, hb, hon⟩ := hte j p hj hd i o ho ht
        refine Decidable.byContradiction fun hl => ?_
        have := hi.pre j p hj (by simpa using hl) e he hb
        rw [hon, hif] at this
        cases this
      refine (?_ : Knows G a w t).imp fun v hv => ⟨hv.1, by rw [rdE, if_neg hee]; exact hv.2⟩
      by_cases hin : t ∈ ds
      · obtain ⟨e, he, hb, hd⟩ := hok3 t ht hin hee
        cases hoe : ops[e.on]? with
        | none => rw [hoe] at hd; cases hd
        | some p => rw [hoe] at hd; exact hi.known e.on p t hoe (hpre e he hb) hd
      · obtain ⟨v, hv, hg⟩ := hstart w hi.world t (by
          unfold outsOf
          refine List.mem_filter.2 ⟨List.mem_flatMap.2 ⟨o, Array.mem_toList_iff.2 (Array.mem_of_getElem? ho), ht⟩, ?_⟩
          simpa using hin)
        exact ⟨v, (hi.same t fun j p hj hd => absurd (mem_ds hds hj hd) hin).trans hv, hg⟩
    have hK : ∀ v w', R w w' → Gd G o.dst v w' → wpAny P .any ops Q fuel (listed.setIfInBounds i true) (a.put o.dst v) w' := by
      intro v w' hR hg
      refine ih _ _ _ ?_ ⟨by simpa using hi.len, htrans _ _ _ hi.world hR, ?_, ?_, ?_, ?_, ?_⟩
      · have : unlisted ops.size (listed.setIfInBounds i true) < unlisted ops.size listed := by
          refine countP_lt (fun j hj => ?_) _ i (List.mem_range.2 hilt) ?_ ?_
          · by_cases hji : i = j
            · subst hji
              simp [hilt'] at hj
            · rw [getD_set_ne false hji] at hj
              exact hj
          · simp [hilt'] at hun ⊢
            exact hun
          · simp [hilt']
        omega
      · cases o.dst <;> exact hi.defers
      · cases o.dst with
        | none => exact hi.size
        | some d => simpa [Act.put] using hi.size
      · intro t ht
        rw [← hi.same t (fun j p hj hd => by
          have h1 := ht j p hj hd
          by_cases hji : i = j
          · subst hji; exact hif
          · rwa [getD_set_ne false hji] at h1)]
        cases hd : o.dst with
        | none => rfl
        | some d =>
          have : d ≠ t := fun e => by
            have h1 := ht i o ho (e ▸ hd)
            simp [hilt'] at h1
          simp [Act.put, Array.getElem?_setIfInBounds_ne this]
      · intro j p t hj hl hd
        by_cases hji : i = j
        · subst hji
          rw [ho] at hj
          cases hj
          rw [hd] at hg ⊢
          refine ⟨v, ?_, hg⟩
          have hlt : t < a.tmps.size := by rw [hi.size]; exact hsize t (mem_ds hds ho hd)
          simp [Act.put, hlt]
        · rw [getD_set_ne false hji] at hl
          obtain ⟨u, hu1, hu2⟩ := hi.known j p t hj hl hd
          refine ⟨u, ?_, hG _ _ _ _ hR hu2⟩
          cases hod : o.dst with
          | none => exact hu1
          | some d =>
            have hdt : d ≠ t := fun e => hji (nodup_dst ops.toList (by rw [hds]; exact hnd) i j o p t (by simpa using ho) (by simpa using hj) (e ▸ hod) hd)
            simp [Act.put, Array.getElem?_setIfInBounds_ne hdt, hu1]
      · intro j p hj hl e he hb
        by_cases hie : i = e.on
        · rw [← hie]; simp [hilt']
        · rw [getD_set_ne false hie]
          by_cases hji : i = j
          · subst hji
            rw [ho] at hj
            cases hj
            exact hpre e he hb
          · rw [getD_set_ne false hji] at hl
            exact hi.pre j p hj hl e he hb
    have hOb := hobs o (Array.mem_toList_iff.2 (Array.mem_of_getElem? ho)) a w hi.world hkn _ hK
    unfold wpOp
    simp only [ho]
    rw [wanted_of hok1]
    cases hgs : gSlot ops o with
    | none =>
      rw [hgs] at hOb
      simp only [if_true]
      exact .inl hOb
    | some tb =>
      obtain ⟨t, b⟩ := tb
      rw [hgs] at hOb
      simp only at hOb ⊢
      split at hOb
      · rename_i h; rw [if_pos h]; exact .inl hOb
      · rename_i h; rw [if_neg h]; exact hOb

theorem wp_region_early {id : Nat} {l : List Oper} (R : World → World → Prop) (G : Tmp → Value → World → Prop) (ds : List Tmp) (hm : P.follows .mixedOrders = true) (te : Tmp) (ve : Value) (hok : regOkE l.toArray ds te = true) (hve : a0.tmps[te]? = some ve)
    (htrans : ∀ a b c, R a b → R b c → R a c) (hdrew : R w0 w0.drew) (hG : ∀ t v w w', R w w' → G t v w → G t v w')
    (hsize : (ds.all fun t => decide (t < a0.tmps.size)) = true) (outs : List Tmp) (houts : outsOf l.toArray ds = outs)
    (hstart : ∀ w, R w0 w → ∀ t ∈ outs, Knows G a0 w t)
    (hobs : ObsE P Q R (rdE te ve G) G w0 l.toArray l)
    (hfin : ∀ (vals : Tmp → Value) (w : World), R w0 w → (∀ t ∈ ds, G t (vals t) w) → Q .normal ⟨putAll vals ds a0.tmps, a0.defers⟩ w) :
    (Code.region id l.toArray true).wp P Q a0 w0 := by
  obtain ⟨h1, h2, h3, h4⟩ := regOkE_spec hok
  subst houts
  have hsz : ∀ t ∈ ds, t < a0.tmps.size := fun t ht => by simpa using List.all_eq_true.1 hsize t ht
  refine wp_region_any hm (region_goE (R := R) (G := G) (w0 := w0) (a0 := a0) (te := te) (ve := ve) h1 h2 h3 h4 hve htrans hG hsz hstart (by simpa using hobs.all) ?_ _ _ _ _ ?_ ⟨by simp, hdrew, rfl, rfl, fun _ _ => rfl, fun i o t ho hl hd => ?_, fun i o ho hl e he hb => ?_⟩)
  · intro a w hR hd hs hsame hkn
    have := hfin (fun t => a.tmps.getD t undef) w hR (fun t ht => by
      obtain ⟨v, hv, hg⟩ := hkn t ht
      have : a.tmps.getD t undef = v := by
        rw [Array.getD_eq_getD_getElem?, hv]
        rfl
      rw [this]
      exact hg)
    have e : a = ⟨putAll (fun t => a.tmps.getD t undef) ds a0.tmps, a0.defers⟩ := by
      obtain ⟨tm, df⟩ := a
      simp only at hd hs hsame hkn ⊢
      rw [hd]
      congr 1
      refine Array.ext' ?_
      refine List.ext_getElem? fun t => ?_
      rw [Array.getElem?_toList, Array.getElem?_toList]
      by_cases ht : t ∈ ds
      · rw [putAll_in _ ds _ t h2 ht (hsz t ht)]
        obtain ⟨v, hv, _⟩ := hkn t ht
        rw [hv, Array.getD_eq_getD_getElem?, hv]
        rfl
      · rw [putAll_out _ ds _ t ht]
        exact hsame t ht
    rw [e]
    exact this
  · unfold unlisted
    refine Nat.le_trans List.countP_le_length ?_
    simp
  · simp [Array.getElem?_replicate] at hl
    split at hl <;> simp at hl
  · simp [Array.getElem?_replicate] at hl
    split at hl <;> simp at hl

end

/-- The rule by specs, where te is read before it is written. -/
theorem wp_region_specsE {P : Program} {Q : Exit → Act → World → Prop} {w0 : World} {a0 : Act} {id : Nat} {l : List Oper} (specs : List Spec) (ds outs : List Tmp) (te : Tmp) (ve : Value) (hm : P.follows .mixedOrders = true) (hok : regOkE l.toArray ds te = true) (hve : a0.tmps[te]? = some ve)
    (hsize : (ds.all fun t => decide (t < a0.tmps.size)) = true) (houts : ((outsOf l.toArray ds).all fun t => outs.contains t) = true)
    (hstart : ∀ t ∈ outs, Knows (specAt specs) a0 w0 t)
    (hobs : ObsE P Q (Chg fun _ => False) (rdE te ve (specAt specs)) (specAt specs) w0 l.toArray l)
    (hfin : ∀ (vals : Tmp → Value) (w : World), Chg (fun _ => False) w0 w → (∀ t ∈ ds, specAt specs t (vals t) w) → Q .normal ⟨putAll vals ds a0.tmps, a0.defers⟩ w) :
    (Code.region id l.toArray true).wp P Q a0 w0 :=
  wp_region_early (R := Chg fun _ => False) (G := specAt specs) (ds := ds) hm te ve hok hve (fun _ _ _ h k => h.trans k (fun _ _ h => h)) (Chg.refl _ _).drew (fun t v w w' hc h => specAt_st specs t v w w' hc h) hsize _ rfl
    (fun w hc t ht => by
      have h1 := List.all_eq_true.1 houts t ht
      obtain ⟨v, hv, hg⟩ := hstart t (by simpa using h1)
      exact ⟨v, hv, specAt_st specs t v w0 w hc hg⟩)
    hobs hfin

end Go.Proofs.YtjflmhncgkbdmaaGreat

/- How great keys and signed credentials are: the contract of layer 6's Great. -/
namespace Go.Proofs.YtjflmhncgkbdmaaGreat
open Go.RowKit

theorem creds_one {w : World} {g : Nat} {c : CredB} {ty : TypeId} {f : Nat × Nat} (h : w.heap[g]? = some (.cells (credBox c) ty f)) (hs : credShort c 9223372036854775807) : CredsAt (fun _ => True) w (some ⟨g, 0, none⟩) [c] := fun i hi => by
  have : i = 0 := by simp at hi; omega
  subst this
  exact ⟨g, 0, rfl, trivial, cred_at_blk h, hs⟩

/-- A slice of credentials that lie in some block. -/
def Spec.creds (l : List CredB) : Spec := ⟨fun v w => ∃ ao cp, v = .slice ao l.length cp ∧ l = l ∧ CredsAt (fun _ => True) w ao l, fun _ _ _ hc ⟨ao, cp, h1, h2, h3⟩ => ⟨ao, cp, h1, h2, h3.keep hc (fun _ _ => id)⟩⟩
def kgSpecs (A m cap : Nat) (ta : Option Addr) (s : SignB) : List Spec := [.any, .any, .any, .any, .any, .eq (.int .i64 (m + sizeS s : Nat)), .any, .any, .any, .eq (.pointer (some ⟨A, 0, none⟩)), .any, .any, .any, .any, .any, .any, .any, .any, .any, .any, .any, .any, .any, .any, .any, .any, .any, .any, .any, .any, .any, .any, .any, .eq (.int .i64 m), .eq (.pointer (some ⟨A, 0, none⟩)), .eq (credV s.c), .creds [s.c], .eq (.int .i64 (totalC [s.c] : Nat)), .eq (.pointer (some ⟨A, 9, none⟩)), .eq (.slice ta s.tag.length cap), .eq (.int .i64 s.tag.length), .eq (.int .i64 (sizeS s : Nat)), .eq (.int .i64 (m + sizeS s : Nat))]

set_option maxRecDepth 100000 in
set_option maxHeartbeats 4000000 in
theorem kgreat_any {D E : Nat → Prop} (ao so : Option Addr) (cp sp : Nat) (ls : List KeyB) (ss : List SignB) (w : World) (hn : totalK ls + totalS ss ≤ 4503599627370496) (h : KeysAt D w ao ls) (hss : SignsAt E w so ss) :
    Calls Tryz.prog 6 #[.slice ao ls.length cp, .slice so ss.length sp] w fun e w' => e = .returned (.int .i64 (totalK ls + totalS ss : Nat)) ∧ Chg (fun _ => False) w w' := by
  have hl := totalK_len ls
  have hl2 := totalS_len ss
  go_enter Tryz.func6, Tryz.ntmps6
  go_wp2
  go_loopw [5, 12] (fun n i wr => ∃ k m : Nat, k ≤ ls.length ∧ i = .int .i64 k ∧ n = .int .i64 m ∧ Hid (m = totalK (ls.take k)) ∧ m ≤ 4503599627370496 ∧ Chg (fun _ => False) w wr) (fun _ i _ => ls.length - (intOf i).toNat)
  case atStart => exact ⟨0, 0, Nat.zero_le _, rfl, rfl, rfl, by omega, Chg.refl _ _⟩
  case round =>
    obtain ⟨k, m, hk, rfl, rfl, hm, hml, hc⟩ := hrel
    by_cases hlt : k < ls.length
    · obtain ⟨b, off, rfl, _, hat⟩ := (h.keep hc (fun _ _ => id)) k hlt
      have ht := totalK_take ls k hlt
      have hle := totalK_take_le ls (k + 1)
      rw [ht, ← hm.out] at hle
      have hx : Hid (m + sizeK ls[k] = totalK (ls.take (k + 1))) := hid (by rw [ht, hm.out])
      clear h ht
      have hsl2 : m + sizeK ls[k] ≤ 4503599627370496 := by omega
      clear hle
      generalize ls[k] = s at *
      obtain ⟨a0, ⟨ka, cap, a1, _⟩, s1, s2⟩ := hat
      simp only [sizeK] at a0 a1 s1 s2 hx hsl2
      have HC := hid hc
      clear hc hss
      go_wp2
      go_roundw
      case rel => exact ⟨k + 1, m + (10 + s.who.length + s.key.length), by omega, by go_num, by go_num, hx, hsl2, HC.out.alloc _⟩
      case measure => simp [intOf]; omega
    · have hk2 : k = ls.length := by omega
      have hx : m = totalK ls := by have := hm.out; rwa [List.take_of_length_le (by omega)] at this
      subst hx
      have HC := hid hc
      clear h hc hm
      go_wp2
      have hc := HC.out
      clear HC
      go_loopw [5, 29] (fun n i wr => ∃ k m : Nat, k ≤ ss.length ∧ i = .int .i64 k ∧ n = .int .i64 m ∧ Hid (m = totalK ls + totalS (ss.take k)) ∧ m ≤ 4503599627370496 ∧ Chg (fun _ => False) w wr) (fun _ i _ => ss.length - (intOf i).toNat)
      case atStart => exact ⟨0, totalK ls, Nat.zero_le _, rfl, rfl, hid (by simp [totalS]), by omega, hc⟩
      case round =>
        obtain ⟨k, m, hk, rfl, rfl, hm, hml, hc⟩ := hrel
        by_cases hlt : k < ss.length
        · obtain ⟨b, off, rfl, _, hat⟩ := (hss.keep hc (fun _ _ => id)) k hlt
          have ht := totalS_take ss k hlt
          have hle := totalS_take_le ss (k + 1)
          rw [ht] at hle
          have hx : Hid (m + sizeS ss[k] = totalK ls + totalS (ss.take (k + 1))) := hid (by rw [ht, hm.out]; omega)
          have hsl2 : m + sizeS ss[k] ≤ 4503599627370496 := by have := hm.out; omega
          clear hss ht hle
          generalize ss[k] = s at *
          obtain ⟨⟨a0, a1, a2, a3, a4, a5, a6, a7, a8⟩, ⟨ta, cap, a9, hbt⟩, hsh, hln⟩ := hat
          have HC := hid (And.intro hc (And.intro hbt hsh))
          clear hc hbt hsh
          go_wp2
          have hA : (wr.alloc (.cells #[.int .i64 s.c.kind, .string ⟨s.c.head.1.toArray⟩, .string ⟨s.c.head.2.toArray⟩, .string ⟨s.c.who.toArray⟩, .string ⟨s.c.b.1.toArray⟩, .string ⟨s.c.b.2.toArray⟩, .string ⟨s.c.c.1.toArray⟩, .string ⟨s.c.c.2.toArray⟩, .string ⟨s.c.w2.toArray⟩, .slice ta s.tag.length cap] 38)).heap[wr.heap.size]? = some (.cells (signBox s.c (.slice ta s.tag.length cap)) 38 (0, 0)) := heap_alloc_new wr _
          have hcA : Chg (fun _ => False) w (wr.alloc (.cells #[.int .i64 s.c.kind, .string ⟨s.c.head.1.toArray⟩, .string ⟨s.c.head.2.toArray⟩, .string ⟨s.c.who.toArray⟩, .string ⟨s.c.b.1.toArray⟩, .string ⟨s.c.b.2.toArray⟩, .string ⟨s.c.c.1.toArray⟩, .string ⟨s.c.c.2.toArray⟩, .string ⟨s.c.w2.toArray⟩, .slice ta s.tag.length cap] 38)) := HC.out.1.alloc _
          have HA := hid hA
          have hy1 : sizeS s = totalC [s.c] + s.tag.length := by simp [totalC, sizeS]
          have HG : Hid (totalC [s.c] ≤ 4503599627370496) := hid (by omega)
          have HB1 := hid hcA
          have HSH := hid HC.out.2.2
          clear hA hcA HC a0 a1 a2 a3 a4 a5 a6 a7 a8 a9 hm
          generalize (wr.alloc (.cells #[.int .i64 s.c.kind, .string ⟨s.c.head.1.toArray⟩, .string ⟨s.c.head.2.toArray⟩, .string ⟨s.c.who.toArray⟩, .string ⟨s.c.b.1.toArray⟩, .string ⟨s.c.b.2.toArray⟩, .string ⟨s.c.c.1.toArray⟩, .string ⟨s.c.c.2.toArray⟩, .string ⟨s.c.w2.toArray⟩, .slice ta s.tag.length cap] 38)) = wa at *
          generalize wr.heap.size = A at *
          refine wp_region_specsE (kgSpecs A m cap ta s) [33, 34, 35, 36, 37, 38, 39, 40, 41, 42, 5] [9] 5 (.int .i64 m) (by kernel_rfl) (by kernel_rfl) (by rfl) (by rfl) (by kernel_rfl) ?start ?obs ?fin
          case start =>
            simp only [List.forall_mem_cons]
            exact ⟨⟨_, rfl, rfl⟩, fun _ h => by cases h⟩
          case obs =>
            refine ObsE.cons none (by kernel_rfl) ?_ ?_
            · refine ObE.plain fun a w hR hk K k => ?_
              obtain ⟨_, e5, f5⟩ := hk 5 (by decide)
              clear hk
              go_simp
              exact k _ _ (Chg.refl _ _) f5
            refine ObsE.cons none (by kernel_rfl) ?_ ?_
            · refine ObE.plain fun a w hR hk K k => ?_
              obtain ⟨_, e9, rfl⟩ := hk 9 (by decide)
              clear hk
              go_simp
              exact k _ _ (Chg.refl _ _) rfl
            refine ObsE.cons none (by kernel_rfl) ?_ ?_
            · refine ObE.plain fun a w hR hk K k => ?_
              obtain ⟨_, e34, rfl⟩ := hk 34 (by decide)
              clear hk
              obtain ⟨hq, y9⟩ := cred_at_sign (blk_keep HA.out hR id)
              obtain ⟨y0, y1, y2, y3, y4, y5, y6, y7, y8⟩ := hq
              simp only [Nat.zero_add] at y0 y1 y2 y3 y4 y5 y6 y7 y8
              go_simp
              exact k _ _ (Chg.refl _ _) rfl
            refine ObsE.cons none (by kernel_rfl) ?_ ?_
            · refine ObE.plain fun a w hR hk K k => ?_
              obtain ⟨_, e35, rfl⟩ := hk 35 (by decide)
              clear hk
              unfold credV credBox at e35
              go_simp
              exact k (.slice (some ⟨w.heap.size, 0, none⟩) 1 1) _ ((Chg.refl _ w).alloc _) ⟨_, _, rfl, rfl, creds_one (heap_alloc_new w (.cells (credBox s.c) 35)) HSH.out⟩
            refine ObsE.cons none (by kernel_rfl) ?_ ?_
            · refine ObE.plain fun a w hR hk K k => ?_
              obtain ⟨_, e36, f36⟩ := hk 36 (by decide)
              clear hk
              obtain ⟨b, cap, rfl, _, hcr⟩ := f36
              have HB := hid hcr
              clear hcr
              go_simp
              refine (great_any (D := fun _ => True) _ _ [s.c] w HG.out HB.out).mono ?_
              rintro e w5 ⟨rfl, hcc⟩
              exact k _ _ hcc rfl
            refine ObsE.cons none (by kernel_rfl) ?_ ?_
            · refine ObE.plain fun a w hR hk K k => ?_
              obtain ⟨_, e9, rfl⟩ := hk 9 (by decide)
              clear hk
              go_simp
              exact k _ _ (Chg.refl _ _) rfl
            refine ObsE.cons none (by kernel_rfl) ?_ ?_
            · refine ObE.plain fun a w hR hk K k => ?_
              obtain ⟨_, e38, rfl⟩ := hk 38 (by decide)
              clear hk
              obtain ⟨hq, y9⟩ := cred_at_sign (blk_keep HA.out hR id)
              obtain ⟨y0, y1, y2, y3, y4, y5, y6, y7, y8⟩ := hq
              simp only [Nat.zero_add] at y0 y1 y2 y3 y4 y5 y6 y7 y8
              go_simp
              exact k _ _ (Chg.refl _ _) rfl
            refine ObsE.cons none (by kernel_rfl) ?_ ?_
            · refine ObE.plain fun a w hR hk K k => ?_
              obtain ⟨_, e39, rfl⟩ := hk 39 (by decide)
              clear hk
              go_simp
              exact k _ _ (Chg.refl _ _) rfl
            refine ObsE.cons none (by kernel_rfl) ?_ ?_
            · refine ObE.plain fun a w hR hk K k => ?_
              obtain ⟨_, e37, rfl⟩ := hk 37 (by decide)
              obtain ⟨_, e40, rfl⟩ := hk 40 (by decide)
              clear hk
              have hw1 : IntKind.i64.wrap (((totalC [s.c] : Nat) : Int) + (s.tag.length : Int)) = ((sizeS s : Nat) : Int) := by rw [IntKind.wrap_i64]; omega
              go_simp
              exact k _ _ (Chg.refl _ _) rfl
            refine ObsE.cons none (by kernel_rfl) ?_ ?_
            · refine ObE.plain fun a w hR hk K k => ?_
              obtain ⟨_, e33, rfl⟩ := hk 33 (by decide)
              obtain ⟨_, e41, rfl⟩ := hk 41 (by decide)
              clear hk
              clear hy1
              have hw1 : IntKind.i64.wrap ((m : Int) + ((sizeS s : Nat) : Int)) = ((m + sizeS s : Nat) : Int) := by rw [IntKind.wrap_i64]; omega
              go_simp
              exact k _ _ (Chg.refl _ _) rfl
            refine ObsE.cons none (by kernel_rfl) ?_ ?_
            · refine ObE.plain fun a w hR hk K k => ?_
              obtain ⟨_, e42, f42⟩ := hk 42 (by decide)
              clear hk
              go_simp
              exact k _ _ (Chg.refl _ _) f42
            exact ObsE.nil
          case fin =>
            intro vals w9 hc9 hv
            have h5 : vals 5 = .int .i64 (m + sizeS s : Nat) := hv 5 (by decide)
            have HF := hid (HB1.out.trans hc9 (fun _ _ h => h))
            clear hv hc9 HB1 HA HSH
            simp only [putAll, List.setIfInBounds_toArray, List.set_cons_zero, List.set_cons_succ, h5]
            clear h5
            go_wp2
            go_roundw
            case rel => exact ⟨k + 1, m + sizeS s, by omega, by go_num, rfl, hx, hsl2, HF.out⟩
            case measure => simp [intOf]; omega
        · have hk2 : k = ss.length := by omega
          have hx : m = totalK ls + totalS ss := by have := hm.out; rwa [List.take_of_length_le (by omega)] at this
          subst hx
          have HC := hid hc
          clear hss hc
          go_wp2
          go_ret
          exact ⟨rfl, HC.out⟩
end Go.Proofs.YtjflmhncgkbdmaaGreat

/- The arguments of laws, opened to cells: bytes, a small array. -/
namespace Go.Proofs.YtjflmhncgkbdmaaGreat
open Go.ChangeShapes Go.WideShapes Go.ChangeAt Go.RowKit Go.Deep

theorem Tryz.own : ownKnob Tryz.prog.godebug = none := by kernel_rfl
theorem Tryz.laidOut : laidOutB Tryz.prog = true := by kernel_rfl

theorem spot_none {w : World} {a : Addr} {v : Value} (h : w.cell? a = some v) : a = ⟨a.block, a.off, none⟩ := by
  obtain ⟨b, o, s⟩ := a
  cases s with
  | none => rfl
  | some x =>
    simp only [World.cell?] at h
    split at h
    · simp at h
    · cases h

theorem add_zero (a : Addr) : a.add 0 = a := by
  unfold Addr.add
  simp

theorem wf_u8 {n : Int} (h : (Lit.int .u8 n).wf = true) : 0 ≤ n ∧ n ≤ 255 := by
  have hmin : IntKind.u8.min = 0 := rfl
  have hmax : IntKind.u8.max = 255 := rfl
  simp only [Lit.wf, Bool.and_eq_true, decide_eq_true_eq] at h
  omega

theorem wf_i64 {n : Int} (h : (Lit.int .i64 n).wf = true) : -9223372036854775808 ≤ n ∧ n ≤ 9223372036854775807 := by
  have hmin : IntKind.i64.min = -9223372036854775808 := rfl
  have hmax : IntKind.i64.max = 9223372036854775807 := rfl
  simp only [Lit.wf, Bool.and_eq_true, decide_eq_true_eq] at h
  omega

section
variable {H : Type} {enc : TypeId × Value → H} {w : World} {base : Nat} {held : Bool} {fuel : Nat}

theorem open_bytes {cs : List Value} {x : DataW H × List MemPlace} (h : DataW.trod enc Tryz.prog w base (fun _ => true) held fuel 36 cs = some x) :
    ∃ (ao : Option Addr) (cap : Nat) (l : List UInt8), cs = [.slice ao l.length cap] ∧ l.length ≤ 9223372036854775807 ∧ BytesAt (fun k => k < w.heap.size) w (.slice ao l.length cap) l := by
  rcases open_ints Tryz.underlying36 Tryz.underlying5 (by kernel_rfl) h with ⟨rfl, _⟩ | ⟨a, len, cap, zs, rfl, _, hl, hm, hz, _, hcell, hwz⟩
  · exact ⟨none, 0, [], rfl, by simp, BytesAt.nil _ _⟩
  · simp only [if_true] at hz
    have hlen : ((zs.take len).map fun n => UInt8.ofNat n.toNat).length = len := by simp; omega
    refine ⟨some a, cap, (zs.take len).map fun n => UInt8.ofNat n.toNat, by rw [hlen], by rw [hlen]; unfold maxLen at hm; omega, ?_⟩
    rw [hlen]
    by_cases h0 : len = 0
    · subst h0
      exact .inl ⟨some a, cap, rfl, by simp, fun h => by cases h⟩
    · have h1 := hcell 0 (by omega)
      rw [add_zero] at h1
      have ha := spot_none h1
      have hlt := World.block_lt_of_cell? w _ h1
      refine .inr ⟨a.block, a.off, cap, by rw [hlen]; exact congrArg (fun z => Value.slice (some z) len cap) ha, by rw [hlen]; exact hl, hm, hlt, fun i hi => ?_⟩
      rw [hlen] at hi
      have h2 := hcell i (by omega)
      rw [ha, add_off] at h2
      rw [h2]
      have hget : zs.getD i 0 = zs[i]'(by omega) := by simp [List.getD, show i < zs.length by omega]
      have hb := wf_u8 (hwz _ (List.getElem_mem (show i < zs.length by omega)))
      rw [hget]
      congr 2
      simp only [List.getElem_map, List.getElem_take]
      rw [ofNat_u8 _ (by omega)]
      omega

theorem okWide_array {P : Program} {w : World} {r : Reach} {base : Nat} {t e : TypeId} {n : Nat} {v : Value} (ht : P.underlying t = some (.array n e)) (h : Value.okWide P w r base t v) : ∃ cs, v = .agg cs ∧ cs.size = P.cellsOf t := by
  simp only [Value.okWide, ht] at h
  obtain ⟨cs, h1, h2, _⟩ := h
  exact ⟨cs, h1, h2⟩

end

end Go.Proofs.YtjflmhncgkbdmaaGreat

/- A role that came in, opened to its cells. -/
namespace Go.Proofs.YtjflmhncgkbdmaaGreat
open Go.ChangeShapes Go.WideShapes Go.ChangeAt Go.RowKit Go.Deep

theorem choose_roles {α : Type} (n : Nat) (p : Nat → α → Prop) (h : ∀ i, i < n → ∃ x, p i x) : ∃ l : List α, l.length = n ∧ ∀ i (hi : i < l.length), p i l[i] := by
  induction n with
  | zero => exact ⟨[], rfl, fun i hi => by simp at hi⟩
  | succ n ih =>
    obtain ⟨l, hl, hp⟩ := ih (fun i hi => h i (by omega))
    obtain ⟨x, hx⟩ := h n (by omega)
    refine ⟨l ++ [x], by simp [hl], fun i hi => ?_⟩
    by_cases hin : i < l.length
    · rw [List.getElem_append_left hin]
      exact hp i hin
    · have : i = n := by simp [hl] at hi; omega
      subst this
      rw [List.getElem_append_right (by omega)]
      simpa [hl] using hx

section
variable {H : Type} {enc : TypeId × Value → H} {w : World} {base : Nat} {held : Bool} {fuel : Nat}

set_option maxRecDepth 100000 in
/-- Two cells that are read as a role. -/
theorem open_role_cells {spare : Nat → Bool} {cs : List Value} {x : DataW H × List MemPlace} (h : DataW.trod enc Tryz.prog w base spare held fuel 33 cs = some x) :
    ∃ r : RoleB, cs = roleCells r ∧ r.1.length ≤ 9223372036854775807 ∧ r.2.length ≤ 9223372036854775807 ∧ 1 + r.1.length + r.2.length ≤ Rows.uptoBulk x.1 := by
  obtain ⟨y0, y1, n, rfl, hl, h0, h1⟩ := trod_struct2 Tryz.underlying33 h
  have hc : Tryz.prog.cellsOf 33 = 2 := by kernel_rfl
  rw [hc] at hl
  match cs, hl with
  | [c0, c1], _ =>
    have e0 : DataW.trod enc Tryz.prog w base spare held n 9 [c0] = some y0 := h0
    have e1 : DataW.trod enc Tryz.prog w base spare held n 9 [c1] = some y1 := h1
    obtain ⟨s0, hs0, rfl, hm0⟩ := DataW.trod_string Tryz.underlying9 e0
    obtain ⟨s1, hs1, rfl, hm1⟩ := DataW.trod_string Tryz.underlying9 e1
    simp only [List.cons.injEq, and_true] at hs0 hs1
    subst hs0
    subst hs1
    unfold maxLen at hm0 hm1
    refine ⟨(s0.data.toList, s1.data.toList), rfl, hm0, hm1, ?_⟩
    simp [Rows.uptoBulk, Rows.uptoBulkAll]
    omega

set_option maxRecDepth 100000 in
/-- A role that came in. -/
theorem open_role {base0 : Nat} {r : Reach} {v : Value} {d : DataW H} {ps : List MemPlace} {spare : Nat → Bool} (hval : Value.okWide Tryz.prog w r base0 33 v) (hd : DataW.Trod enc Tryz.prog w base spare held 33 v d ps) :
    ∃ x : RoleB, v = roleV x ∧ x.1.length ≤ 9223372036854775807 ∧ x.2.length ≤ 9223372036854775807 ∧ 1 + x.1.length + x.2.length ≤ Rows.uptoBulk d := by
  obtain ⟨cs, rfl, _⟩ := okWide_struct Tryz.underlying33 hval
  obtain ⟨n, hn⟩ := hd
  obtain ⟨x, hx, h1, h2, h3⟩ := open_role_cells hn
  refine ⟨x, ?_, h1, h2, h3⟩
  have : cs.toList = roleCells x := hx
  have e : cs = (roleCells x).toArray := by rw [← this]
  rw [e]
  rfl
end
end Go.Proofs.YtjflmhncgkbdmaaGreat
