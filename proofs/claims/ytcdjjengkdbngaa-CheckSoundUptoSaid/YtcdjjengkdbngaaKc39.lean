/- Texts that the proof leans on, in one: RegT, RNum. -/
import Derived.Test.YtcdjjengkdbngaaKc9
import Derived.Test.YtcdjjengkdbngaaKc22
import Derived.Test.YtcdjjengkdbngaaKc6
/- The rule for a region that draws its order, with a state that hangs on the slots, where one slot is read ahead of the operation that writes it. -/
namespace Go.Proofs.Ytcdjjengkdbngaa
open Go.RowKit

/-- What is to be shown of the operation i, W being what holds of the world where the operations of L have come up, S what becomes of a world. -/
def ObT (te : Tmp) (P : Program) (Q : Exit → Act → World → Prop) (S : World → World → Prop) (W : (Nat → Bool) → Act → World → Prop) (G : Tmp → Value → World → Prop) (i : Nat) (g : Option (Tmp × Bool)) (o : Oper) : Prop :=
  ∀ (L : Nat → Bool) (a : Act) (w : World), L i = false → (∀ e ∈ o.after, Region.binds .any e = true → L e.on = true) → W L a w → (∀ t ∈ looks g o, t ≠ te → Knows G a w t) →
    ∀ K : Act → World → Prop, (∀ v w', S w w' → W (upd L i) (a.put o.dst v) w' → Gd G o.dst v w' → K (a.put o.dst v) w') →
      match g with
      | none => o.wp P a w K Q
      | some (t, b) => if says b a.tmps[t]? = true then o.wp P a w K Q else K (a.put o.dst undef) w

inductive ObsT (te : Tmp) (P : Program) (Q : Exit → Act → World → Prop) (S : World → World → Prop) (W : (Nat → Bool) → Act → World → Prop) (G : Tmp → Value → World → Prop) (ops : Array Oper) : Nat → List Oper → Prop
  | nil {n : Nat} : ObsT te P Q S W G ops n []
  | cons {n : Nat} {o : Oper} {l : List Oper} (g : Option (Tmp × Bool)) (hg : gSlot ops o = g) (h : ObT te P Q S W G n g o) (hs : ObsT te P Q S W G ops (n + 1) l) : ObsT te P Q S W G ops n (o :: l)

section
variable {P : Program} {ops : Array Oper} {Q : Exit → Act → World → Prop} {S : World → World → Prop} {W : (Nat → Bool) → Act → World → Prop} {G : Tmp → Value → World → Prop} {a0 : Act} {ds : List Tmp} {te : Tmp}

theorem ObsT.all {n : Nat} {l : List Oper} (h : ObsT te P Q S W G ops n l) : ∀ (i : Nat) (o : Oper), l[i]? = some o → ObT te P Q S W G (n + i) (gSlot ops o) o := by
  induction h with
  | nil => intro i o ho; simp at ho
  | @cons k _ _ g hg h hs ih =>
    intro i o ho
    cases i with
    | zero =>
      simp only [List.getElem?_cons_zero, Option.some.injEq] at ho
      subst ho
      rw [hg]
      exact h
    | succ i =>
      simp only [List.getElem?_cons_succ] at ho
      have := ih i o ho
      rwa [show k + 1 + i = k + (i + 1) from by omega] at this

structure RegInvT (ops : Array Oper) (W : (Nat → Bool) → Act → World → Prop) (G : Tmp → Value → World → Prop) (a0 : Act) (listed : Array Bool) (a : Act) (w : World) : Prop where
  len : listed.size = ops.size
  world : W (fun j => listed.getD j false) a w
  defers : a.defers = a0.defers
  size : a.tmps.size = a0.tmps.size
  same : ∀ t, (∀ (i : Nat) (o : Oper), ops[i]? = some o → o.dst ≠ some t) → a.tmps[t]? = a0.tmps[t]?
  known : ∀ (i : Nat) (o : Oper) (t : Tmp), ops[i]? = some o → listed.getD i false = true → o.dst = some t → Knows G a w t
  outs : ∀ t ∈ outsOf ops (dstsOf ops.toList), Knows G a0 w t

theorem region_goT (hds : dstsOf ops.toList = ds) (hnd : ds.Nodup)
    (hok : ∀ (i : Nat) (o : Oper), ops[i]? = some o → (o.guard.isSome = true → (gSlot ops o).isSome = true) ∧ (∀ e ∈ o.after, Region.binds .any e = true → e.on < i) ∧
      (∀ t ∈ looks (gSlot ops o) o, t ∈ ds → t ≠ te → ∃ e ∈ o.after, Region.binds .any e = true ∧ (ops[e.on]?).bind (·.dst) = some t))
    (hG : ∀ t v w w', S w w' → G t v w → G t v w')
    (hsize : ∀ t ∈ ds, t < a0.tmps.size)
    (hobs : ∀ (i : Nat) (o : Oper), ops[i]? = some o → ObT te P Q S W G i (gSlot ops o) o)
    (hfin : ∀ L a w, (∀ i, i < ops.size → L i = true) → W L a w → a.defers = a0.defers → a.tmps.size = a0.tmps.size → (∀ t, t ∉ ds → a.tmps[t]? = a0.tmps[t]?) → (∀ t ∈ ds, Knows G a w t) → Q .normal a w) :
    ∀ (fuel : Nat) (listed : Array Bool) (a : Act) (w : World), unlisted ops.size listed ≤ fuel → RegInvT ops W G a0 listed a w → wpAny P .any ops Q fuel listed a w := by
  have hend : ∀ (listed : Array Bool) (a : Act) (w : World), Region.ready .any ops listed = [] → RegInvT ops W G a0 listed a w → Q .normal a w := by
    intro listed a w hr hi
    have hall : ∀ (i : Nat), i < ops.size → listed.getD i false = true := by
      intro i
      induction i using Nat.strongRecOn with
      | ind i ih =>
        intro hlt
        refine Decidable.byContradiction fun hne => ?_
        have hmem : i ∈ Region.ready .any ops listed := by
          rw [mem_ready]
          refine ⟨?_, ops[i], Array.getElem?_eq_getElem hlt, fun e he hb => ?_⟩
          · have h1 : i < listed.size := by rw [hi.len]; exact hlt
            simp [h1] at hne ⊢
            exact hne
          · have := (hok i _ (Array.getElem?_eq_getElem hlt)).2.1 e he hb
            exact ih e.on this (by omega)
        rw [hr] at hmem
        cases hmem
    refine hfin (fun j => listed.getD j false) a w hall hi.world hi.defers hi.size (fun t ht => hi.same t fun i o ho hd => ht (mem_ds hds ho hd)) (fun t ht => ?_)
    obtain ⟨i, o, ho, hd⟩ := of_mem_ds hds ht
    exact hi.known i o t ho (hall i (Array.getElem?_eq_some_iff.1 ho).1) hd
  have hzero : ∀ (listed : Array Bool), unlisted ops.size listed = 0 → listed.size = ops.size → Region.ready .any ops listed = [] := by
    intro listed h0 hlen
    refine List.eq_nil_iff_forall_not_mem.2 fun i hi => ?_
    obtain ⟨h1, o, ho, _⟩ := mem_ready.1 hi
    have hlt := (Array.getElem?_eq_some_iff.1 ho).1
    have := List.countP_eq_zero.1 h0 i (List.mem_range.2 hlt)
    have h2 : i < listed.size := by omega
    simp [h2] at h1 this
    rw [h1] at this
    cases this
  intro fuel
  induction fuel with
  | zero =>
    intro listed a w hu hi
    have hr := hzero listed (by omega) hi.len
    exact ⟨hr, hend listed a w hr hi⟩
  | succ fuel ih =>
    intro listed a w hu hi
    refine ⟨fun hr => hend listed a w hr hi, fun i hir => ?_⟩
    obtain ⟨hun, o, ho, hpre⟩ := mem_ready.1 hir
    obtain ⟨hok1, hok2, hok3⟩ := hok i o ho
    have hilt := (Array.getElem?_eq_some_iff.1 ho).1
    have hilt' : i < listed.size := by rw [hi.len]; exact hilt
    have hun' : listed.getD i false = false := by
      simp [hilt'] at hun ⊢
      exact hun
    have hkn : ∀ t ∈ looks (gSlot ops o) o, t ≠ te → Knows G a w t := by
      intro t ht hne
      by_cases hin : t ∈ ds
      · obtain ⟨e, he, hb, hd⟩ := hok3 t ht hin hne
        cases hoe : ops[e.on]? with
        | none => rw [hoe] at hd; cases hd
        | some p => rw [hoe] at hd; exact hi.known e.on p t hoe (hpre e he hb) hd
      · obtain ⟨v, hv, hg⟩ := hi.outs t (by
          unfold outsOf
          refine List.mem_filter.2 ⟨List.mem_flatMap.2 ⟨o, Array.mem_toList_iff.2 (Array.mem_of_getElem? ho), ht⟩, ?_⟩
          rw [hds]
          simpa using hin)
        exact ⟨v, (hi.same t fun j p hj hd => hin (mem_ds hds hj hd)).trans hv, hg⟩
    have hK : ∀ v w', S w w' → W (upd (fun j => listed.getD j false) i) (a.put o.dst v) w' → Gd G o.dst v w' → wpAny P .any ops Q fuel (listed.setIfInBounds i true) (a.put o.dst v) w' := by
      intro v w' hR hW hg
      refine ih _ _ _ ?_ ⟨by simpa using hi.len, by rw [← upd_listed hilt']; exact hW, ?_, ?_, ?_, ?_, ?_⟩
      · have : unlisted ops.size (listed.setIfInBounds i true) < unlisted ops.size listed := by
          refine countP_lt (fun j hj => ?_) _ i (List.mem_range.2 hilt) ?_ ?_
          · by_cases hji : i = j
            · subst hji
              simp [hilt'] at hj
            · rw [getD_set_ne false hji] at hj
              exact hj
          · simp [hilt'] at hun ⊢
            exact hun
          · simp [hilt']
        omega
      · cases o.dst <;> exact hi.defers
      · cases o.dst with
        | none => exact hi.size
        | some d => simpa [Act.put] using hi.size
      · intro t ht
        rw [← hi.same t ht]
        cases hd : o.dst with
        | none => rfl
        | some d =>
          have : d ≠ t := fun e => ht i o ho (e ▸ hd)
          simp [Act.put, Array.getElem?_setIfInBounds_ne this]
      · intro j p t hj hl hd
        by_cases hji : i = j
        · subst hji
          rw [ho] at hj
          cases hj
          rw [hd] at hg ⊢
          refine ⟨v, ?_, hg⟩
          have hlt : t < a.tmps.size := by rw [hi.size]; exact hsize t (mem_ds hds ho hd)
          simp [Act.put, hlt]
        · rw [getD_set_ne false hji] at hl
          obtain ⟨u, hu1, hu2⟩ := hi.known j p t hj hl hd
          refine ⟨u, ?_, hG _ _ _ _ hR hu2⟩
          cases hod : o.dst with
          | none => exact hu1
          | some d =>
            have hdt : d ≠ t := fun e => hji (nodup_dst ops.toList (by rw [hds]; exact hnd) i j o p t (by simpa using ho) (by simpa using hj) (e ▸ hod) hd)
            simp [Act.put, Array.getElem?_setIfInBounds_ne hdt, hu1]
      · intro t ht
        obtain ⟨u, hu1, hu2⟩ := hi.outs t ht
        exact ⟨u, hu1, hG _ _ _ _ hR hu2⟩
    have hOb := hobs i o ho (fun j => listed.getD j false) a w hun' (fun e he hb => hpre e he hb) hi.world hkn _ hK
    unfold wpOp
    simp only [ho]
    rw [wanted_of hok1]
    cases hgs : gSlot ops o with
    | none =>
      rw [hgs] at hOb
      simp only [if_true]
      exact .inl hOb
    | some tb =>
      obtain ⟨t, b⟩ := tb
      rw [hgs] at hOb
      simp only at hOb ⊢
      split at hOb
      · rename_i h; rw [if_pos h]; exact .inl hOb
      · rename_i h; rw [if_neg h]; exact hOb

/-- The rule with a state. -/
theorem wp_region_stateT0 {id : Nat} {l : List Oper} {w0 : World} (S : World → World → Prop) (W : (Nat → Bool) → Act → World → Prop) (G : Tmp → Value → World → Prop) (ds outs : List Tmp) (hm : P.follows .mixedOrders = true) (hok : regOkE l.toArray ds te = true)
    (hW : W (fun _ => false) a0 w0.drew) (hG : ∀ t v w w', S w w' → G t v w → G t v w')
    (hsize : (ds.all fun t => decide (t < a0.tmps.size)) = true) (houts : ((outsOf l.toArray ds).all fun t => outs.contains t) = true)
    (hstart : ∀ t ∈ outs, Knows G a0 w0.drew t)
    (hobs : ObsT te P Q S W G l.toArray 0 l)
    (hfin : ∀ (L : Nat → Bool) (vals : Tmp → Value) (w : World), (∀ i, i < l.length → L i = true) → W L ⟨putAll vals ds a0.tmps, a0.defers⟩ w → (∀ t ∈ ds, G t (vals t) w) → Q .normal ⟨putAll vals ds a0.tmps, a0.defers⟩ w) :
    (Code.region id l.toArray true).wp P Q a0 w0 := by
  obtain ⟨h1, h2, h3, _⟩ := regOkE_spec hok
  have hsz : ∀ t ∈ ds, t < a0.tmps.size := fun t ht => by simpa using List.all_eq_true.1 hsize t ht
  refine wp_region_any hm (region_goT (S := S) (W := W) (G := G) (a0 := a0) h1 h2 h3 hG hsz (fun i o ho => by have := hobs.all i o (by simpa using ho); rwa [Nat.zero_add] at this) ?_ _ _ _ _ ?_ ⟨by simp, ?_, rfl, rfl, fun _ _ => rfl, fun i o t ho hl hd => ?_, fun t ht => ?_⟩)
  · intro L a w hL hR hd hs hsame hkn
    have e : a = ⟨putAll (fun t => a.tmps.getD t undef) ds a0.tmps, a0.defers⟩ := by
      obtain ⟨tm, df⟩ := a
      simp only at hd hs hsame hkn ⊢
      rw [hd]
      congr 1
      refine Array.ext' ?_
      refine List.ext_getElem? fun t => ?_
      rw [Array.getElem?_toList, Array.getElem?_toList]
      by_cases ht : t ∈ ds
      · rw [putAll_in _ ds _ t h2 ht (hsz t ht)]
        obtain ⟨v, hv, _⟩ := hkn t ht
        rw [hv, Array.getD_eq_getD_getElem?, hv]
        rfl
      · rw [putAll_out _ ds _ t ht]
        exact hsame t ht
    have hR2 := hR
    rw [e] at hR2 ⊢
    exact hfin L (fun t => a.tmps.getD t undef) w (by simpa using hL) hR2 (fun t ht => by
      obtain ⟨v, hv, hg⟩ := hkn t ht
      have : a.tmps.getD t undef = v := by
        rw [Array.getD_eq_getD_getElem?, hv]
        rfl
      rw [this]
      exact hg)
  · unfold unlisted
    refine Nat.le_trans List.countP_le_length ?_
    simp
  · have : (fun j => (Array.replicate l.toArray.size false).getD j false) = fun _ => false := by
      funext j
      rw [Array.getD_eq_getD_getElem?, Array.getElem?_replicate]
      split <;> rfl
    rw [this]
    exact hW
  · simp [Array.getElem?_replicate] at hl
    split at hl <;> simp at hl
  · rw [h1] at ht
    have h4 := List.all_eq_true.1 houts t ht
    exact hstart t (by simpa using h4)

end

theorem ObT.plain {te : Tmp} {P : Program} {Q : Exit → Act → World → Prop} {S : World → World → Prop} {W : (Nat → Bool) → Act → World → Prop} {G : Tmp → Value → World → Prop} {i : Nat} {o : Oper}
    (h : ∀ (L : Nat → Bool) (a : Act) (w : World), L i = false → (∀ e ∈ o.after, Region.binds .any e = true → L e.on = true) → W L a w → (∀ t ∈ looks none o, t ≠ te → Knows G a w t) →
      ∀ K : Act → World → Prop, (∀ v w', S w w' → W (upd L i) (a.put o.dst v) w' → Gd G o.dst v w' → K (a.put o.dst v) w') → o.wp P a w K Q) : ObT te P Q S W G i none o := h

def ObTD (te : Tmp) (P : Program) (Q : Exit → Act → World → Prop) (S : World → World → Prop) (W : (Nat → Bool) → Act → World → Prop) (G : Tmp → Value → World → Prop) (ops : Array Oper) (i : Nat) (g : Option (Tmp × Bool)) (o : Oper) : Prop :=
  ∀ (L : Nat → Bool) (a : Act) (w : World), L i = false → (∀ e ∈ o.after, Region.binds .any e = true → L e.on = true) → ClosedL ops L → W L a w → (∀ t ∈ looks g o, t ≠ te → Knows G a w t) →
    ∀ K : Act → World → Prop, (∀ v w', S w w' → W (upd L i) (a.put o.dst v) w' → Gd G o.dst v w' → K (a.put o.dst v) w') →
      match g with
      | none => o.wp P a w K Q
      | some (t, b) => if says b a.tmps[t]? = true then o.wp P a w K Q else K (a.put o.dst undef) w

inductive ObsTD (te : Tmp) (P : Program) (Q : Exit → Act → World → Prop) (S : World → World → Prop) (W : (Nat → Bool) → Act → World → Prop) (G : Tmp → Value → World → Prop) (ops : Array Oper) : Nat → List Oper → Prop
  | nil {n : Nat} : ObsTD te P Q S W G ops n []
  | cons {n : Nat} {o : Oper} {l : List Oper} (g : Option (Tmp × Bool)) (hg : gSlot ops o = g) (h : ObTD te P Q S W G ops n g o) (hs : ObsTD te P Q S W G ops (n + 1) l) : ObsTD te P Q S W G ops n (o :: l)

theorem ObsTD.toT {te : Tmp} {P : Program} {Q : Exit → Act → World → Prop} {S : World → World → Prop} {W : (Nat → Bool) → Act → World → Prop} {G : Tmp → Value → World → Prop} {ops : Array Oper} {n : Nat} {l : List Oper} (h : ObsTD te P Q S W G ops n l) :
    (∀ (k : Nat) (o : Oper), l[k]? = some o → ops[n + k]? = some o) → ObsT te P Q S (fun L a w => ClosedL ops L ∧ W L a w) G ops n l := by
  induction h with
  | nil => exact fun _ => ObsT.nil
  | @cons n o l g hg h hs ih =>
    intro hl
    have ho : ops[n]? = some o := hl 0 o rfl
    refine ObsT.cons g hg ?_ (ih (fun k p hk => ?_))
    · intro L a w hi he hW hk K hK
      exact h L a w hi he hW.1 hW.2 hk K (fun v w' h1 h2 h3 => hK v w' h1 ⟨hW.1.upd ho he, h2⟩ h3)
    · rw [show n + 1 + k = n + (k + 1) from by omega]
      exact hl (k + 1) p hk

theorem wp_region_stateTD {te : Tmp} {P : Program} {Q : Exit → Act → World → Prop} {id : Nat} {l : List Oper} {w0 : World} {a0 : Act} (S : World → World → Prop) (W : (Nat → Bool) → Act → World → Prop) (G : Tmp → Value → World → Prop) (ds outs : List Tmp) (hm : P.follows .mixedOrders = true) (hok : regOkE l.toArray ds te = true)
    (hW : W (fun _ => false) a0 w0.drew) (hG : ∀ t v w w', S w w' → G t v w → G t v w')
    (hsize : (ds.all fun t => decide (t < a0.tmps.size)) = true) (houts : ((outsOf l.toArray ds).all fun t => outs.contains t) = true)
    (hstart : ∀ t ∈ outs, Knows G a0 w0.drew t)
    (hobs : ObsTD te P Q S W G l.toArray 0 l)
    (hfin : ∀ (L : Nat → Bool) (vals : Tmp → Value) (w : World), (∀ i, i < l.length → L i = true) → W L ⟨putAll vals ds a0.tmps, a0.defers⟩ w → (∀ t ∈ ds, G t (vals t) w) → Q .normal ⟨putAll vals ds a0.tmps, a0.defers⟩ w) :
    (Code.region id l.toArray true).wp P Q a0 w0 :=
  wp_region_stateT0 S (fun L a w => ClosedL l.toArray L ∧ W L a w) G ds outs hm hok ⟨fun _ _ _ h => (by cases h), hW⟩ hG hsize houts hstart (hobs.toT (fun k o hk => by rw [Nat.zero_add]; simpa using hk)) (fun L vals w h1 h2 h3 => hfin L vals w h1 h2.2 h3)

theorem ObTD.plain {te : Tmp} {P : Program} {Q : Exit → Act → World → Prop} {S : World → World → Prop} {W : (Nat → Bool) → Act → World → Prop} {G : Tmp → Value → World → Prop} {ops : Array Oper} {i : Nat} {o : Oper}
    (h : ∀ (L : Nat → Bool) (a : Act) (w : World), L i = false → (∀ e ∈ o.after, Region.binds .any e = true → L e.on = true) → ClosedL ops L → W L a w → (∀ t ∈ looks none o, t ≠ te → Knows G a w t) →
      ∀ K : Act → World → Prop, (∀ v w', S w w' → W (upd L i) (a.put o.dst v) w' → Gd G o.dst v w' → K (a.put o.dst v) w') → o.wp P a w K Q) : ObTD te P Q S W G ops i none o := h

end Go.Proofs.Ytcdjjengkdbngaa

/- The contracts of a reader's Left and Number. -/
namespace Go.Proofs.Ytcdjjengkdbngaa
open Go.RowKit

def RNumOk (D : Nat → Prop) (R : Nat) (l : List UInt8) (w : World) (e : Ending) (w' : World) : Prop :=
  e = .returned (.int .i64 (numN 9 l 0 0).1) ∧ ∃ v', BytesAt D w' v' (l.drop (numN 9 l 0 0).2.1) ∧ ReaderAt w' R true v' 0 ∧ Chg (· = R) w w'

set_option maxRecDepth 100000 in
theorem rnum_ok {D : Nat → Prop} (R b off cap : Nat) (l : List UInt8) (most : Int) (w : World) (hl : l.length ≤ 9223372036854775807) (hb : D b) (hDR : ¬ D R) (hlc : l.length ≤ cap) (hcm : cap ≤ maxLen)
    (hc : ∀ i (h : i < l.length), w.cell? ⟨b, off + i, none⟩ = some (.int .u8 (l[i].toNat : Int)))
    (hR : ReaderAt w R true (.slice (some ⟨b, off, none⟩) l.length cap) 0) (n k : Nat) (hN : Hid (numN 9 l 0 0 = (n, k, 0))) (hk : k ≤ l.length) (hn : (n : Int) ≤ most) (_ : (n : Int) ≤ 9223372036854775807) :
    Calls Try.prog 59 #[.pointer (some ⟨R, 0, none⟩), .int .i64 most] w (RNumOk D R l w) := by
  have h0 := cell_blk hR 0
  have h1 := cell_blk hR 1
  have f1 := froz_blk hR 1
  simp only [List.getElem?_toArray, List.getElem?_cons_zero, List.getElem?_cons_succ] at h0 h1
  have hnum := number_some b off cap l w hl hc
  go_enter Try.func59, Try.ntmps59
  go_wp2_with (first | (go_at_call 89; refine (ended_true _ _ h0).mono ?_; rintro e w' ⟨rfl, rfl⟩) | (go_at_call 90; refine hnum.mono ?_; rintro e w' ⟨rfl, rfl⟩; rw [hN.out]) | (go_at_call 91; refine (fail_ok _ _ h0).mono ?_; rintro e w' ⟨rfl, rfl⟩))
  · go_ret
    refine ⟨by simp [hN.out], ?_⟩
    rw [hN.out]
    exact reader_cut hb hDR hlc hcm hc hR hk (.inl ⟨by assumption, rfl⟩)
  · go_ret
    refine ⟨by simp [hN.out], ?_⟩
    rw [hN.out]
    exact reader_cut hb hDR hlc hcm hc hR hk (.inr ⟨rfl, rfl⟩)

set_option maxRecDepth 100000 in
theorem rnum_long {D : Nat → Prop} (R : Nat) (v : Value) (l : List UInt8) (most : Int) (w : World) (hl : l.length ≤ 9223372036854775807) (hv : BytesAt D w v l)
    (hR : ReaderAt w R true v 0) (n k : Nat) (hN : Hid (numN 9 l 0 0 = (n, k, 0))) (hn : most < (n : Int)) (_ : (n : Int) ≤ 9223372036854775807) :
    Calls Try.prog 59 #[.pointer (some ⟨R, 0, none⟩), .int .i64 most] w (Stops R 12 w) := by
  have h0 := cell_blk hR 0
  have h1 := cell_blk hR 1
  have h2 := cell_blk hR 2
  have f2 := froz_blk hR 2
  simp only [List.getElem?_toArray, List.getElem?_cons_zero, List.getElem?_cons_succ] at h0 h1 h2
  have hnum := number_any hl hv
  obtain ⟨ao, cp, rfl⟩ := hv.shape
  go_enter Try.func59, Try.ntmps59
  go_wp2_with (first | (go_at_call 89; refine (ended_true _ _ h0).mono ?_; rintro e w' ⟨rfl, rfl⟩) | (go_at_call 90; refine hnum.mono ?_; rintro e w' ⟨rfl, rfl⟩; rw [hN.out]) | (go_at_call 91; refine (fail_stops _ _ undef _ (by decide) h0 h2 f2).mono ?_; rintro e w' ⟨rfl, rfl⟩))
  exact ⟨rfl, reader_stop hR 12⟩

set_option maxRecDepth 100000 in
theorem rnum_bad {D : Nat → Prop} (R : Nat) (v : Value) (l : List UInt8) (most : Int) (w : World) (hl : l.length ≤ 9223372036854775807) (hv : BytesAt D w v l)
    (hR : ReaderAt w R true v 0) (n k err : Nat) (hN : Hid (numN 9 l 0 0 = (n, k, err))) (he : ((err : Int) == 0) = false) :
    Calls Try.prog 59 #[.pointer (some ⟨R, 0, none⟩), .int .i64 most] w (Stops R err w) := by
  have h0 := cell_blk hR 0
  have h1 := cell_blk hR 1
  have h2 := cell_blk hR 2
  have f2 := froz_blk hR 2
  simp only [List.getElem?_toArray, List.getElem?_cons_zero, List.getElem?_cons_succ] at h0 h1 h2
  have hnum := number_any hl hv
  obtain ⟨ao, cp, rfl⟩ := hv.shape
  go_enter Try.func59, Try.ntmps59
  go_wp2_with (first | (go_at_call 89; refine (ended_true _ _ h0).mono ?_; rintro e w' ⟨rfl, rfl⟩) | (go_at_call 90; refine hnum.mono ?_; rintro e w' ⟨rfl, rfl⟩; rw [hN.out]) | (go_at_call 91; refine (fail_stops _ _ undef _ he h0 h2 f2).mono ?_; rintro e w' ⟨rfl, rfl⟩))
  exact ⟨rfl, reader_stop hR err⟩

/-- Reader.Number, of an open reader: the number. -/
theorem rnum_reads {D : Nat → Prop} {R : Nat} {v : Value} {l : List UInt8} {most : Int} {w : World} (hl : l.length ≤ 9223372036854775807) (hv : BytesAt D w v l) (hDR : ¬ D R) (hR : ReaderAt w R true v 0) (he : errNum l most = 0) :
    Calls Try.prog 59 #[.pointer (some ⟨R, 0, none⟩), .int .i64 most] w (RNumOk D R l w) := by
  have hz : (numN 9 l 0 0).2.2 = 0 := by
    unfold errNum at he
    by_cases h : (numN 9 l 0 0).2.2 = 0
    · exact h
    · rw [if_neg h] at he
      exact he
  have hm : ((numN 9 l 0 0).1 : Int) ≤ most := by
    unfold errNum at he
    rw [if_pos hz] at he
    by_cases h : most < ((numN 9 l 0 0).1 : Int)
    · rw [if_pos h] at he
      omega
    · omega
  obtain ⟨k1, k2, k3⟩ := numN_ok hz
  rcases hv with ⟨ao, cp, rfl, rfl, _⟩ | ⟨b, off, cap, rfl, h1, h2, h3, h4⟩
  · simp at k2
    omega
  · exact rnum_ok R b off cap l most w hl h3 hDR h1 h2 h4 hR _ _ (pair3 _ hz) k2 hm (by omega)

/-- Reader.Number, of an open reader: the error. -/
theorem rnum_stops {D : Nat → Prop} {R : Nat} {v : Value} {l : List UInt8} {most : Int} {w : World} (hl : l.length ≤ 9223372036854775807) (hv : BytesAt D w v l) (hR : ReaderAt w R true v 0) (he : errNum l most ≠ 0) :
    Calls Try.prog 59 #[.pointer (some ⟨R, 0, none⟩), .int .i64 most] w (Stops R (errNum l most) w) := by
  by_cases hz : (numN 9 l 0 0).2.2 = 0
  · have e : errNum l most = 12 := by
      unfold errNum at he ⊢
      rw [if_pos hz] at he ⊢
      by_cases h : most < ((numN 9 l 0 0).1 : Int)
      · rw [if_pos h]
      · rw [if_neg h] at he
        exact absurd rfl he
    have hm : most < ((numN 9 l 0 0).1 : Int) := by
      unfold errNum at e
      rw [if_pos hz] at e
      by_cases h : most < ((numN 9 l 0 0).1 : Int)
      · exact h
      · rw [if_neg h] at e
        omega
    obtain ⟨k1, k2, k3⟩ := numN_ok hz
    rw [e]
    exact rnum_long R v l most w hl hv hR _ _ (pair3 _ hz) hm (by omega)
  · have e : errNum l most = (numN 9 l 0 0).2.2 := by
      unfold errNum
      rw [if_neg hz]
    rw [e]
    exact rnum_bad R v l most w hl hv hR _ _ _ (pair3 _ rfl) (by simpa using hz)

end Go.Proofs.Ytcdjjengkdbngaa
