/- Texts that the proof leans on, in one: RegA, OrdMath, NameMath. -/
import Derived.Test.YtcdjjengkdbngaaKc2
import Derived.Test.YtcdjjengkdbngaaKc1
import Derived.Lib.SlicesCompact
/- The rule for a region that draws its order, with a state that hangs on which operations have come up, on the slots and on the world. -/
namespace Go.Proofs.Ytcdjjengkdbngaa
open Go.RowKit

/-- What is to be shown of the operation i, W being what holds of the world where the operations of L have come up, S what becomes of a world. -/
def ObA (P : Program) (Q : Exit → Act → World → Prop) (S : World → World → Prop) (W : (Nat → Bool) → Act → World → Prop) (G : Tmp → Value → World → Prop) (i : Nat) (g : Option (Tmp × Bool)) (o : Oper) : Prop :=
  ∀ (L : Nat → Bool) (a : Act) (w : World), L i = false → (∀ e ∈ o.after, Region.binds .any e = true → L e.on = true) → W L a w → (∀ t ∈ looks g o, Knows G a w t) →
    ∀ K : Act → World → Prop, (∀ v w', S w w' → W (upd L i) (a.put o.dst v) w' → Gd G o.dst v w' → K (a.put o.dst v) w') →
      match g with
      | none => o.wp P a w K Q
      | some (t, b) => if says b a.tmps[t]? = true then o.wp P a w K Q else K (a.put o.dst undef) w

inductive ObsA (P : Program) (Q : Exit → Act → World → Prop) (S : World → World → Prop) (W : (Nat → Bool) → Act → World → Prop) (G : Tmp → Value → World → Prop) (ops : Array Oper) : Nat → List Oper → Prop
  | nil {n : Nat} : ObsA P Q S W G ops n []
  | cons {n : Nat} {o : Oper} {l : List Oper} (g : Option (Tmp × Bool)) (hg : gSlot ops o = g) (h : ObA P Q S W G n g o) (hs : ObsA P Q S W G ops (n + 1) l) : ObsA P Q S W G ops n (o :: l)

section
variable {P : Program} {ops : Array Oper} {Q : Exit → Act → World → Prop} {S : World → World → Prop} {W : (Nat → Bool) → Act → World → Prop} {G : Tmp → Value → World → Prop} {a0 : Act} {ds : List Tmp}

theorem ObsA.all {n : Nat} {l : List Oper} (h : ObsA P Q S W G ops n l) : ∀ (i : Nat) (o : Oper), l[i]? = some o → ObA P Q S W G (n + i) (gSlot ops o) o := by
  induction h with
  | nil => intro i o ho; simp at ho
  | @cons k _ _ g hg h hs ih =>
    intro i o ho
    cases i with
    | zero =>
      simp only [List.getElem?_cons_zero, Option.some.injEq] at ho
      subst ho
      rw [hg]
      exact h
    | succ i =>
      simp only [List.getElem?_cons_succ] at ho
      have := ih i o ho
      rwa [show k + 1 + i = k + (i + 1) from by omega] at this

structure RegInvA (ops : Array Oper) (W : (Nat → Bool) → Act → World → Prop) (G : Tmp → Value → World → Prop) (a0 : Act) (listed : Array Bool) (a : Act) (w : World) : Prop where
  len : listed.size = ops.size
  world : W (fun j => listed.getD j false) a w
  defers : a.defers = a0.defers
  size : a.tmps.size = a0.tmps.size
  same : ∀ t, (∀ (i : Nat) (o : Oper), ops[i]? = some o → o.dst ≠ some t) → a.tmps[t]? = a0.tmps[t]?
  known : ∀ (i : Nat) (o : Oper) (t : Tmp), ops[i]? = some o → listed.getD i false = true → o.dst = some t → Knows G a w t
  outs : ∀ t ∈ outsOf ops (dstsOf ops.toList), Knows G a0 w t

theorem region_goA (hds : dstsOf ops.toList = ds) (hnd : ds.Nodup)
    (hok : ∀ (i : Nat) (o : Oper), ops[i]? = some o → (o.guard.isSome = true → (gSlot ops o).isSome = true) ∧ (∀ e ∈ o.after, Region.binds .any e = true → e.on < i) ∧
      (∀ t ∈ looks (gSlot ops o) o, t ∈ ds → ∃ e ∈ o.after, Region.binds .any e = true ∧ (ops[e.on]?).bind (·.dst) = some t))
    (hG : ∀ t v w w', S w w' → G t v w → G t v w')
    (hsize : ∀ t ∈ ds, t < a0.tmps.size)
    (hobs : ∀ (i : Nat) (o : Oper), ops[i]? = some o → ObA P Q S W G i (gSlot ops o) o)
    (hfin : ∀ L a w, (∀ i, i < ops.size → L i = true) → W L a w → a.defers = a0.defers → a.tmps.size = a0.tmps.size → (∀ t, t ∉ ds → a.tmps[t]? = a0.tmps[t]?) → (∀ t ∈ ds, Knows G a w t) → Q .normal a w) :
    ∀ (fuel : Nat) (listed : Array Bool) (a : Act) (w : World), unlisted ops.size listed ≤ fuel → RegInvA ops W G a0 listed a w → wpAny P .any ops Q fuel listed a w := by
  have hend : ∀ (listed : Array Bool) (a : Act) (w : World), Region.ready .any ops listed = [] → RegInvA ops W G a0 listed a w → Q .normal a w := by
    intro listed a w hr hi
    have hall : ∀ (i : Nat), i < ops.size → listed.getD i false = true := by
      intro i
      induction i using Nat.strongRecOn with
      | ind i ih =>
        intro hlt
        refine Decidable.byContradiction fun hne => ?_
        have hmem : i ∈ Region.ready .any ops listed := by
          rw [mem_ready]
          refine ⟨?_, ops[i], Array.getElem?_eq_getElem hlt, fun e he hb => ?_⟩
          · have h1 : i < listed.size := by rw [hi.len]; exact hlt
            simp [h1] at hne ⊢
            exact hne
          · have := (hok i _ (Array.getElem?_eq_getElem hlt)).2.1 e he hb
            exact ih e.on this (by omega)
        rw [hr] at hmem
        cases hmem
    refine hfin (fun j => listed.getD j false) a w hall hi.world hi.defers hi.size (fun t ht => hi.same t fun i o ho hd => ht (mem_ds hds ho hd)) (fun t ht => ?_)
    obtain ⟨i, o, ho, hd⟩ := of_mem_ds hds ht
    exact hi.known i o t ho (hall i (Array.getElem?_eq_some_iff.1 ho).1) hd
  have hzero : ∀ (listed : Array Bool), unlisted ops.size listed = 0 → listed.size = ops.size → Region.ready .any ops listed = [] := by
    intro listed h0 hlen
    refine List.eq_nil_iff_forall_not_mem.2 fun i hi => ?_
    obtain ⟨h1, o, ho, _⟩ := mem_ready.1 hi
    have hlt := (Array.getElem?_eq_some_iff.1 ho).1
    have := List.countP_eq_zero.1 h0 i (List.mem_range.2 hlt)
    have h2 : i < listed.size := by omega
    simp [h2] at h1 this
    rw [h1] at this
    cases this
  intro fuel
  induction fuel with
  | zero =>
    intro listed a w hu hi
    have hr := hzero listed (by omega) hi.len
    exact ⟨hr, hend listed a w hr hi⟩
  | succ fuel ih =>
    intro listed a w hu hi
    refine ⟨fun hr => hend listed a w hr hi, fun i hir => ?_⟩
    obtain ⟨hun, o, ho, hpre⟩ := mem_ready.1 hir
    obtain ⟨hok1, hok2, hok3⟩ := hok i o ho
    have hilt := (Array.getElem?_eq_some_iff.1 ho).1
    have hilt' : i < listed.size := by rw [hi.len]; exact hilt
    have hun' : listed.getD i false = false := by
      simp [hilt'] at hun ⊢
      exact hun
    have hkn : ∀ t ∈ looks (gSlot ops o) o, Knows G a w t := by
      intro t ht
      by_cases hin : t ∈ ds
      · obtain ⟨e, he, hb, hd⟩ := hok3 t ht hin
        cases hoe : ops[e.on]? with
        | none => rw [hoe] at hd; cases hd
        | some p => rw [hoe] at hd; exact hi.known e.on p t hoe (hpre e he hb) hd
      · obtain ⟨v, hv, hg⟩ := hi.outs t (by
          unfold outsOf
          refine List.mem_filter.2 ⟨List.mem_flatMap.2 ⟨o, Array.mem_toList_iff.2 (Array.mem_of_getElem? ho), ht⟩, ?_⟩
          rw [hds]
          simpa using hin)
        exact ⟨v, (hi.same t fun j p hj hd => hin (mem_ds hds hj hd)).trans hv, hg⟩
    have hK : ∀ v w', S w w' → W (upd (fun j => listed.getD j false) i) (a.put o.dst v) w' → Gd G o.dst v w' → wpAny P .any ops Q fuel (listed.setIfInBounds i true) (a.put o.dst v) w' := by
      intro v w' hR hW hg
      refine ih _ _ _ ?_ ⟨by simpa using hi.len, by rw [← upd_listed hilt']; exact hW, ?_, ?_, ?_, ?_, ?_⟩
      · have : unlisted ops.size (listed.setIfInBounds i true) < unlisted ops.size listed := by
          refine countP_lt (fun j hj => ?_) _ i (List.mem_range.2 hilt) ?_ ?_
          · by_cases hji : i = j
            · subst hji
              simp [hilt'] at hj
            · rw [getD_set_ne false hji] at hj
              exact hj
          · simp [hilt'] at hun ⊢
            exact hun
          · simp [hilt']
        omega
      · cases o.dst <;> exact hi.defers
      · cases o.dst with
        | none => exact hi.size
        | some d => simpa [Act.put] using hi.size
      · intro t ht
        rw [← hi.same t ht]
        cases hd : o.dst with
        | none => rfl
        | some d =>
          have : d ≠ t := fun e => ht i o ho (e ▸ hd)
          simp [Act.put, Array.getElem?_setIfInBounds_ne this]
      · intro j p t hj hl hd
        by_cases hji : i = j
        · subst hji
          rw [ho] at hj
          cases hj
          rw [hd] at hg ⊢
          refine ⟨v, ?_, hg⟩
          have hlt : t < a.tmps.size := by rw [hi.size]; exact hsize t (mem_ds hds ho hd)
          simp [Act.put, hlt]
        · rw [getD_set_ne false hji] at hl
          obtain ⟨u, hu1, hu2⟩ := hi.known j p t hj hl hd
          refine ⟨u, ?_, hG _ _ _ _ hR hu2⟩
          cases hod : o.dst with
          | none => exact hu1
          | some d =>
            have hdt : d ≠ t := fun e => hji (nodup_dst ops.toList (by rw [hds]; exact hnd) i j o p t (by simpa using ho) (by simpa using hj) (e ▸ hod) hd)
            simp [Act.put, Array.getElem?_setIfInBounds_ne hdt, hu1]
      · intro t ht
        obtain ⟨u, hu1, hu2⟩ := hi.outs t ht
        exact ⟨u, hu1, hG _ _ _ _ hR hu2⟩
    have hOb := hobs i o ho (fun j => listed.getD j false) a w hun' (fun e he hb => hpre e he hb) hi.world hkn _ hK
    unfold wpOp
    simp only [ho]
    rw [wanted_of hok1]
    cases hgs : gSlot ops o with
    | none =>
      rw [hgs] at hOb
      simp only [if_true]
      exact .inl hOb
    | some tb =>
      obtain ⟨t, b⟩ := tb
      rw [hgs] at hOb
      simp only at hOb ⊢
      split at hOb
      · rename_i h; rw [if_pos h]; exact .inl hOb
      · rename_i h; rw [if_neg h]; exact hOb

/-- The rule with a state. -/
theorem wp_region_stateA {id : Nat} {l : List Oper} {w0 : World} (S : World → World → Prop) (W : (Nat → Bool) → Act → World → Prop) (G : Tmp → Value → World → Prop) (ds outs : List Tmp) (hm : P.follows .mixedOrders = true) (hok : regOk l.toArray ds = true)
    (hW : W (fun _ => false) a0 w0.drew) (hG : ∀ t v w w', S w w' → G t v w → G t v w')
    (hsize : (ds.all fun t => decide (t < a0.tmps.size)) = true) (houts : ((outsOf l.toArray ds).all fun t => outs.contains t) = true)
    (hstart : ∀ t ∈ outs, Knows G a0 w0.drew t)
    (hobs : ObsA P Q S W G l.toArray 0 l)
    (hfin : ∀ (L : Nat → Bool) (vals : Tmp → Value) (w : World), (∀ i, i < l.length → L i = true) → W L ⟨putAll vals ds a0.tmps, a0.defers⟩ w → (∀ t ∈ ds, G t (vals t) w) → Q .normal ⟨putAll vals ds a0.tmps, a0.defers⟩ w) :
    (Code.region id l.toArray true).wp P Q a0 w0 := by
  obtain ⟨h1, h2, h3⟩ := regOk_spec hok
  have hsz : ∀ t ∈ ds, t < a0.tmps.size := fun t ht => by simpa using List.all_eq_true.1 hsize t ht
  refine wp_region_any hm (region_goA (S := S) (W := W) (G := G) (a0 := a0) h1 h2 h3 hG hsz (fun i o ho => by have := hobs.all i o (by simpa using ho); rwa [Nat.zero_add] at this) ?_ _ _ _ _ ?_ ⟨by simp, ?_, rfl, rfl, fun _ _ => rfl, fun i o t ho hl hd => ?_, fun t ht => ?_⟩)
  · intro L a w hL hR hd hs hsame hkn
    have e : a = ⟨putAll (fun t => a.tmps.getD t undef) ds a0.tmps, a0.defers⟩ := by
      obtain ⟨tm, df⟩ := a
      simp only at hd hs hsame hkn ⊢
      rw [hd]
      congr 1
      refine Array.ext' ?_
      refine List.ext_getElem? fun t => ?_
      rw [Array.getElem?_toList, Array.getElem?_toList]
      by_cases ht : t ∈ ds
      · rw [putAll_in _ ds _ t h2 ht (hsz t ht)]
        obtain ⟨v, hv, _⟩ := hkn t ht
        rw [hv, Array.getD_eq_getD_getElem?, hv]
        rfl
      · rw [putAll_out _ ds _ t ht]
        exact hsame t ht
    have hR2 := hR
    rw [e] at hR2 ⊢
    exact hfin L (fun t => a.tmps.getD t undef) w (by simpa using hL) hR2 (fun t ht => by
      obtain ⟨v, hv, hg⟩ := hkn t ht
      have : a.tmps.getD t undef = v := by
        rw [Array.getD_eq_getD_getElem?, hv]
        rfl
      rw [this]
      exact hg)
  · unfold unlisted
    refine Nat.le_trans List.countP_le_length ?_
    simp
  · have : (fun j => (Array.replicate l.toArray.size false).getD j false) = fun _ => false := by
      funext j
      rw [Array.getD_eq_getD_getElem?, Array.getElem?_replicate]
      split <;> rfl
    rw [this]
    exact hW
  · simp [Array.getElem?_replicate] at hl
    split at hl <;> simp at hl
  · rw [h1] at ht
    have h4 := List.all_eq_true.1 houts t ht
    exact hstart t (by simpa using h4)

end

theorem ObA.plain {P : Program} {Q : Exit → Act → World → Prop} {S : World → World → Prop} {W : (Nat → Bool) → Act → World → Prop} {G : Tmp → Value → World → Prop} {i : Nat} {o : Oper}
    (h : ∀ (L : Nat → Bool) (a : Act) (w : World), L i = false → (∀ e ∈ o.after, Region.binds .any e = true → L e.on = true) → W L a w → (∀ t ∈ looks none o, Knows G a w t) →
      ∀ K : Act → World → Prop, (∀ v w', S w w' → W (upd L i) (a.put o.dst v) w' → Gd G o.dst v w' → K (a.put o.dst v) w') → o.wp P a w K Q) : ObA P Q S W G i none o := h

end Go.Proofs.Ytcdjjengkdbngaa

/- Things in order, and sets of the right ones among them: plain words, nothing of the program's text. -/
namespace Go.Proofs.Ytcdjjengkdbngaa
open Go.RowKit

/-- An order without equals. -/
structure Ord {α : Type} (lt : α → α → Bool) : Prop where
  irrefl : ∀ a, lt a a = false
  trans : ∀ a b c, lt a b = true → lt b c = true → lt a c = true
  tri : ∀ a b, lt a b = true ∨ a = b ∨ lt b a = true

section
variable {α : Type} {lt : α → α → Bool} {good : α → Bool}

/-- Rising, each once. -/
def RisingG (lt : α → α → Bool) : List α → Prop
  | [] => True
  | x :: l => (∀ y ∈ l, lt x y = true) ∧ RisingG lt l

/-- out is the set of the right ones of ls. -/
def SetG (lt : α → α → Bool) (good : α → Bool) (ls out : List α) : Prop := RisingG lt out ∧ ∀ x, x ∈ out ↔ x ∈ ls ∧ good x = true

theorem RisingG.ext (o : Ord lt) : ∀ {a b : List α}, RisingG lt a → RisingG lt b → (∀ x, x ∈ a ↔ x ∈ b) → a = b
  | [], [], _, _, _ => rfl
  | [], y :: b, _, _, h => by have := (h y).2 (by simp); simp at this
  | x :: a, [], _, _, h => by have := (h x).1 (by simp); simp at this
  | x :: a, y :: b, ha, hb, h => by
    have hxy : x = y := by
      rcases o.tri x y with k | k | k
      · rcases List.mem_cons.1 ((h x).1 (by simp)) with e | e
        · exact e
        · have := o.trans _ _ _ k (hb.1 x e)
          rw [o.irrefl] at this
          cases this
      · exact k
      · rcases List.mem_cons.1 ((h y).2 (by simp)) with e | e
        · exact e.symm
        · have := o.trans _ _ _ k (ha.1 y e)
          rw [o.irrefl] at this
          cases this
    subst hxy
    congr 1
    refine RisingG.ext o ha.2 hb.2 fun z => ⟨fun hz => ?_, fun hz => ?_⟩
    · rcases List.mem_cons.1 ((h z).1 (List.mem_cons_of_mem _ hz)) with e | e
      · subst e
        have := ha.1 _ hz
        rw [o.irrefl] at this
        cases this
      · exact e
    · rcases List.mem_cons.1 ((h z).2 (List.mem_cons_of_mem _ hz)) with e | e
      · subst e
        have := hb.1 _ hz
        rw [o.irrefl] at this
        cases this
      · exact e

/-- There is one set alone. -/
theorem SetG.one (o : Ord lt) {ls a b : List α} (ha : SetG lt good ls a) (hb : SetG lt good ls b) : a = b := ha.1.ext o hb.1 fun x => (ha.2 x).trans (hb.2 x).symm

theorem RisingG.snoc : ∀ {a : List α} {x : α}, RisingG lt a → (∀ y ∈ a, lt y x = true) → RisingG lt (a ++ [x])
  | [], _, _, _ => ⟨fun _ h => (by cases h), trivial⟩
  | y :: a, x, h, hx => ⟨fun z hz => by
      rcases List.mem_append.1 hz with k | k
      · exact h.1 z k
      · rw [List.mem_singleton.1 k]; exact hx y (by simp), RisingG.snoc h.2 fun z hz => hx z (List.mem_cons_of_mem _ hz)⟩

theorem RisingG.filter {p : α → Bool} : ∀ {l : List α}, RisingG lt l → RisingG lt (l.filter p)
  | [], _ => trivial
  | x :: l, h => by
    rw [List.filter_cons]
    split
    · exact ⟨fun y hy => h.1 y (List.mem_filter.1 hy).1, h.2.filter⟩
    · exact h.2.filter

theorem RisingG.nodup (o : Ord lt) : ∀ {a : List α}, RisingG lt a → a.Nodup
  | [], _ => List.nodup_nil
  | x :: a, h => List.nodup_cons.2 ⟨(fun hx => by have := h.1 x hx; rw [o.irrefl] at this; cases this), RisingG.nodup o h.2⟩

theorem nodup_lengthG [BEq α] [LawfulBEq α] : ∀ (a b : List α), a.Nodup → (∀ x ∈ a, x ∈ b) → a.length ≤ b.length
  | [], _, _, _ => Nat.zero_le _
  | x :: a, b, hn, h => by
    have hx := h x (by simp)
    have hn' := List.nodup_cons.1 hn
    have := nodup_lengthG a (b.erase x) hn'.2 (fun y hy => (List.mem_erase_of_ne (fun e => hn'.1 (by rw [← e]; exact hy))).2 (h y (List.mem_cons_of_mem _ hy)))
    rw [List.length_erase_of_mem hx] at this
    have hp : 0 < b.length := List.length_pos_of_mem hx
    simp only [List.length_cons]
    omega

theorem SetG.len [BEq α] [LawfulBEq α] (o : Ord lt) {ls out : List α} (h : SetG lt good ls out) : out.length ≤ ls.length := nodup_lengthG _ _ (h.1.nodup o) fun x hx => ((h.2 x).1 hx).1

/-- What may come next, behind the last one of out. -/
def candG (lt : α → α → Bool) (good : α → Bool) (out : List α) (s : α) : Bool :=
  good s && (match out.getLast? with | none => true | some l => lt l s)

/-- What has been found of the least one among seen: none, or the one. -/
def BestG (lt : α → α → Bool) (good : α → Bool) (out seen : List α) : Option α → Prop
  | none => ∀ s ∈ seen, candG lt good out s = false
  | some b => b ∈ seen ∧ candG lt good out b = true ∧ ∀ s ∈ seen, candG lt good out s = true → lt s b = false

theorem BestG.skip {out seen : List α} {b : Option α} {s : α} (h : BestG lt good out seen b) (hs : candG lt good out s = false) : BestG lt good out (seen ++ [s]) b := by
  cases b with
  | none => exact fun x hx => (List.mem_append.1 hx).elim (h x) (fun e => by rw [List.mem_singleton.1 e]; exact hs)
  | some b => exact ⟨List.mem_append_left _ h.1, h.2.1, fun x hx hc => (List.mem_append.1 hx).elim (fun e => h.2.2 x e hc) (fun e => by rw [List.mem_singleton.1 e, hs] at hc; cases hc)⟩

theorem BestG.keep {out seen : List α} {b s : α} (h : BestG lt good out seen (some b)) (hs : lt s b = false) : BestG lt good out (seen ++ [s]) (some b) :=
  ⟨List.mem_append_left _ h.1, h.2.1, fun x hx hc => (List.mem_append.1 hx).elim (fun e => h.2.2 x e hc) (fun e => by rw [List.mem_singleton.1 e]; exact hs)⟩

theorem BestG.take (o : Ord lt) {out seen : List α} {b : Option α} {s : α} (h : BestG lt good out seen b) (hc : candG lt good out s = true) (hs : ∀ c, b = some c → lt s c = true) : BestG lt good out (seen ++ [s]) (some s) := by
  refine ⟨by simp, hc, fun x hx hx2 => ?_⟩
  rcases List.mem_append.1 hx with e | e
  · cases b with
    | none => rw [h x e] at hx2; cases hx2
    | some c =>
      cases hk : lt x s with
      | false => rfl
      | true =>
        have := o.trans _ _ _ hk (hs c rfl)
        rw [h.2.2 x e hx2] at this
        cases this
  · rw [List.mem_singleton.1 e, o.irrefl]

/-- Some of the set, the least ones. -/
def SetPartG (lt : α → α → Bool) (good : α → Bool) (ls out : List α) : Prop :=
  RisingG lt out ∧ (∀ x ∈ out, x ∈ ls ∧ good x = true) ∧ ∀ x ∈ ls, good x = true → x ∈ out ∨ candG lt good out x = true

theorem SetPartG.nil (ls : List α) : SetPartG lt good ls [] := ⟨trivial, fun _ h => (by cases h), fun x _ hx => .inr (by simp [candG, hx])⟩

theorem SetPartG.len [BEq α] [LawfulBEq α] (o : Ord lt) {ls out : List α} (h : SetPartG lt good ls out) : out.length ≤ ls.length := nodup_lengthG _ _ (h.1.nodup o) fun x hx => (h.2.1 x hx).1

theorem SetPartG.done {ls out : List α} (h : SetPartG lt good ls out) (hb : BestG lt good out ls none) : SetG lt good ls out :=
  ⟨h.1, fun x => ⟨h.2.1 x, fun ⟨h1, h2⟩ => (h.2.2 x h1 h2).elim id fun hc => by rw [hb x h1] at hc; cases hc⟩⟩

theorem last_risingG : ∀ {out : List α} {l : α}, RisingG lt out → out.getLast? = some l → ∀ x ∈ out, x = l ∨ lt x l = true
  | [], _, _, _, x, hx => by cases hx
  | [y], l, _, hl, x, hx => by simp at hl hx; exact .inl (hx.trans hl)
  | y :: z :: r, l, h, hl, x, hx => by
    have hl' : (z :: r).getLast? = some l := by simpa [List.getLast?_cons_cons] using hl
    rcases List.mem_cons.1 hx with k | k
    · subst k
      exact .inr (h.1 l (List.mem_of_getLast? hl'))
    · exact last_risingG h.2 hl' x k

theorem SetPartG.step (o : Ord lt) {ls out : List α} {b : α} (h : SetPartG lt good ls out) (hb : BestG lt good out ls (some b)) : SetPartG lt good ls (out ++ [b]) := by
  obtain ⟨h1, h2, h3⟩ := hb
  have hc := h2
  simp only [candG, Bool.and_eq_true] at hc
  have hlt : ∀ y ∈ out, lt y b = true := by
    intro y hy
    cases hl : out.getLast? with
    | none => rw [List.getLast?_eq_none_iff.1 hl] at hy; cases hy
    | some l =>
      rw [hl] at hc
      rcases last_risingG h.1 hl y hy with k | k
      · rw [k]; exact hc.2
      · exact o.trans _ _ _ k hc.2
  have hl : (out ++ [b]).getLast? = some b := by simp
  refine ⟨h.1.snoc hlt, fun x hx => ?_, fun x hx hn => ?_⟩
  · rcases List.mem_append.1 hx with k | k
    · exact h.2.1 x k
    · rw [List.mem_singleton.1 k]; exact ⟨h1, hc.1⟩
  · rcases h.2.2 x hx hn with k | k
    · exact .inl (List.mem_append_left _ k)
    · rcases o.tri x b with e | e | e
      · rw [h3 x hx k] at e; cases e
      · exact .inl (by rw [e]; simp)
      · exact .inr (by simp [candG, hn, e])

end

/-- Two orders, one behind the other. -/
def lexLt {α β : Type} [BEq α] (f : α → α → Bool) (g : β → β → Bool) (a b : α × β) : Bool := f a.1 b.1 || (a.1 == b.1 && g a.2 b.2)

theorem lexLt_ord {α β : Type} [BEq α] [LawfulBEq α] {f : α → α → Bool} {g : β → β → Bool} (hf : Ord f) (hg : Ord g) : Ord (lexLt f g) where
  irrefl a := by simp [lexLt, hf.irrefl, hg.irrefl]
  trans a b c h1 h2 := by
    simp only [lexLt, Bool.or_eq_true, Bool.and_eq_true, beq_iff_eq] at *
    rcases h1 with h1 | ⟨e1, h1⟩
    · rcases h2 with h2 | ⟨e2, h2⟩
      · exact .inl (hf.trans _ _ _ h1 h2)
      · exact .inl (by rw [← e2]; exact h1)
    · rcases h2 with h2 | ⟨e2, h2⟩
      · exact .inl (by rw [e1]; exact h2)
      · exact .inr ⟨e1.trans e2, hg.trans _ _ _ h1 h2⟩
  tri a b := by
    simp only [lexLt, Bool.or_eq_true, Bool.and_eq_true, beq_iff_eq]
    rcases hf.tri a.1 b.1 with h | h | h
    · exact .inl (.inl h)
    · rcases hg.tri a.2 b.2 with k | k | k
      · exact .inl (.inr ⟨h, k⟩)
      · exact .inr (.inl (Prod.ext h k))
      · exact .inr (.inr (.inr ⟨h.symm, k⟩))
    · exact .inr (.inr (.inl h))

end Go.Proofs.Ytcdjjengkdbngaa

/- Names, and sets of them: plain words, nothing of the program's text. -/
namespace Go.Proofs.Ytcdjjengkdbngaa
open Go.RowKit

/-- A sign of a name. -/
def okByte (c : UInt8) : Bool := (decide (97 ≤ c.toNat) && decide (c.toNat ≤ 122)) || (decide (48 ≤ c.toNat) && decide (c.toNat ≤ 57)) || decide (c.toNat = 45)
def okFirst (c : UInt8) : Bool := decide (97 ≤ c.toNat) && decide (c.toNat ≤ 122)
/-- A name. -/
def isName : List UInt8 → Bool
  | [] => false
  | c :: l => okFirst c && decide (l.length < 16) && (c :: l).all okByte

theorem isName_long {l : List UInt8} (h : 16 < l.length) : isName l = false := by
  cases l with
  | nil => rfl
  | cons c l =>
    have : decide (l.length < 16) = false := by simp at h ⊢; omega
    simp [isName, this]

theorem isName_first {l : List UInt8} (h0 : 0 < l.length) (h : okFirst l[0] = false) : isName l = false := by
  cases l with
  | nil => simp at h0
  | cons c l => simp at h; simp [isName, h]

theorem isName_all {l : List UInt8} (h0 : 0 < l.length) (h : okFirst l[0] = true) (h1 : l.length ≤ 16) : isName l = l.all okByte := by
  cases l with
  | nil => simp at h0
  | cons c l =>
    have h2 : decide (l.length < 16) = true := by simp at h1 ⊢; omega
    simp only [List.getElem_cons_zero] at h
    simp only [isName, h, h2, Bool.true_and]

theorem isName_len {l : List UInt8} (h : isName l = true) : 0 < l.length ∧ l.length ≤ 16 := by
  cases l with
  | nil => cases h
  | cons c l =>
    simp only [isName, Bool.and_eq_true, decide_eq_true_eq] at h
    simp
    omega

theorem all_take_succ (l : List UInt8) (k : Nat) (h : k < l.length) (ha : (l.take k).all okByte = true) : (l.take (k + 1)).all okByte = okByte l[k] := by
  rw [List.take_succ_eq_append_getElem h, List.all_append, ha]
  simp

theorem all_of_bad (l : List UInt8) (k : Nat) (h : k < l.length) (hb : okByte l[k] = false) : l.all okByte = false := by
  rw [List.all_eq_false]
  exact ⟨l[k], List.getElem_mem h, by simp [hb]⟩

end Go.Proofs.Ytcdjjengkdbngaa
