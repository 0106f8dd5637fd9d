/- Texts that the proof leans on, in one: PkMap, PkAdd. -/
import Derived.Test.YtjflmhncgkbdmaaGreatKb8
import Derived.Maps.OwnSet
import Derived.Sort.KeysCollected
import Derived.Test.YtjflmhncgkbdmaaGreatKb3
import Derived.Test.YtjflmhncgkbdmaaGreatKb6
/- A registry as it lies in memory: the block of its one cell, and its map's block. -/
namespace Go.Proofs.YtjflmhncgkbdmaaGreat
open Go.RowKit Go.Maps Go.ChangeMaps Go.WideMaps

/-- An element of the map stands for itself. -/
def selfElem (v : Value) : Option (DataW Value × List MemPlace) := some (.held v, [])

theorem Tryz.keyedS : Keyed Tryz.prog 9 := string_keyed Tryz.underlying9
theorem Tryz.zeroB (w : World) : (zeroValue 36).run Tryz.prog w = .ok (.slice none 0 0) w := by kernel_rfl

/-- The map in the block mb holds the keys l: who has one, and its bytes, which can be read from blocks of D. -/
structure MapAt (D : Nat → Prop) (w : World) (mb : Nat) (l : List KeyB) : Prop where
  ex : ∃ M : DataW Value, w.ownsMap Tryz.prog 9 selfElem mb l.length M ∧ (∀ o : List UInt8, Maps.has M (.string o) = hasWho l o) ∧
    ∀ o : List UInt8, hasWho l o = true → ∃ v, (∀ z, M.atKey (.string o) z = .held v) ∧ BytesAt D w v (keyOf l o)
  nd : (l.map (·.who)).Nodup

theorem ownsMap_keep {S : Nat → Prop} {w w' : World} {mb n : Nat} {M : DataW Value} (h : w.ownsMap Tryz.prog 9 selfElem mb n M) (hc : Chg S w w') (hs : ¬ S mb) : w'.ownsMap Tryz.prog 9 selfElem mb n M := by
  obtain ⟨es, clock, hb, r⟩ := h
  exact ⟨es, clock, blk_keep hb hc hs, r⟩

theorem MapAt.keep {D S : Nat → Prop} {w w' : World} {mb : Nat} {l : List KeyB} (h : MapAt D w mb l) (hc : Chg S w w') (hs : ¬ S mb) (hD : ∀ i, D i → ¬ S i) : MapAt D w' mb l := by
  obtain ⟨⟨M, h1, h2, h3⟩, h4⟩ := h
  exact ⟨⟨M, ownsMap_keep h1 hc hs, h2, fun o ho => let ⟨v, hv, hb⟩ := h3 o ho; ⟨v, hv, hb.keep hc hD⟩⟩, h4⟩

theorem MapAt.mono {D E : Nat → Prop} {w : World} {mb : Nat} {l : List KeyB} (h : MapAt D w mb l) (hD : ∀ i, D i → E i) : MapAt E w mb l := by
  obtain ⟨⟨M, h1, h2, h3⟩, h4⟩ := h
  exact ⟨⟨M, h1, h2, fun o ho => let ⟨v, hv, hb⟩ := h3 o ho; ⟨v, hv, hb.mono hD⟩⟩, h4⟩

theorem MapAt.lt {D : Nat → Prop} {w : World} {mb : Nat} {l : List KeyB} (h : MapAt D w mb l) : mb < w.heap.size := by
  obtain ⟨⟨M, h1, _⟩, _⟩ := h
  exact h1.lt

/-- A map that has just been made holds no key. -/
theorem map_made (D : Nat → Prop) (w : World) : MapAt D (w.alloc (.map #[] 0)) w.heap.size [] :=
  ⟨⟨_, World.ownsMap_made w _ _ _, fun _ => rfl, fun o ho => by simp [hasWho] at ho⟩, List.nodup_nil⟩

theorem key_reads {o : List UInt8} (ho : o.length ≤ 9223372036854775807) : Go.keyOf Tryz.prog 9 (.string ⟨o.toArray⟩) = some (.string o) := by
  have := keyOf_string_mk (P := Tryz.prog) (k := 9) Tryz.underlying9 (s := ⟨o.toArray⟩) (by unfold maxLen; simpa [ByteArray.size] using ho)
  simpa using this

/-- The look-up of a name that has no key. -/
theorem MapAt.miss {D : Nat → Prop} {w : World} {mb : Nat} {l : List KeyB} (h : MapAt D w mb l) {o : List UInt8} (ho : o.length ≤ 9223372036854775807) (hn : hasWho l o = false) :
    (Instr.lookup 74 (.map (some mb)) (.string ⟨o.toArray⟩) true).run Tryz.prog w = .ok (.tuple #[.slice none 0 0, .bool false]) w := by
  obtain ⟨⟨M, h1, h2, _⟩, _⟩ := h
  obtain ⟨v, ps, hrun, hv⟩ := h1.look_ok Tryz.keyedS Tryz.underlying74 (Tryz.zeroB w) (R := selfElem) rfl (key_reads ho)
  rw [h2 o, hn] at hrun
  have h5 := Maps.atKey_of_not_has (D := M) (k := .string o) ((h2 o).trans hn)
  rw [h5] at hv
  simp only [selfElem, Option.some.injEq, Prod.mk.injEq, DataW.held.injEq] at hv
  rw [hrun, hv.1]

/-- The look-up of a name that has a key. -/
theorem MapAt.look {D : Nat → Prop} {w : World} {mb : Nat} {l : List KeyB} (h : MapAt D w mb l) {o : List UInt8} (ho : o.length ≤ 9223372036854775807) (hn : hasWho l o = true) :
    ∃ ao cap, BytesAt D w (.slice ao (keyOf l o).length cap) (keyOf l o) ∧ ∀ w', w'.heap[mb]? = w.heap[mb]? →
      (Instr.lookup 74 (.map (some mb)) (.string ⟨o.toArray⟩) true).run Tryz.prog w' = .ok (.tuple #[.slice ao (keyOf l o).length cap, .bool true]) w' := by
  obtain ⟨⟨M, h1, h2, h3⟩, _⟩ := h
  obtain ⟨v, hat, hb⟩ := h3 o hn
  obtain ⟨ao, cap, rfl⟩ := hb.shape
  refine ⟨ao, cap, hb, fun w' hw => ?_⟩
  have h1' : w'.ownsMap Tryz.prog 9 selfElem mb l.length M := by
    obtain ⟨es, clock, hb, r⟩ := h1
    exact ⟨es, clock, hw.trans hb, r⟩
  obtain ⟨v, ps, hrun, hv⟩ := h1'.look_ok Tryz.keyedS Tryz.underlying74 (Tryz.zeroB w') (R := selfElem) rfl (key_reads ho)
  rw [h2 o, hn] at hrun
  rw [hat] at hv
  simp only [selfElem, Option.some.injEq, Prod.mk.injEq, DataW.held.injEq] at hv
  rw [hrun, hv.1]

theorem isKey (o : List UInt8) : WideAt.IsKeyLit (.string o) := trivial

theorem hasWho_snoc (l : List KeyB) (k : KeyB) (o : List UInt8) : hasWho (l ++ [k]) o = (hasWho l o || k.who == o) := by simp [hasWho]
theorem keyOf_old {l : List KeyB} {k : KeyB} {o : List UInt8} (h : hasWho l o = true) : keyOf (l ++ [k]) o = keyOf l o := by
  unfold keyOf keyAt
  rw [List.find?_append]
  unfold hasWho at h
  obtain ⟨x, hx, hxo⟩ := List.any_eq_true.1 h
  cases hf : l.find? (·.who == o) with
  | none => exact absurd hxo (by simpa using List.find?_eq_none.1 hf x hx)
  | some y => rfl
theorem keyOf_new {l : List KeyB} {k : KeyB} (h : hasWho l k.who = false) : keyOf (l ++ [k]) k.who = k.key := by
  unfold keyOf keyAt
  rw [List.find?_append, List.find?_eq_none.2 (fun x hx => by
    have := List.any_eq_false.1 h x hx
    simpa using this)]
  simp

/-- A slice of bytes doesn't lie in a map's block. -/
theorem BytesAt.notMap {D : Nat → Prop} {w : World} {v : Value} {l : List UInt8} {mb : Nat} {es : Array MapEntry} {cl : Nat} (h : BytesAt D w v l) (hm : w.heap[mb]? = some (.map es cl)) : BytesAt (fun i => D i ∧ i ≠ mb) w v l := by
  rcases h with h | ⟨b, off, cap, h1, h2, h3, h4, h5⟩
  · exact .inl h
  · by_cases hl : l = []
    · subst hl
      exact .inl ⟨_, _, h1, rfl, fun e => by cases e⟩
    · refine .inr ⟨b, off, cap, h1, h2, h3, ⟨h4, fun e => ?_⟩, h5⟩
      subst e
      have hpos := List.length_pos_iff.2 hl
      have := h5 0 hpos
      simp [World.cell?, hm] at this

/-- A key that is added. -/
theorem MapAt.add {D E : Nat → Prop} {w : World} {mb : Nat} {l : List KeyB} (h : MapAt D w mb l) {k : KeyB} {ao : Option Addr} {cap : Nat} (ho : k.who.length ≤ 9223372036854775807) (hl : l.length < 9223372036854775807) (hn : hasWho l k.who = false)
    (hD : ∀ i, D i → E i) (hb0 : BytesAt E w (.slice ao k.key.length cap) k.key) :
    ∃ w', (Instr.mapUpdate 74 (.map (some mb)) (.string ⟨k.who.toArray⟩) (.slice ao k.key.length cap)).run Tryz.prog w = .ok () w' ∧ MapAt E w' mb (l ++ [k]) ∧ Chg (· = mb) w w' := by
  obtain ⟨⟨M, h1, h2, h3⟩, h4⟩ := h
  obtain ⟨w', hrun, hown, hg⟩ := h1.update Tryz.keyedS Tryz.underlying74 (by unfold maxLen; omega) (key_reads ho) (val := .slice ao k.key.length cap) (d := .held (.slice ao k.key.length cap)) (ps := []) rfl
  have hc : Chg (· = mb) w w' := (Chg.refl (· = mb) w).grown hg (fun k hk _ => by simpa using hk.symm)
  have hM := h1.isMap
  obtain ⟨es, cl, hmo, _⟩ := id h1
  have hb := hb0.notMap hmo
  refine ⟨w', hrun, ⟨⟨_, by rw [List.length_append]; exact hown, fun o => ?_, fun o hov => ?_⟩, ?_⟩, hc⟩
  · rw [hasWho_snoc]
    by_cases e : k.who = o
    · subst e
      rw [Maps.has_put_same hM (isKey _)]
      simp
    · rw [Maps.has_put_other (fun e' => e (by simpa using e'.symm)), h2 o]
      have : (k.who == o) = false := by simpa using e
      rw [this, Bool.or_false]
  · by_cases e : k.who = o
    · subst e
      refine ⟨.slice ao k.key.length cap, fun z => Maps.atKey_put_same hM (isKey _) _ z, ?_⟩
      rw [keyOf_new hn]
      exact (hb.keep hc (fun i hi e => hi.2 e)).mono (fun i hi => hi.1)
    · have hov' : hasWho l o = true := by
        rw [hasWho_snoc] at hov
        have : (k.who == o) = false := by simpa using e
        rwa [this, Bool.or_false] at hov
      obtain ⟨v, hat, hbv⟩ := h3 o hov'
      refine ⟨v, fun z => by rw [Maps.atKey_put_other (fun e' => e (by simpa using e'.symm))]; exact hat z, ?_⟩
      rw [keyOf_old hov']
      exact ((hbv.notMap hmo).keep hc (fun i hi e => hi.2 e)).mono (fun i hi => hD i hi.1)
  · rw [List.map_append, List.nodup_append]
    refine ⟨h4, by simp, fun a ha b hb => ?_⟩
    simp only [List.map_cons, List.map_nil, List.mem_singleton] at hb
    subst hb
    intro e
    subst e
    obtain ⟨x, hx, hxe⟩ := List.mem_map.1 ha
    have := List.any_eq_false.1 hn x hx
    simp [hxe] at this

/-- The keys' names, as the map's own words have them. -/
theorem MapAt.names {D : Nat → Prop} {w : World} {mb : Nat} {l : List KeyB} (h : MapAt D w mb l) :
    ∃ M : DataW Value, w.ownsMap Tryz.prog 9 selfElem mb l.length M ∧ (l.map (·.who)).Perm (strKeys M) ∧ Maps.size M ≤ l.length := by
  obtain ⟨⟨M, h1, h2, _⟩, h4⟩ := h
  refine ⟨M, h1, ?_, h1.size_le⟩
  obtain ⟨es, rfl, hp⟩ := h1.tidy Tryz.keyedS
  obtain ⟨es', he', hk⟩ := h1.keysOf
  cases he'
  refine perm_strKeys hp (fun p hp' => ?_) h4 (fun x => ?_)
  · obtain ⟨v, hv⟩ := hk p hp'
    obtain ⟨x, _, hx, _⟩ := Maps.keyOf_str Tryz.underlying9 hv
    exact ⟨x, hx⟩
  · rw [h2 x, hasWho, List.any_eq_true, List.mem_map]
    exact ⟨fun ⟨k, hk, e⟩ => ⟨k, hk, by simpa using e⟩, fun ⟨k, hk, e⟩ => ⟨k, hk, by simpa using e⟩⟩

/-- The registry in the block g has the keys l; it and they lie in blocks of D. -/
structure RegAt (D : Nat → Prop) (w : World) (g : Nat) (l : List KeyB) : Prop where
  ex : ∃ mb, w.heap[g]? = some (.cells #[.map (some mb)] 76 (0, 0)) ∧ D mb ∧ MapAt D w mb l
  dg : D g

theorem RegAt.keep {D S : Nat → Prop} {w w' : World} {g : Nat} {l : List KeyB} (h : RegAt D w g l) (hc : Chg S w w') (hD : ∀ i, D i → ¬ S i) : RegAt D w' g l := by
  obtain ⟨⟨mb, h1, h2, h3⟩, h4⟩ := h
  exact ⟨⟨mb, blk_keep h1 hc (hD g h4), h2, h3.keep hc (hD mb h2) hD⟩, h4⟩

theorem RegAt.mono {D E : Nat → Prop} {w : World} {g : Nat} {l : List KeyB} (h : RegAt D w g l) (hD : ∀ i, D i → E i) : RegAt E w g l := by
  obtain ⟨⟨mb, h1, h2, h3⟩, h4⟩ := h
  exact ⟨⟨mb, h1, hD mb h2, h3.mono hD⟩, hD g h4⟩
end Go.Proofs.YtjflmhncgkbdmaaGreat

/- The contract of the program's way to add a key to a registry. -/
namespace Go.Proofs.YtjflmhncgkbdmaaGreat
open Go.RowKit Go.Maps

def SpecR.btsM (mb lo : Nat) (hB : mb < lo) (l : List UInt8) : SpecR (Chg (· = mb)) :=
  ⟨fun v w => ∃ ta cap, v = .slice ta l.length cap ∧ l = l ∧ BytesAt (fun k => lo ≤ k ∧ k < w.heap.size) w v l, fun _ _ _ hc ⟨ta, cap, h1, h2, h3⟩ => ⟨ta, cap, h1, h2, (h3.keep hc (fun i hi e => by have := hi.1; have : i = mb := e; omega)).mono (fun i hi => ⟨hi.1, Nat.lt_of_lt_of_le hi.2 hc.size⟩)⟩⟩

/-- What is so amid the adding. -/
def AddW (D : Nat → Prop) (mb lo : Nat) (l : List KeyB) (w2 : World) (L : Nat → Bool) (w9 : World) : Prop :=
  Chg (· = mb) w2 w9 ∧ (L 9 = true → L 8 = true) ∧ (L 9 = false → Chg (fun _ => False) w2 w9) ∧ (L 9 = true → MapAt (fun i => D i ∨ lo ≤ i ∧ i < w9.heap.size) w9 mb l)

theorem AddW.late {D : Nat → Prop} {mb lo : Nat} {l : List KeyB} {w2 w9 : World} {L : Nat → Bool} (h : AddW D mb lo l w2 L w9) (h8 : L 8 = false) : L 9 = false := by
  cases h9 : L 9 with
  | false => rfl
  | true => rw [h.2.1 h9] at h8; cases h8

theorem AddW.step {D : Nat → Prop} {mb lo : Nat} {l : List KeyB} {w2 w9 : World} {L : Nat → Bool} {i : Nat} (h : AddW D mb lo l w2 L w9) (hi : ¬ 8 = i ∧ ¬ 9 = i) : AddW D mb lo l w2 (upd L i) w9 := by
  have e8 : upd L i 8 = L 8 := if_neg hi.1
  have e9 : upd L i 9 = L 9 := if_neg hi.2
  exact ⟨h.1, fun h9 => by rw [e8]; exact h.2.1 (by rw [← e9]; exact h9), fun h9 => h.2.2.1 (by rw [← e9]; exact h9), fun h9 => h.2.2.2 (by rw [← e9]; exact h9)⟩

theorem AddW.call {D : Nat → Prop} {mb lo : Nat} {l : List KeyB} {w2 w9 w' : World} {L : Nat → Bool} (h : AddW D mb lo l w2 L w9) (h9 : L 9 = false) (hc : Chg (fun _ => False) w9 w') : AddW D mb lo l w2 L w' :=
  ⟨h.1.trans hc (fun _ _ h => h.elim), h.2.1, fun _ => (h.2.2.1 h9).trans hc (fun _ _ h => h), fun h' => by rw [h9] at h'; cases h'⟩

theorem AddW.step8 {D : Nat → Prop} {mb lo : Nat} {l : List KeyB} {w2 w9 : World} {L : Nat → Bool} (h : AddW D mb lo l w2 L w9) (h9 : L 9 = false) : AddW D mb lo l w2 (upd L 8) w9 := by
  have e8 : upd L 8 8 = true := if_pos rfl
  have e9 : upd L 8 9 = L 9 := if_neg (by decide)
  exact ⟨h.1, fun _ => e8, fun _ => h.2.2.1 h9, fun h' => by rw [e9, h9] at h'; cases h'⟩

theorem AddW.done {D : Nat → Prop} {mb lo : Nat} {l : List KeyB} {w2 w9 w' : World} {L : Nat → Bool} (h : AddW D mb lo l w2 L w9) (h8 : L 8 = true) (hc : Chg (· = mb) w9 w') (hm : MapAt (fun i => D i ∨ lo ≤ i ∧ i < w'.heap.size) w' mb l) : AddW D mb lo l w2 (upd L 9) w' := by
  have e8 : upd L 9 8 = L 8 := if_neg (by decide)
  have e9 : upd L 9 9 = true := if_pos rfl
  exact ⟨h.1.trans hc (fun _ _ h => h), fun _ => e8.trans h8, fun h' => (by rw [e9] at h'; cases h'), fun _ => hm⟩

def addSpecs (g A mb : Nat) (k : KeyB) (v : Value) (b : Bool) : List Spec := [.eq (.pointer (some ⟨g, 0, none⟩)), .any, .any, .eq (.pointer (some ⟨A, 0, none⟩)), .any, .eq (v), .eq (.bool b), .any, .any, .any, .any, .any, .any, .any, .any, .any, .any, .any, .any, .any, .any, .eq (.tuple #[v, .bool b]), .eq (.pointer (some ⟨g, 0, none⟩)), .eq (.pointer (some ⟨g, 0, none⟩)), .eq (.pointer (some ⟨g, 0, none⟩)), .eq (.map (some mb)), .eq (.pointer (some ⟨A, 0, none⟩)), .eq (.string ⟨k.who.toArray⟩), .eq (.tuple #[v, .bool b]), .eq (v), .eq (.bool b)]
def addSpecs8 (g A mb lo : Nat) (hm : mb < lo) (k : KeyB) (ka : Option Addr) (cap : Nat) : List (SpecR (Chg (· = mb))) := [.eq (.pointer (some ⟨g, 0, none⟩)), .any, .any, .eq (.pointer (some ⟨A, 0, none⟩)), .any, .any, .any, .any, .any, .any, .any, .any, .any, .any, .any, .any, .any, .any, .any, .any, .any, .any, .any, .any, .any, .any, .any, .any, .any, .any, .any, .any, .eq (.pointer (some ⟨g, 0, none⟩)), .eq (.pointer (some ⟨g, 0, none⟩)), .eq (.pointer (some ⟨g, 0, none⟩)), .eq (.map (some mb)), .eq (.pointer (some ⟨A, 0, none⟩)), .eq (.string ⟨k.who.toArray⟩), .eq (.pointer (some ⟨A, 1, none⟩)), .eq (.slice ka k.key.length cap), .btsM mb lo hm k.key]

/-- A registry that the call itself has made, or that lies in blocks from B on. -/
def RegOwn (B : Nat) (w : World) (g : Nat) (l : List KeyB) : Prop := RegAt (fun i => B ≤ i ∧ i < w.heap.size) w g l

def AddPost (B g : Nat) (l : List KeyB) (k : KeyB) (w : World) (e : Ending) (w' : World) : Prop :=
  e = .returned (.int .i64 (keyErr l k : Nat)) ∧ Chg (fun i => B ≤ i) w w' ∧ (keyErr l k = 0 → RegOwn B w' g (l ++ [k]))

theorem add_le {n : Nat} {a : Int} (h : (n : Int) = a) : Ending.returned (.int .i64 a) = .returned (.int .i64 (n : Int)) := by rw [h]

set_option maxRecDepth 100000 in
set_option maxHeartbeats 2000000 in
theorem padd {E : Nat → Prop} (B g : Nat) (l : List KeyB) (k : KeyB) (ka : Option Addr) (cap : Nat) (w : World) (h : RegOwn B w g l) (hl : l.length ≤ 4611686018427387904) (hwl : k.who.length ≤ 9223372036854775807) (hkl : k.key.length ≤ 9223372036854775807) (hb : BytesAt E w (.slice ka k.key.length cap) k.key) :
    Calls Tryz.prog 31 #[.pointer (some ⟨g, 0, none⟩), .agg #[.string ⟨k.who.toArray⟩, .slice ka k.key.length cap]] w (AddPost B g l k w) := by
  have hll : l.length < 9223372036854775807 := by omega
  obtain ⟨⟨mb, hg, hD, hM⟩, hDg⟩ := h
  have hA1 : (w.alloc (.cells #[.string ⟨k.who.toArray⟩, .slice ka k.key.length cap] 72)).heap[w.heap.size]? = some (.cells #[.string ⟨k.who.toArray⟩, .slice ka k.key.length cap] 72 (0, 0)) := heap_alloc_new w _
  have hc1 : Chg (fun _ => False) w (w.alloc (.cells #[.string ⟨k.who.toArray⟩, .slice ka k.key.length cap] 72)) := (Chg.refl _ w).alloc _
  have hg1 := blk_keep hg hc1 id
  have hM1 := hM.keep hc1 id (fun _ _ => id)
  have hgm : ¬ g = mb := fun e => by
    subst e
    obtain ⟨⟨M, ⟨es, cl, hx, _⟩, _⟩, _⟩ := hM
    rw [hg] at hx
    cases hx
  have hmw := hM.lt
  have hAm : ¬ w.heap.size = mb := by omega
  have hrt := right_any k.who (w.alloc (.cells #[.string ⟨k.who.toArray⟩, .slice ka k.key.length cap] 72)) hwl
  have HP := hid (And.intro hDg (And.intro hD hmw))
  have HW := hid (And.intro hgm hAm)
  have HH := hid (And.intro hrt (And.intro hA1 (And.intro hg1 (And.intro hc1 (And.intro hM1 (hb.keep hc1 (fun _ _ => id)))))))
  clear hrt hA1 hc1 hg1 hM1 hb hM hg hDg hD hmw hgm hAm
  go_enter Tryz.func31, Tryz.ntmps31
  go_wp2_with fail
  obtain ⟨hrt, hA, hg, hc1, hM, hb⟩ := HH.out
  clear HH
  generalize (w.alloc (.cells #[.string ⟨k.who.toArray⟩, .slice ka k.key.length cap] 72)) = w1 at *
  generalize hAe : w.heap.size = A at *
  have HAe := hid hAe
  clear hAe
  have z0 := cell_blk hA 0
  have z1 := cell_blk hA 1
  simp only [List.getElem?_toArray, List.getElem?_cons_zero, List.getElem?_cons_succ] at z0 z1
  refine hrt.mono ?_
  rintro e w2 ⟨rfl, rfl⟩
  have HX := hid (And.intro hg hA)
  have HC := hid hc1
  have HM := hid hM
  clear hrt hA hg hc1 hM
  by_cases hn : isName k.who = true
  · rw [hn]
    by_cases hs1 : 1 ≤ k.key.length
    · by_cases hs2 : k.key.length ≤ 32
      · have d1 : decide ((k.key.length : Int) < 1) = false := by simp; omega
        have d2 : decide ((32 : Int) < (k.key.length : Int)) = false := by simp; omega
        have hlen : k.key.length ≤ 140737488355328 := by omega
        have HS := hid (And.intro hn (show keySize k = true by simp [keySize, hs1, hs2]))
        have HB := hid hb
        clear hn hs1 hs2 hb
        go_wp2_with fail
        clear d1 d2
        by_cases hno : hasWho l k.who = true
        · obtain ⟨ao, cp, _, hlk⟩ := HM.out.look hwl hno
          generalize Value.slice ao (keyOf l k.who).length cp = v at *
          obtain ⟨b, hbv⟩ : ∃ b, true = b := ⟨_, rfl⟩
          have HL : Hid (∀ w', Chg (fun _ => False) w1 w' → (Instr.lookup 74 (.map (some mb)) (.string ⟨k.who.toArray⟩) true).run Tryz.prog w' = .ok (.tuple #[v, .bool b]) w') := hid (fun w' hc => by rw [← hbv]; exact hlk w' (hc.block mb HM.out.lt id))
          clear hlk
          have HBV := hid hbv
          clear hbv
          refine wp_region_specs (addSpecs g A mb k v b) [22, 23, 24, 25, 26, 27, 28, 21, 29, 30, 5, 6] [0, 3] (by kernel_rfl) (by kernel_rfl) (by rfl) (by kernel_rfl) ?start ?obs ?fin
          case start =>
            simp only [List.forall_mem_cons]; exact ⟨⟨_, rfl, rfl⟩, ⟨_, rfl, rfl⟩, fun _ h => by cases h⟩
          case obs =>
            clear HC HS HB HW HP
            refine Obs.cons none (by kernel_rfl) ?_ ?_
            · refine Ob.plain fun a w hR hk K k => ?_
              obtain ⟨_, e0, f0⟩ := hk 0 (by decide)
              clear hk
              go_simp
              exact k _ _ (Chg.refl _ _) f0
            refine Obs.cons none (by kernel_rfl) ?_ ?_
            · refine Ob.plain fun a w hR hk K k => ?_
              obtain ⟨_, e22, rfl⟩ := hk 22 (by decide)
              clear hk
              go_simp
              exact k _ _ (Chg.refl _ _) rfl
            refine Obs.cons none (by kernel_rfl) ?_ ?_
            · refine Ob.plain fun a w hR hk K k => ?_
              obtain ⟨_, e23, rfl⟩ := hk 23 (by decide)
              clear hk
              go_simp
              exact k _ _ (Chg.refl _ _) rfl
            refine Obs.cons none (by kernel_rfl) ?_ ?_
            · refine Ob.plain fun a w hR hk K k => ?_
              obtain ⟨_, e24, rfl⟩ := hk 24 (by decide)
              clear hk
              have zz := hR.cell (cell_blk HX.out.1 0) id
              go_simp
              exact k _ _ (Chg.refl _ _) rfl
            refine Obs.cons none (by kernel_rfl) ?_ ?_
            · refine Ob.plain fun a w hR hk K k => ?_
              obtain ⟨_, e3, rfl⟩ := hk 3 (by decide)
              clear hk
              go_simp
              exact k _ _ (Chg.refl _ _) rfl
            refine Obs.cons none (by kernel_rfl) ?_ ?_
            · refine Ob.plain fun a w hR hk K k => ?_
              obtain ⟨_, e26, rfl⟩ := hk 26 (by decide)
              clear hk
              have zz := hR.cell (cell_blk HX.out.2 0) id
              go_simp
              exact k _ _ (Chg.refl _ _) rfl
            refine Obs.cons none (by kernel_rfl) ?_ ?_
            · refine Ob.plain fun a w hR hk K k => ?_
              obtain ⟨_, e25, rfl⟩ := hk 25 (by decide)
              obtain ⟨_, e27, rfl⟩ := hk 27 (by decide)
              clear hk
              have q := HL.out w hR
              go_simp
              exact k _ _ (Chg.refl _ _) rfl
            refine Obs.cons none (by kernel_rfl) ?_ ?_
            · refine Ob.plain fun a w hR hk K k => ?_
              obtain ⟨_, e28, f28⟩ := hk 28 (by decide)
              clear hk
              go_simp
              exact k _ _ (Chg.refl _ _) f28
            refine Obs.cons none (by kernel_rfl) ?_ ?_
            · refine Ob.plain fun a w hR hk K k => ?_
              obtain ⟨_, e21, rfl⟩ := hk 21 (by decide)
              clear hk
              go_simp
              exact k _ _ (Chg.refl _ _) rfl
            refine Obs.cons none (by kernel_rfl) ?_ ?_
            · refine Ob.plain fun a w hR hk K k => ?_
              obtain ⟨_, e21, rfl⟩ := hk 21 (by decide)
              clear hk
              go_simp
              exact k _ _ (Chg.refl _ _) rfl
            refine Obs.cons none (by kernel_rfl) ?_ ?_
            · refine Ob.plain fun a w hR hk K k => ?_
              obtain ⟨_, e29, f29⟩ := hk 29 (by decide)
              clear hk
              go_simp
              exact k _ _ (Chg.refl _ _) f29
            refine Obs.cons none (by kernel_rfl) ?_ ?_
            · refine Ob.plain fun a w hR hk K k => ?_
              obtain ⟨_, e30, f30⟩ := hk 30 (by decide)
              clear hk
              go_simp
              exact k _ _ (Chg.refl _ _) f30
            exact Obs.nil
          case fin =>
            intro vals w9 hc9 hv
            have h6 : vals 6 = .bool b := hv 6 (by decide)
            simp only [putAll, List.setIfInBounds_toArray, List.set_cons_zero, List.set_cons_succ, h6]
            rw [← HBV.out]
            have HC9 := hid (HC.out.trans hc9 (fun _ _ h => h))
            have HF : Hid (keyErr l k = 41) := hid (by rw [keyErr, if_pos HS.out.1, if_pos HS.out.2, if_pos hno])
            clear hc9 hv h6 HC HX HL HM HB HBV hno
            go_wp2
            go_ret
            exact ⟨by rw [HF.out]; rfl, HC9.out.mono (fun _ _ h => h.elim), fun h0 => by rw [HF.out] at h0; cases h0⟩
        · have hno : hasWho l k.who = false := by simpa using hno
          obtain ⟨v, hve⟩ : ∃ v, Value.slice none 0 0 = v := ⟨_, rfl⟩
          obtain ⟨b, hbv⟩ : ∃ b, false = b := ⟨_, rfl⟩
          have HL : Hid (∀ w', Chg (fun _ => False) w1 w' → (Instr.lookup 74 (.map (some mb)) (.string ⟨k.who.toArray⟩) true).run Tryz.prog w' = .ok (.tuple #[v, .bool b]) w') := hid (fun w' hc => by rw [← hbv, ← hve]; exact (HM.out.keep hc id (fun _ _ => id)).miss hwl hno)
          clear hve
          have HBV := hid hbv
          clear hbv
          refine wp_region_specs (addSpecs g A mb k v b) [22, 23, 24, 25, 26, 27, 28, 21, 29, 30, 5, 6] [0, 3] (by kernel_rfl) (by kernel_rfl) (by rfl) (by kernel_rfl) ?start2 ?obs2 ?fin2
          case start2 =>
            simp only [List.forall_mem_cons]; exact ⟨⟨_, rfl, rfl⟩, ⟨_, rfl, rfl⟩, fun _ h => by cases h⟩
          case obs2 =>
            clear HC HS HB HW HP
            refine Obs.cons none (by kernel_rfl) ?_ ?_
            · refine Ob.plain fun a w hR hk K k => ?_
              obtain ⟨_, e0, f0⟩ := hk 0 (by decide)
              clear hk
              go_simp
              exact k _ _ (Chg.refl _ _) f0
            refine Obs.cons none (by kernel_rfl) ?_ ?_
            · refine Ob.plain fun a w hR hk K k => ?_
              obtain ⟨_, e22, rfl⟩ := hk 22 (by decide)
              clear hk
              go_simp
              exact k _ _ (Chg.refl _ _) rfl
            refine Obs.cons none (by kernel_rfl) ?_ ?_
            · refine Ob.plain fun a w hR hk K k => ?_
              obtain ⟨_, e23, rfl⟩ := hk 23 (by decide)
              clear hk
              go_simp
              exact k _ _ (Chg.refl _ _) rfl
            refine Obs.cons none (by kernel_rfl) ?_ ?_
            · refine Ob.plain fun a w hR hk K k => ?_
              obtain ⟨_, e24, rfl⟩ := hk 24 (by decide)
              clear hk
              have zz := hR.cell (cell_blk HX.out.1 0) id
              go_simp
              exact k _ _ (Chg.refl _ _) rfl
            refine Obs.cons none (by kernel_rfl) ?_ ?_
            · refine Ob.plain fun a w hR hk K k => ?_
              obtain ⟨_, e3, rfl⟩ := hk 3 (by decide)
              clear hk
              go_simp
              exact k _ _ (Chg.refl _ _) rfl
            refine Obs.cons none (by kernel_rfl) ?_ ?_
            · refine Ob.plain fun a w hR hk K k => ?_
              obtain ⟨_, e26, rfl⟩ := hk 26 (by decide)
              clear hk
              have zz := hR.cell (cell_blk HX.out.2 0) id
              go_simp
              exact k _ _ (Chg.refl _ _) rfl
            refine Obs.cons none (by kernel_rfl) ?_ ?_
            · refine Ob.plain fun a w hR hk K k => ?_
              obtain ⟨_, e25, rfl⟩ := hk 25 (by decide)
              obtain ⟨_, e27, rfl⟩ := hk 27 (by decide)
              clear hk
              have q := HL.out w hR
              go_simp
              exact k _ _ (Chg.refl _ _) rfl
            refine Obs.cons none (by kernel_rfl) ?_ ?_
            · refine Ob.plain fun a w hR hk K k => ?_
              obtain ⟨_, e28, f28⟩ := hk 28 (by decide)
              clear hk
              go_simp
              exact k _ _ (Chg.refl _ _) f28
            refine Obs.cons none (by kernel_rfl) ?_ ?_
            · refine Ob.plain fun a w hR hk K k => ?_
              obtain ⟨_, e21, rfl⟩ := hk 21 (by decide)
              clear hk
              go_simp
              exact k _ _ (Chg.refl _ _) rfl
            refine Obs.cons none (by kernel_rfl) ?_ ?_
            · refine Ob.plain fun a w hR hk K k => ?_
              obtain ⟨_, e21, rfl⟩ := hk 21 (by decide)
              clear hk
              go_simp
              exact k _ _ (Chg.refl _ _) rfl
            refine Obs.cons none (by kernel_rfl) ?_ ?_
            · refine Ob.plain fun a w hR hk K k => ?_
              obtain ⟨_, e29, f29⟩ := hk 29 (by decide)
              clear hk
              go_simp
              exact k _ _ (Chg.refl _ _) f29
            refine Obs.cons none (by kernel_rfl) ?_ ?_
            · refine Ob.plain fun a w hR hk K k => ?_
              obtain ⟨_, e30, f30⟩ := hk 30 (by decide)
              clear hk
              go_simp
              exact k _ _ (Chg.refl _ _) f30
            exact Obs.nil
          case fin2 =>
            intro vals w9 hc9 hv
            have h6 : vals 6 = .bool b := hv 6 (by decide)
            simp only [putAll, List.setIfInBounds_toArray, List.set_cons_zero, List.set_cons_succ, h6]
            rw [← HBV.out]
            have HC9 := hid (HC.out.trans hc9 (fun _ _ h => h))
            have HX9 := hid (And.intro (blk_keep HX.out.1 hc9 id) (blk_keep HX.out.2 hc9 id))
            have HM9 := hid (HM.out.keep hc9 id (fun _ _ => id))
            have HB9 := hid (HB.out.keep hc9 (fun _ _ => id))
            have HF : Hid (keyErr l k = 0) := hid (by rw [keyErr, if_pos HS.out.1, if_pos HS.out.2, if_neg (by rw [hno]; decide)])
            clear hc9 hv h6 HC HX HL HM HB HBV
            go_wp2_with fail
            have hmlo : mb < w9.heap.size := HM9.out.lt
            have hgm := HW.out.1
            have hAm := HW.out.2
            have HX := HX9
            have HM := HM9
            have hb := HB9.out
            obtain ⟨lo, hloe⟩ : ∃ lo, w9.heap.size = lo := ⟨_, rfl⟩
            have hlo : lo ≤ w9.heap.size := by omega
            rw [hloe] at hmlo
            have HLOE := hid hloe
            clear hloe
            refine wp_region_state (Chg (· = mb)) (AddW (fun i => B ≤ i ∧ i < A) mb lo (l ++ [k]) w9) (specAtR (addSpecs8 g A mb lo hmlo k ka cap)) [32, 33, 34, 35, 36, 37, 38, 39, 40] [0, 3] (by kernel_rfl) (by kernel_rfl) ⟨(Chg.refl _ _).drew, (fun h => by cases h), (fun _ => (Chg.refl _ _).drew), (fun h => by cases h)⟩ (fun t v w w' hc h => specAtR_st _ t v w w' hc h) (by rfl) (by kernel_rfl) ?start3 ?obs3 ?fin3
            case start3 =>
              simp only [List.forall_mem_cons]; exact ⟨⟨_, rfl, rfl⟩, ⟨_, rfl, rfl⟩, fun _ h => by cases h⟩
            case obs3 =>
              clear HC9 HX9 HM9 HB9 HF
              refine ObsL.cons none (by kernel_rfl) ?_ ?_
              · refine ObL.plain fun L a w hi he hW hk K k => ?_
                obtain ⟨_, e0, f0⟩ := hk 0 (by decide)
                clear hk
                clear hi he
                go_simp
                exact k _ _ (Chg.refl _ _) (hW.step (by decide)) f0
              refine ObsL.cons none (by kernel_rfl) ?_ ?_
              · refine ObL.plain fun L a w hi he hW hk K k => ?_
                obtain ⟨_, e32, rfl⟩ := hk 32 (by decide)
                clear hk
                clear hi he
                go_simp
                exact k _ _ (Chg.refl _ _) (hW.step (by decide)) rfl
              refine ObsL.cons none (by kernel_rfl) ?_ ?_
              · refine ObL.plain fun L a w hi he hW hk K k => ?_
                obtain ⟨_, e33, rfl⟩ := hk 33 (by decide)
                clear hk
                clear hi he
                go_simp
                exact k _ _ (Chg.refl _ _) (hW.step (by decide)) rfl
              refine ObsL.cons none (by kernel_rfl) ?_ ?_
              · refine ObL.plain fun L a w hi he hW hk K k => ?_
                obtain ⟨_, e34, rfl⟩ := hk 34 (by decide)
                clear hk
                have zz := hW.1.cell (cell_blk HX.out.1 0) hgm
                clear hi he
                go_simp
                exact k _ _ (Chg.refl _ _) (hW.step (by decide)) rfl
              refine ObsL.cons none (by kernel_rfl) ?_ ?_
              · refine ObL.plain fun L a w hi he hW hk K k => ?_
                obtain ⟨_, e3, rfl⟩ := hk 3 (by decide)
                clear hk
                clear hi he
                go_simp
                exact k _ _ (Chg.refl _ _) (hW.step (by decide)) rfl
              refine ObsL.cons none (by kernel_rfl) ?_ ?_
              · refine ObL.plain fun L a w hi he hW hk K k => ?_
                obtain ⟨_, e36, rfl⟩ := hk 36 (by decide)
                clear hk
                have zz := hW.1.cell (cell_blk HX.out.2 0) hAm
                clear hi he
                go_simp
                exact k _ _ (Chg.refl _ _) (hW.step (by decide)) rfl
              refine ObsL.cons none (by kernel_rfl) ?_ ?_
              · refine ObL.plain fun L a w hi he hW hk K k => ?_
                obtain ⟨_, e3, rfl⟩ := hk 3 (by decide)
                clear hk
                clear hi he
                go_simp
                exact k _ _ (Chg.refl _ _) (hW.step (by decide)) rfl
              refine ObsL.cons none (by kernel_rfl) ?_ ?_
              · refine ObL.plain fun L a w hi he hW hk K k => ?_
                obtain ⟨_, e38, rfl⟩ := hk 38 (by decide)
                clear hk
                have zz := hW.1.cell (cell_blk HX.out.2 1) hAm
                clear hi he
                go_simp
                exact k _ _ (Chg.refl _ _) (hW.step (by decide)) rfl
              refine ObsL.cons none (by kernel_rfl) ?_ ?_
              · refine ObL.plain fun L a w hi he hW hk K k => ?_
                obtain ⟨_, e39, rfl⟩ := hk 39 (by decide)
                clear hk
                have h9 : L 9 = false := hW.late hi
                have hw := hW.2.2.1 h9
                have hcl := clone_any (w := w) hlen (hb.keep hw (fun _ _ => id))
                clear hi he
                go_simp
                refine hcl.mono ?_
                rintro e w5 ⟨ao, cp, rfl, hba, hcc⟩
                exact k _ _ (hcc.mono (fun _ _ h => h.elim)) ((hW.call h9 hcc).step8 h9) ⟨ao, cp, rfl, rfl, hba.mono (fun i hi => ⟨Nat.le_trans (Nat.le_trans hlo hw.size) hi.1, hi.2⟩)⟩
              refine ObsL.cons none (by kernel_rfl) ?_ ?_
              · refine ObL.plain fun L a w hi he hW hk K k => ?_
                obtain ⟨_, e35, rfl⟩ := hk 35 (by decide)
                obtain ⟨_, e37, rfl⟩ := hk 37 (by decide)
                obtain ⟨_, e40, f40⟩ := hk 40 (by decide)
                clear hk
                have h9 : L 9 = false := hi
                have h8 : L 8 = true := he ⟨8, Ground.data⟩ (by simp) (by decide)
                have hw := hW.2.2.1 h9
                obtain ⟨ao, cp, rfl, _, hba⟩ := f40
                have hm := (HM.out.keep hw id (fun _ _ => id))
                obtain ⟨w7, hrun, hm7, hc7⟩ := hm.add (E := fun i => (B ≤ i ∧ i < A) ∨ lo ≤ i ∧ i < w.heap.size) hwl hll hno (fun i hi => .inl hi) (hba.mono (fun i hi => .inr hi))
                clear hi he
                go_simp
                exact k undef _ hc7 (hW.done h8 hc7 (hm7.mono (fun i hi => hi.imp id (fun h => ⟨h.1, Nat.lt_of_lt_of_le h.2 hc7.size⟩)))) trivial
              exact ObsL.nil
            case fin3 =>
              intro L vals w8 hL hW hv
              simp only [putAll, List.setIfInBounds_toArray, List.set_cons_zero, List.set_cons_succ]
              have HF8 := hid (And.intro hW.1 (hW.2.2.2 (hL 9 (by decide))))
              clear hW hv hL hb hno
              go_wp2
              go_ret
              have h1 := HF8.out.1
              have h2 := HC9.out
              obtain ⟨⟨hBg, hgA⟩, ⟨hBm, hmA⟩, _⟩ := HP.out
              have hAw := HAe.out
              have hlw := HLOE.out
              have hs1 := h1.size
              have hs2 := h2.size
              refine ⟨by rw [HF.out]; rfl, (h2.mono (fun _ _ h => h.elim)).trans h1 (fun i _ e => by have : i = mb := e; omega), fun _ => ⟨⟨mb, blk_keep HX9.out.1 h1 hgm, ⟨hBm, by omega⟩, HF8.out.2.mono (fun i hi => ?_)⟩, ⟨hBg, by omega⟩⟩⟩
              rcases hi with hi | hi
              · exact ⟨hi.1, by omega⟩
              · exact ⟨by omega, hi.2⟩
      · have d1 : decide ((k.key.length : Int) < 1) = false := by simp; omega
        have d2 : decide ((32 : Int) < (k.key.length : Int)) = true := by simp; omega
        have HF : Hid (keyErr l k = 21) := hid (by rw [keyErr, if_pos hn, if_neg (by simp [keySize, hs2])])
        clear hn hs1 hs2 hb
        go_wp2
        go_ret
        exact ⟨by rw [HF.out]; rfl, HC.out.mono (fun _ _ h => h.elim), fun h0 => by rw [HF.out] at h0; cases h0⟩
    · have d1 : decide ((k.key.length : Int) < 1) = true := by simp; omega
      have HF : Hid (keyErr l k = 21) := hid (by rw [keyErr, if_pos hn, if_neg (by simp [keySize, hs1])])
      clear hn hs1 hb
      go_wp2
      go_ret
      exact ⟨by rw [HF.out]; rfl, HC.out.mono (fun _ _ h => h.elim), fun h0 => by rw [HF.out] at h0; cases h0⟩
  · have hn : isName k.who = false := by simpa using hn
    rw [hn]
    have HF : Hid (keyErr l k = 30) := hid (by rw [keyErr, if_neg (by rw [hn]; decide)])
    clear hn hb
    go_wp2
    go_ret
    exact ⟨by rw [HF.out]; rfl, HC.out.mono (fun _ _ h => h.elim), fun h0 => by rw [HF.out] at h0; cases h0⟩
end Go.Proofs.YtjflmhncgkbdmaaGreat
