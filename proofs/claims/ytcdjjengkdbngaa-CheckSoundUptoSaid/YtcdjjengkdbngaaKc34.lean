/- Places that a way hasn't are struck from a row. -/
import Derived.Test.YtcdjjengkdbngaaKc32
import Derived.Test.YtcdjjengkdbngaaKc33
import Derived.Sort.OwnSorted
namespace Go.Proofs.Ytcdjjengkdbngaa
open Go.RowKit Go.Maps Go.Sort

def encI (x : Int) : Value := .int .i64 x
theorem intsK_enc (ps : List Nat) : intsK ps = (ps.map (Int.ofNat)).map encI := by simp [intsK, encI]

theorem heap_putI {w : World} {g n : Nat} {cur : Array Value} {e : TypeId} {fr : Nat × Nat} (d : Array Int) (hb : w.heap[g]? = some (.cells cur e fr)) :
    (putRow encI (Sort.ahead w n) g 0 d).heap[g]? = some (.cells (putCells encI 0 d cur) e fr) := by
  simp [putRow, mapBlock, Sort.ahead, Array.getElem?_modify, hb, onCells]
theorem grownBy_putI {w : World} {g n : Nat} (d : Array Int) : w.grownBy (putRow encI (Sort.ahead w n) g 0 d) (some g) := by
  refine ⟨rfl, rfl, rfl, by simp [putRow, mapBlock, Sort.ahead], fun k hk hne => ?_⟩
  have : g ≠ k := fun e => hne (by rw [e])
  simp [putRow, mapBlock, Sort.ahead, Array.getElem?_modify, this]
theorem take_putI (cur : Array Value) (ts : List Int) (h : ts.length ≤ cur.size) : (putCells encI 0 ts.toArray cur).toList.take ts.length = ts.map encI := by
  apply List.ext_getElem?
  intro j
  by_cases hj : j < ts.length
  · rw [List.getElem?_take_of_lt hj, Array.getElem?_toList]
    simp [putCells, hj, show j < cur.size by omega]
  · rw [List.getElem?_take_eq_none (by omega), List.getElem?_eq_none (by simp; omega)]
theorem holds_int {w : World} {g : Nat} {cur : Array Value} {e : TypeId} {ss : List Int} (hb : w.heap[g]? = some (.cells cur e (0, 0))) (ht : cur.toList.take ss.length = ss.map encI) : Holds encI w g 0 ss.toArray := by
  intro j hj
  have hj' : j < ss.length := by simpa using hj
  refine ⟨?_, by simp [World.frozen?, hb]⟩
  have h1 : (cur.toList.take ss.length)[j]? = (ss.map encI)[j]? := by rw [ht]
  rw [List.getElem?_take_of_lt hj'] at h1
  simp only [World.cell?, hb, Nat.zero_add]
  simp only [Option.isSome_none, Bool.false_eq_true, if_false]
  rw [← Array.getElem?_toList, h1]
  simp [hj']

def isOff (qs : List Nat) (x : Int) : Bool := !((qs.map Int.ofNat).contains x)

/-- The function that is handed to DeleteFunc. -/
theorem kw_off {m : Nat} (Bw : Nat) (way : Value) (qs : List Nat) (x : Int) (W : World) (hb : W.cell? ⟨Bw, 0, none⟩ = some way) (hq : OwnI m W way qs) :
    FnGives Try.prog 95 #[.pointer (some ⟨Bw, 0, none⟩)] #[encI x] (.bool (isOff qs x)) W := by
  show Calls Try.prog 95 #[.int .i64 x, .pointer (some ⟨Bw, 0, none⟩)] W _
  have HC : Hid (Calls Try.prog 96 #[way, .int .i64 x] W fun e w' => e = .returned (.bool ((qs.map Int.ofNat).contains x)) ∧ w' = W) := hid (by
    rcases hq.2 with ⟨rfl, h0⟩ | ⟨g, cap, cur, rfl, hg, hh, h1, h2, h3, h4⟩
    · have e : qs = [] := List.eq_nil_of_length_eq_zero h0
      subst e
      exact Try.slices_Contains_int_empty none 0 x W
    · have hcs : ∀ j, j < (qs.map Int.ofNat).length → W.cell? ⟨g, 0 + j, none⟩ = some (.int .i64 ((qs.map Int.ofNat).getD j 0)) := fun j hj => by
        have hj' : j < qs.length := by simpa using hj
        obtain ⟨b, e, h5, _⟩ := hq.cells hj'
        cases e
        rw [Nat.zero_add, h5]
        simp [hj']
      have := Try.slices_Contains_int g 0 qs.length cap (qs.map Int.ofNat) x W (by simp) (by unfold maxLen at h2; omega) hcs
      rw [List.take_of_length_le (by simp)] at this
      exact this)
  clear hq
  have e0 : isOff qs x = !((qs.map Int.ofNat).contains x) := rfl
  rw [e0]
  clear e0
  generalize (qs.map Int.ofNat).contains x = bb at *
  go_enter Try.func95, Try.ntmps95
  go_wp2_with fail
  refine HC.out.mono ?_
  clear HC hb
  rintro e w' ⟨rfl, rfl⟩
  go_wp2
  go_ret
  exact ⟨rfl, 0, rfl⟩

theorem offAt {m : Nat} {w : World} (Bw : Nat) (way : Value) (qs : List Nat) (hb : w.cell? ⟨Bw, 0, none⟩ = some way) (hq : OwnI m w way qs) : PredAt Try.prog 95 #[.pointer (some ⟨Bw, 0, none⟩)] encI (isOff qs) w :=
  fun W x hbel => kw_off (m := m) Bw way qs x W ((hbel.cell (p := ⟨Bw, 0, none⟩) (World.block_lt_of_cell? w ⟨Bw, 0, none⟩ hb)).trans hb) (hq.keep (below_q hbel) (fun _ _ => id))

theorem offOver {m : Nat} {w : World} (Bw blk size : Nat) (way : Value) (qs : List Nat) (hb : w.cell? ⟨Bw, 0, none⟩ = some way) (hq : OwnI m w way qs) (hne : blk ≠ Bw) (hnw : way.ownBlock ≠ some blk) :
    PredOver Try.prog 95 #[.pointer (some ⟨Bw, 0, none⟩)] encI (isOff qs) blk 0 size w := fun n os dk x _ => by
  have hc : Chg (fun i => i = blk) w (sortWorld encI w blk 0 n dk os) := by
    unfold sortWorld
    refine ⟨rfl, rfl, rfl, by simp [grow, putRow, mapBlock, Sort.ahead], fun k hk hkn => ?_⟩
    rw [heap_grow_old _ _ (by simpa [putRow, mapBlock, Sort.ahead] using hk)]
    have : blk ≠ k := fun e => hkn e.symm
    simp [putRow, mapBlock, Sort.ahead, Array.getElem?_modify, this]
  exact kw_off (m := m) Bw way qs x _ (hc.cell hb (fun e => hne e.symm)) (hq.keep hc (fun k hk e => hnw (by rw [hk, e])))

theorem filter_off (ps qs : List Nat) : (ps.map Int.ofNat).filter (fun x => !isOff qs x) = (ps.filter (fun a => qs.contains a)).map Int.ofNat := by
  induction ps with
  | nil => rfl
  | cons a l ih =>
    have e : (!isOff qs (Int.ofNat a)) = qs.contains a := by
      unfold isOff
      rw [Bool.not_not, Bool.eq_iff_iff]
      simp only [List.contains_eq_mem, decide_eq_true_eq, List.mem_map]
      exact ⟨fun ⟨c, hc, h⟩ => by have : c = a := Int.ofNat.inj h; rw [← this]; exact hc, fun h => ⟨a, h, rfl⟩⟩
    rw [List.map_cons, List.filter_cons, List.filter_cons, e, ih]
    split <;> simp

def DelPost (B : Nat) (v : Value) (ps qs : List Nat) (w : World) (e : Ending) (w' : World) : Prop :=
  ∃ v', e = .returned v' ∧ OwnI B w' v' (ps.filter (fun a => qs.contains a)) ∧ v'.ownBlock = v.ownBlock ∧ Chg (fun i => v.ownBlock = some i) w w'

set_option maxRecDepth 100000 in
theorem kw_del {B m : Nat} (Bw : Nat) (v way : Value) (ps qs : List Nat) (w : World) (h : OwnI B w v ps) (hb : w.cell? ⟨Bw, 0, none⟩ = some way) (hq : OwnI m w way qs) (hne : ∀ i, v.ownBlock = some i → i ≠ Bw ∧ way.ownBlock ≠ some i) :
    Calls Try.prog 94 #[v, .func (.func 95) #[] #[.pointer (some ⟨Bw, 0, none⟩)]] w (DelPost B v ps qs w) := by
  have eg : ∀ args w, (callFunc 95 args).run Try.prog w = .ok (.enter 95 args) w := enters_of Try.func95 (by kernel_rfl) rfl
  have hpa := offAt Bw way qs hb hq
  rcases h.2 with ⟨rfl, h0⟩ | ⟨g, cap, cur, rfl, hg, hh, h1, h2, h3, h4⟩
  · have e0 : ps = [] := List.eq_nil_of_length_eq_zero h0
    subst e0
    have hq := Try.slices_IndexFunc_empty (α := Int) none 0 (.func (.func 95) #[] #[.pointer (some ⟨Bw, 0, none⟩)]) w
    have HP : Hid (DelPost B (.slice none 0 0) [] qs w (.returned (.slice none 0 0)) w) := hid ⟨_, rfl, OwnI.nil _ _, rfl, Chg.refl _ _⟩
    have HQ := hid hq
    clear hq hb hne hpa h
    go_enter Try.func94, Try.ntmps94
    go_wp2_with fail
    refine HQ.out.mono ?_
    clear HQ
    rintro e w' ⟨rfl, rfl⟩
    go_wp2
    go_ret
    exact HP.out
  · obtain ⟨hn1, hn2⟩ := hne g rfl
    have hd := Try.slices_DeleteFunc encI (fun _ => rfl) (isOff qs) 95 #[.pointer (some ⟨Bw, 0, none⟩)] eg 0 mZeroAt g 0 cap (ps.map Int.ofNat).toArray w hpa (offOver Bw g _ way qs hb hq hn1 hn2)
      (holds_int (ss := ps.map Int.ofNat) hh (by rw [List.length_map, ← intsK_enc]; simpa using h4)) (by simp; unfold maxLen at h2; omega) (by simpa using h1)
    simp only [List.size_toArray, List.length_map] at hd
    rw [filter_off] at hd
    refine hd.mono ?_
    rintro e w' ⟨rfl, q, rfl⟩
    unfold DelPost
    have hfl : (ps.filter (fun a => qs.contains a)).length ≤ ps.length := List.length_filter_le _ _
    rw [List.length_map]
    generalize ps.filter (fun a => qs.contains a) = fs at hfl ⊢
    refine ⟨_, rfl, ?_, rfl, (Chg.refl _ _).grown (grownBy_putI _) (fun k e _ => by cases e; rfl)⟩
    have h5 := heap_putI (n := q) (List.map Int.ofNat fs ++ List.replicate (ps.length - fs.length) 0).toArray hh
    have h6 := take_putI cur (List.map Int.ofNat fs ++ List.replicate (ps.length - fs.length) 0) (by simp; omega)
    refine ⟨by simp [intsK], .inr ⟨g, cap, _, rfl, hg, h5, by omega, h2, by simp [putCells, h3], ?_⟩⟩
    have h7 := congrArg (List.take fs.length) h6
    rw [List.take_take, Nat.min_eq_left (by simp), ← List.map_take, List.take_left' (by simp), ← intsK_enc] at h7
    rw [Nat.mul_one]
    exact h7
end Go.Proofs.Ytcdjjengkdbngaa
