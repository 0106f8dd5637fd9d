/- Texts that the proof leans on, in one: PbParts, PbJoin. -/
import Derived.Test.YtojbhlbknjnioaaGreatDoorPt15
/- The reader of layer 12: parts. -/
namespace Go.Proofs.YtojbhlbknjnioaaGreatDoor
open Go.RowKit

theorem lexes_fun {s : List UInt8} {a b : List Tok} (h : Lexes s a) (k : Lexes s b) : a = b := by
  induction h generalizing b with
  | fin h =>
    cases k with
    | fin _ => rfl
    | more h2 _ => exact absurd h h2
  | more h t ih =>
    cases k with
    | fin h2 => exact absurd h2 h
    | more _ t2 => rw [ih t2]
theorem rd_fun {R : Nat} {a b : List Tok} {w : World} (h : RdAt R a w) (k : RdAt R b w) : a = b := by
  obtain ⟨t1, l1, h1, _, _, h2⟩ := h
  obtain ⟨t2, l2, k1, _, _, k2⟩ := k
  unfold PRd at h1 k1
  rw [h1] at k1
  simp only [Option.some.injEq, Obj.cells.injEq, and_true] at k1
  have e := congrArg Array.toList k1
  simp only [List.cons.injEq, Value.string.injEq, ByteArray.mk.injEq, and_true] at e
  have e1 : t1 = t2 := by simpa using e.1
  have e2 : l1 = l2 := by simpa using e.2
  subst e1 e2
  rcases h2 with ⟨rfl, rfl, rfl⟩ | ⟨ts, rfl, hn, hx⟩
  · rcases k2 with ⟨_, _, rfl⟩ | ⟨ts2, rfl, hn2, _⟩
    · rfl
    · exact absurd rfl hn2
  · rcases k2 with ⟨rfl, _, rfl⟩ | ⟨ts2, rfl, hn2, hx2⟩
    · exact absurd rfl hn
    · rw [lexes_fun hx hx2]
/-- How many words are left. -/
noncomputable def rdN (R : Nat) (w : World) : Nat := @dite Nat (∃ ts, RdAt R ts w) (Classical.propDecidable _) (fun h => (Classical.choose h).length) (fun _ => 0)
theorem rdN_eq {R : Nat} {ts : List Tok} {w : World} (h : RdAt R ts w) : rdN R w = ts.length := by
  have hx : ∃ ts, RdAt R ts w := ⟨ts, h⟩
  unfold rdN
  rw [dif_pos hx, rd_fun (Classical.choose_spec hx) h]

def FmVal (t : AT) (ao : Option Addr) (q cp : Nat) : Value := .agg #[.int .i64 t.op, .int .i64 t.k, .string ⟨t.r.1.toArray⟩, .string ⟨t.r.2.toArray⟩, .slice ao q cp]
/-- A formula that was read, or a fault. -/
def ReadPost (R : Nat) (o : Option (FmB × List Tok)) (w : World) (e : Ending) (w' : World) : Prop := match o with
  | none => FaultE e ∧ Chg (· = R) w w'
  | some (f, r) => ∃ (t : AT) (ao : Option Addr) (q cp : Nat), eraseA t = f ∧ t.v = .slice ao q cp ∧ e = .returned (FmVal t ao q cp) ∧ OwnA w.heap.size w' t ∧ (blksA t).Nodup ∧ RdAt R r w' ∧ Chg (· = R) w w'
def RowPost (R : Nat) (o : Option (List FmB × List Tok)) (w : World) (e : Ending) (w' : World) : Prop := match o with
  | none => FaultE e ∧ Chg (· = R) w w'
  | some (l, r) => ∃ (ts : List AT) (ao : Option Addr) (n cp : Nat), eraseL ts = l ∧ n = ts.length ∧ e = .returned (.slice ao n cp) ∧ OwnRw w.heap.size w' (.slice ao n cp) ts ∧ RdAt R r w' ∧ Chg (· = R) w w'
theorem RowPost.fault {R : Nat} {o : Option (List FmB × List Tok)} {w w' : World} {e : Ending} (ho : o = none) (he : FaultE e) (hc : Chg (· = R) w w') : RowPost R o w e w' := by subst ho; exact ⟨he, hc⟩
theorem ReadPost.fault {R : Nat} {o : Option (FmB × List Tok)} {w w' : World} {e : Ending} (ho : o = none) (he : FaultE e) (hc : Chg (· = R) w w') : ReadPost R o w e w' := by subst ho; exact ⟨he, hc⟩

theorem cellsV (t : AT) {ao : Option Addr} {q cp : Nat} (h : t.v = .slice ao q cp) : (cellsA t).toArray = #[.int .i64 t.op, .int .i64 t.k, .string ⟨t.r.1.toArray⟩, .string ⟨t.r.2.toArray⟩, .slice ao q cp] := by unfold cellsA; rw [h]

/-- What a part of a text is, and the others behind it. -/
def partsP (pf : List Tok → Option (FmB × List Tok)) (rf : List Tok → Option (List FmB × List Tok)) (ts : List Tok) : Option (List FmB × List Tok) := match pf ts with
  | none => none
  | some (f, r) => (rf r).map fun p => (f :: p.1, p.2)
theorem partsP_none {pf : List Tok → Option (FmB × List Tok)} {rf : List Tok → Option (List FmB × List Tok)} {ts : List Tok} (h : pf ts = none) : partsP pf rf ts = none := by unfold partsP; rw [h]
theorem partsP_some {pf : List Tok → Option (FmB × List Tok)} {rf : List Tok → Option (List FmB × List Tok)} {ts : List Tok} {f : FmB} {r : List Tok} (h : pf ts = some (f, r)) : partsP pf rf ts = (rf r).map fun p => (f :: p.1, p.2) := by unfold partsP; rw [h]

theorem tokH_cons {ts : List Tok} {x : Tok} (hx : x ≠ []) (h : tokH ts = x) : ∃ r, ts = x :: r ∧ hasT x ts = some r := by
  cases ts with
  | nil => exact absurd h.symm hx
  | cons y r =>
    have : y = x := h
    subst this
    exact ⟨r, rfl, by rw [hasT, if_pos rfl]⟩
theorem tokH_no {ts : List Tok} {x : Tok} (h : ¬ tokH ts = x) : hasT x ts = none := by
  cases ts with
  | nil => rfl
  | cons y r => rw [hasT, if_neg (show ¬ y = x from h)]

/-- What a function value reads. -/
def PartC (gf : Nat) (R N : Nat) (pf : List Tok → Option (FmB × List Tok)) : Prop := ∀ (ts : List Tok) (w : World), ts.length ≤ N → RdAt R ts w → VarsAt w → Calls Tryz.prog gf #[.pointer (some ⟨R, 0, none⟩)] w (ReadPost R (pf ts) w)

set_option maxRecDepth 100000 in
set_option maxHeartbeats 4000000 in
theorem pparts (R N gf : Nat) (x : Tok) (hx : x ≠ []) (pf : List Tok → Option (FmB × List Tok)) (rf : List Tok → Option (List FmB × List Tok)) (hrf : ∀ ts, rf ts = moreP x pf rf ts) (hlen : ∀ ts f r, pf ts = some (f, r) → r.length < ts.length) (hN : N ≤ 4096) (hR : OffV (· = R)) (eg : ∀ args w, (callFunc gf args).run Tryz.prog w = .ok (.enter gf args) w) (hp : PartC gf R N pf) (ts : List Tok) (w : World) (hts : ts.length ≤ N) (hrd : RdAt R ts w) (hv : VarsAt w) :
    Calls Tryz.prog 59 #[.pointer (some ⟨R, 0, none⟩), .string ⟨x.toArray⟩, .func (.func gf) #[.pointer (some ⟨R, 0, none⟩)] #[]] w (RowPost R (partsP pf rf ts) w) := by
  have HP1 := hid (hp ts w hts hrd hv)
  have HP := hid hp
  have HRF := hid hrf
  have HLEN := hid hlen
  have HX := hid (And.intro hx (And.intro hR hv))
  have hRl := hrd.lt
  clear hp hrf hlen hx hrd hv hR
  go_enter Tryz.func59, Tryz.ntmps59
  go_wp2_with fail
  refine HP1.out.mono ?_
  rintro e w1 hpost
  cases hq : pf ts with
  | none =>
    rw [hq] at hpost
    obtain ⟨he, hc⟩ := hpost
    have HQ : Hid (RowPost R (partsP pf rf ts) w e w1) := hid (.fault (partsP_none hq) he hc)
    unfold FaultE at he
    subst he
    exact ⟨rfl, HQ.out⟩
  | some p =>
    obtain ⟨f, r⟩ := p
    rw [hq] at hpost
    obtain ⟨t, ao, q, cp, h1, h2, rfl, h3, h4, h5, h6⟩ := hpost
    have hl := HLEN.out _ _ _ hq
    have hone := OwnRw.one (Nat.le_trans h6.size (Nat.le_refl _)) h3 h4
    rw [cellsV t h2] at hone
    have HIN : Hid (OwnRw w.heap.size (w1.alloc (.cells #[.int .i64 t.op, .int .i64 t.k, .string ⟨t.r.1.toArray⟩, .string ⟨t.r.2.toArray⟩, .slice ao q cp] 26)) (.slice (some ⟨w1.heap.size, 0, none⟩) 1 1) [t] ∧ RdAt R r (w1.alloc (.cells #[.int .i64 t.op, .int .i64 t.k, .string ⟨t.r.1.toArray⟩, .string ⟨t.r.2.toArray⟩, .slice ao q cp] 26)) ∧ r.length < ts.length ∧ partsP pf rf ts = (rf r).map (fun p => (eraseL [t] ++ p.1, p.2)) ∧ Chg (· = R) w (w1.alloc (.cells #[.int .i64 t.op, .int .i64 t.k, .string ⟨t.r.1.toArray⟩, .string ⟨t.r.2.toArray⟩, .slice ao q cp] 26))) := hid ⟨hone, h5.keep ((Chg.refl (fun _ => False) w1).alloc _) id, hl, by rw [partsP_some hq, ← h1]; rfl, h6.alloc _⟩
    clear hq h1 h2 h3 h4 h5 h6 hl hone HP1
    unfold FmVal
    go_wp2
    go_loopw [7] (fun v wr => ∃ (us : List AT) (ao : Option Addr) (n cp : Nat) (rest : List Tok), v = .slice ao n cp ∧ Hid (n = us.length ∧ OwnRw w.heap.size wr (.slice ao n cp) us ∧ RdAt R rest wr ∧ us.length + rest.length ≤ N ∧ partsP pf rf ts = (rf rest).map (fun p => (eraseL us ++ p.1, p.2)) ∧ Chg (· = R) w wr)) (fun _ wr => rdN R wr)
    case atStart => exact ⟨[t], _, 1, 1, r, rfl, hid ⟨rfl, HIN.out.1, HIN.out.2.1, by have := HIN.out.2.2.1; simp; omega, HIN.out.2.2.2.1, HIN.out.2.2.2.2⟩⟩
    case round =>
      obtain ⟨us, ao3, n3, cp3, rest, rfl, HREL⟩ := hrel
      have hT := ptakes R rest x wr HREL.out.2.2.1
      by_cases hx : tokH rest = x
      · simp only [if_pos hx, decide_eq_true hx] at hT
        obtain ⟨r2, hr2, hh⟩ := tokH_cons HX.out.1 hx
        have HT := hid hT
        have HH := hid (And.intro hr2 hh)
        clear hT hx hr2 hh
        go_wp2_with fail
        refine HT.out.mono ?_
        rintro e w2 ⟨rfl, hrd2, hc2⟩
        rw [HH.out.1, List.tail_cons] at hrd2
        have hlr : r2.length + 1 = rest.length := by rw [HH.out.1]; rfl
        have hcw2 := HREL.out.2.2.2.2.2.trans hc2 (fun _ _ h => h)
        have hown2 := HREL.out.2.1.keep hc2 (fun k hk _ e => by have : k = R := e; omega)
        have HP2 := hid (HP.out r2 w2 (by have := HREL.out.2.2.2.1; omega) hrd2 (HX.out.2.2.keep hcw2 HX.out.2.1))
        have HC2 := hid (And.intro hcw2 (And.intro hown2 (And.intro hlr (HREL.out.2.2.1))))
        have HO : Hid (us.length + rest.length ≤ N ∧ n3 = us.length ∧ partsP pf rf ts = (rf rest).map (fun p => (eraseL us ++ p.1, p.2))) := hid ⟨HREL.out.2.2.2.1, HREL.out.1, HREL.out.2.2.2.2.1⟩
        clear hrd2 hlr hcw2 hown2 hc2 HT HREL
        go_wp2_with fail
        refine HP2.out.mono ?_
        rintro e w3 hpost
        cases hq : pf r2 with
        | none =>
          rw [hq] at hpost
          obtain ⟨he, hc⟩ := hpost
          have hn : rf rest = none := by rw [HRF.out, moreP, HH.out.2]; simp only [hq]
          have HQ : Hid (RowPost R (partsP pf rf ts) w e w3) := hid (.fault (by rw [HO.out.2.2, hn]; rfl) he (HC2.out.1.trans hc (fun _ _ h => h)))
          unfold FaultE at he
          subst he
          exact ⟨rfl, HQ.out⟩
        | some p =>
          obtain ⟨f2, r3⟩ := p
          rw [hq] at hpost
          obtain ⟨t2, ao, q, cp, h1, h2, rfl, h3, h4, h5, h6⟩ := hpost
          have hl := HLEN.out _ _ _ hq
          have hrf : rf rest = (rf r3).map fun p => (f2 :: p.1, p.2) := by rw [HRF.out, moreP, HH.out.2]; simp only [hq]
          have heq : partsP pf rf ts = (rf r3).map (fun p => (eraseL (us ++ [t2]) ++ p.1, p.2)) := by
            rw [HO.out.2.2, hrf, Option.map_map, eraseL_map (us ++ [t2]), List.map_append, List.map_singleton, h1, ← eraseL_map]
            congr 1
            funext p
            simp
          have hal : Chg (fun _ => False) w3 (w3.alloc (.cells #[.int .i64 t2.op, .int .i64 t2.k, .string ⟨t2.r.1.toArray⟩, .string ⟨t2.r.2.toArray⟩, .slice ao q cp] 26)) := (Chg.refl _ w3).alloc _
          have hbn := heap_alloc_new w3 (.cells #[.int .i64 t2.op, .int .i64 t2.k, .string ⟨t2.r.1.toArray⟩, .string ⟨t2.r.2.toArray⟩, .slice ao q cp] 26)
          have hw2 := HC2.out.2.1
          have hsz6 := h6.size
          have hown4 := (hw2.keep h6 (fun k hk _ e => by have : k = R := e; omega)).keep hal (fun _ _ _ h => h)
          have hsw := HC2.out.1.size
          rw [HO.out.2.1] at hown4 hw2
          obtain ⟨v5, w5, hap0, hrow5, hc5, hv5⟩ := run_append_fmb 24 hown4.row (b := w3.heap.size) (t := t2) (by rw [cellsV t2 h2]; exact hbn) (own_one h3) (by have := HO.out.1; omega) (by have := hal.size; omega)
          have hown5 := hown4.app (B1 := w2.heap.size) ⟨hsw, fun k hk => (hw2.row.lt k hk).2, fun k hk => (ownL_lt hw2.own k hk).2⟩ (ownA_keep hal t2 h3 (fun _ _ => id)) h4 hrow5 hc5 hv5
          have hbl := hown4.row.lt
          have hrd5 := (h5.keep hal id).keep hc5 (fun e => by have := (hbl R e).1; omega)
          have hcw5 : Chg (· = R) w w5 := ((HC2.out.1.trans h6 (fun _ _ h => h)).trans hal (fun _ _ h => h.elim)).trans hc5 (fun i hi e => by have := (hbl i e).1; omega)
          obtain ⟨n5, hn5⟩ : ∃ n5, n5 = (us ++ [t2]).length := ⟨_, rfl⟩
          rw [← hn5] at hrow5
          obtain ⟨ao5, cp5, e5, _⟩ : ∃ ao cp, v5 = .slice ao n5 cp ∧ True := by
            obtain ⟨a, c, e, _⟩ := rowV_shape hown5.row
            exact ⟨a, c, by rw [e, hn5], trivial⟩
          subst e5
          have hap : (Builtin.append_ #[24, 24] 24 #[.slice ao3 n3 cp3, .slice (some ⟨w3.heap.size, 0, none⟩) 1 1]).run Tryz.prog (w3.alloc (.cells #[.int .i64 t2.op, .int .i64 t2.k, .string ⟨t2.r.1.toArray⟩, .string ⟨t2.r.2.toArray⟩, .slice ao q cp] 26)) = .ok (.slice ao5 n5 cp5) w5 := by rw [HO.out.2.1]; exact hap0
          have HEND : Hid (n5 = (us ++ [t2]).length ∧ OwnRw w.heap.size w5 (.slice ao5 n5 cp5) (us ++ [t2]) ∧ RdAt R r3 w5 ∧ (us ++ [t2]).length + r3.length ≤ N ∧ partsP pf rf ts = (rf r3).map (fun p => (eraseL (us ++ [t2]) ++ p.1, p.2)) ∧ Chg (· = R) w w5) := hid ⟨hn5, hown5, hrd5, by have := HO.out.1; have := HC2.out.2.2.1; simp; omega, heq, hcw5⟩
          have HM : Hid (rdN R w5 < rdN R wr) := hid (by rw [rdN_eq hrd5, rdN_eq HC2.out.2.2.2]; have := HC2.out.2.2.1; omega)
          clear hq h1 h2 h3 h4 h5 h6 hl hrf heq hal hbn hw2 hsz6 hown4 hsw hap0 hrow5 hc5 hv5 hown5 hbl hrd5 hcw5 hn5 HP2 HO HC2 HH
          unfold FmVal
          go_wp2_with (at_builtin; refine wpList_append_runb rfl (.tmp 14) (.tmp 17) 24 rfl rfl rfl hap ?_)
          clear hap
          go_wp2
          go_roundw
          case rel => exact ⟨us ++ [t2], _, n5, _, r3, rfl, HEND⟩
          case measure => exact HM.out
      · simp only [if_neg hx, decide_eq_false hx] at hT
        have HT := hid hT
        have HN2 : Hid (rf rest = some ([], rest)) := hid (by rw [HRF.out, moreP, tokH_no hx])
        clear hT hx
        go_wp2_with fail
        refine HT.out.mono ?_
        rintro e w2 ⟨rfl, hrd2, hc2⟩
        have HE := hid (And.intro hrd2 (And.intro hc2 (HREL.out.2.1.keep hc2 (fun k hk _ e => by have : k = R := e; omega))))
        clear hrd2 hc2 HT
        go_wp2
        go_ret
        have h := HREL.out
        have he : partsP pf rf ts = some (eraseL us, rest) := by rw [h.2.2.2.2.1, HN2.out]; simp
        rw [he]
        exact ⟨us, ao3, n3, cp3, rfl, h.1, rfl, HE.out.2.2, HE.out.1, h.2.2.2.2.2.trans HE.out.2.1 (fun _ _ h => h)⟩
end Go.Proofs.YtojbhlbknjnioaaGreatDoor

/- The reader of layer 12: joined, both, any. -/
namespace Go.Proofs.YtojbhlbknjnioaaGreatDoor
open Go.RowKit

theorem OwnRw.cells0 {B : Nat} {w : World} {ao : Option Addr} {n cp : Nat} {t : AT} (h : OwnRw B w (.slice ao n cp) [t]) : ∃ g, ao = some ⟨g, 0, none⟩ ∧ w.cell? ⟨g, 0, none⟩ = some (.int .i64 t.op) ∧ w.cell? ⟨g, 1, none⟩ = some (.int .i64 t.k) ∧ w.cell? ⟨g, 2, none⟩ = some (.string ⟨t.r.1.toArray⟩) ∧ w.cell? ⟨g, 3, none⟩ = some (.string ⟨t.r.2.toArray⟩) ∧ w.cell? ⟨g, 4, none⟩ = some t.v := by
  rcases h.row.2 with ⟨e, h0⟩ | ⟨g, cap, cur, e, hg, hh, k1, k2, k3, k4⟩
  · cases h0
  · injection e with e1 e2 e3
    subst e1
    have hc : ∀ j u, (rowA [t])[j]? = some u → w.cell? ⟨g, 0 + j, none⟩ = some u := fun j u hj => by
      have := h.row.cells (g := g) rfl j u hj
      rwa [add_off] at this
    have hr : rowA [t] = cellsA t := by simp [rowA]
    rw [hr] at hc
    exact ⟨g, rfl, hc 0 _ rfl, hc 1 _ rfl, hc 2 _ rfl, hc 3 _ rfl, hc 4 _ rfl⟩

theorem join_parts (op : Int) (pf : List Tok → Option (FmB × List Tok)) (rf : List Tok → Option (List FmB × List Tok)) (ts : List Tok) : (partsP pf rf ts = none ∧ joinP op pf rf ts = none) ∨ ∃ f l r, partsP pf rf ts = some (f :: l, r) ∧ joinP op pf rf ts = some (fmOf op l f, r) := by
  unfold partsP joinP
  cases pf ts with
  | none => exact .inl ⟨rfl, rfl⟩
  | some p =>
    obtain ⟨f, r⟩ := p
    simp only
    cases rf r with
    | none => exact .inl ⟨rfl, rfl⟩
    | some q => exact .inr ⟨f, q.1, q.2, rfl, rfl⟩

/-- The result lies in the cells Y. -/
theorem ReadPost.mk {R : Nat} {f : FmB} {r : List Tok} {w w' : World} (t : AT) (ao : Option Addr) (q cp : Nat) (h1 : eraseA t = f) (h2 : t.v = .slice ao q cp) (h3 : OwnA w.heap.size w' t) (h4 : (blksA t).Nodup) (h5 : RdAt R r w') (h6 : Chg (· = R) w w') : ReadPost R (some (f, r)) w (.returned (FmVal t ao q cp)) w' := ⟨t, ao, q, cp, h1, h2, rfl, h3, h4, h5, h6⟩

set_option maxRecDepth 100000 in
set_option maxHeartbeats 4000000 in
theorem pjoined (R N gf : Nat) (x : Tok) (op : Int) (hx : x ≠ []) (pf : List Tok → Option (FmB × List Tok)) (rf : List Tok → Option (List FmB × List Tok)) (hrf : ∀ ts, rf ts = moreP x pf rf ts) (hlen : ∀ ts f r, pf ts = some (f, r) → r.length < ts.length) (hN : N ≤ 4096) (hR : OffV (· = R)) (eg : ∀ args w, (callFunc gf args).run Tryz.prog w = .ok (.enter gf args) w) (hp : PartC gf R N pf) (ts : List Tok) (w : World) (hts : ts.length ≤ N) (hrd : RdAt R ts w) (hv : VarsAt w) :
    Calls Tryz.prog 46 #[.pointer (some ⟨R, 0, none⟩), .string ⟨x.toArray⟩, .int .i64 op, .func (.func gf) #[.pointer (some ⟨R, 0, none⟩)] #[]] w (ReadPost R (joinP op pf rf ts) w) := by
  have hRl := hrd.lt
  have hcA : Chg (fun _ => False) w (w.alloc (.cells #[.int .i64 0, .int .i64 0, .string ⟨#[]⟩, .string ⟨#[]⟩, .slice none 0 0] 26)) := (Chg.refl _ w).alloc _
  have hZ := heap_alloc_new w (.cells #[.int .i64 0, .int .i64 0, .string ⟨#[]⟩, .string ⟨#[]⟩, .slice none 0 0] 26)
  have hsz : (w.alloc (.cells #[.int .i64 0, .int .i64 0, .string ⟨#[]⟩, .string ⟨#[]⟩, .slice none 0 0] 26)).heap.size = w.heap.size + 1 := by simp
  have HP := hid (pparts R N gf x hx pf rf hrf hlen hN hR eg hp ts (w.alloc (.cells #[.int .i64 0, .int .i64 0, .string ⟨#[]⟩, .string ⟨#[]⟩, .slice none 0 0] 26)) hts (hrd.keep hcA id) (hv.keep hcA ⟨id, id⟩))
  have HZ := hid (And.intro hZ (And.intro hcA hsz))
  clear hcA hZ hsz hp hrf hlen hrd hv
  go_enter Tryz.func46, Tryz.ntmps46
  go_wp2_with fail
  refine HP.out.mono ?_
  rintro e w1 hpost
  rcases join_parts op pf rf ts with ⟨e1, e2⟩ | ⟨f, l, r, e1, e2⟩
  · rw [e1] at hpost
    obtain ⟨he, hc⟩ := hpost
    have HQ : Hid (ReadPost R (joinP op pf rf ts) w e w1) := hid (.fault e2 he ((HZ.out.2.1.mono (fun _ _ h => h.elim)).trans hc (fun _ _ h => h)))
    unfold FaultE at he
    subst he
    exact ⟨rfl, HQ.out⟩
  · rw [e1] at hpost
    obtain ⟨us, ao, n, cp, h1, h2, rfl, h3, h4, h5⟩ := hpost
    have hZ1 := blk_keep HZ.out.1 h5 (fun e => by have : w.heap.size = R := e; omega)
    have hch := (HZ.out.2.1.mono (T := (· = R)) (fun _ _ h => h.elim)).trans h5 (fun _ _ h => h)
    rw [HZ.out.2.2] at h3
    have HE2 := hid e2
    clear HP HZ e1 e2 h5
    have g0 := froz_blk hZ1 0
    have g1 := froz_blk hZ1 1
    have g2 := froz_blk hZ1 2
    have g3 := froz_blk hZ1 3
    have g4 := froz_blk hZ1 4
    have r0 := cell_blk hZ1 0
    have r1 := cell_blk hZ1 1
    have r2 := cell_blk hZ1 2
    have r3 := cell_blk hZ1 3
    have r4 := cell_blk hZ1 4
    simp only [List.getElem?_toArray, List.getElem?_cons_zero, List.getElem?_cons_succ] at r0 r1 r2 r3 r4
    by_cases hn : n = 1
    · have hz : ((n : Int) == 1) = true := beq_iff_eq.2 (by omega)
      obtain ⟨t, rfl⟩ : ∃ t, us = [t] := by
        cases us with
        | nil => simp at h2; omega
        | cons t us =>
          cases us with
          | nil => exact ⟨t, rfl⟩
          | cons s us => simp at h2; omega
      rw [eraseL_map, List.map_singleton, List.cons.injEq] at h1
      obtain ⟨h1, rfl⟩ := h1
      obtain ⟨g, rfl, c0, c1, c2, c3, c4⟩ := h3.cells0
      have hown := (ownL_all _ _ _).1 h3.own t (by simp)
      obtain ⟨ao2, cp2, hv2, _⟩ := own_fms hown
      obtain ⟨q2, hq2⟩ : ∃ q2, q2 = t.kids.length := ⟨_, rfl⟩
      rw [← hq2] at hv2
      rw [hv2] at c4
      have hnd : (blksA t).Nodup := by
        have := (List.nodup_append.1 h3.nd).2.1
        rw [blksL_flat] at this
        simpa using this
      have HE := hid (And.intro hown (And.intro hnd (And.intro h4 (And.intro hch (And.intro hZ1 (And.intro h1 hv2))))))
      have hlt : (0 : Int) < (n : Int) := by omega
      clear h1 h2 h3 h4 hch hZ1 hown hnd hq2 hv2
      go_wp2
      obtain ⟨hown, hnd, hrd, hch, hZ1, he, hv2⟩ := HE.out
      obtain ⟨hend, hcz⟩ := st5 hZ1 (.int .i64 t.op) (.int .i64 t.k) (.string ⟨t.r.1.toArray⟩) (.string ⟨t.r.2.toArray⟩) (.slice ao2 q2 cp2)
      refine bodyPost_ret (results_cell_row (P := Tryz.prog) rfl _ _ w.heap.size 26 _ (0, 0) _ rfl hend Tryz.underlying26 rfl (by kernel_rfl)) rfl ?_
      rw [HE2.out]
      exact .mk t ao2 q2 cp2 he hv2 (ownA_low (Nat.le_succ _) t (ownA_keep hcz t hown (fun b hb e => by have := (ownA_lt t hown b hb).1; have : b = w.heap.size := e; omega))) hnd (hrd.keep hcz (fun e => by have : R = w.heap.size := e; omega)) (hch.trans hcz (fun i hi e => by have : i = w.heap.size := e; omega))
    · have hz : ((n : Int) == 1) = false := by
        have : ¬ (n : Int) = 1 := by omega
        simpa using this
      obtain ⟨hfm, hnd⟩ := h3.fm op 0
      have he : eraseA (.mk op 0 ([], []) (.slice ao n cp) us) = fmOf op l f := by
        rw [eraseA, h1]
        cases l with
        | nil =>
          exfalso
          have := congrArg List.length h1
          rw [eraseL_len] at this
          simp at this
          omega
        | cons y l => rfl
      have HE := hid (And.intro hfm (And.intro hnd (And.intro h4 (And.intro hch (And.intro hZ1 he)))))
      clear h1 h2 h3 h4 hch hZ1 hfm hnd he hn
      go_wp2
      obtain ⟨hown, hnd, hrd, hch, hZ1, he⟩ := HE.out
      obtain ⟨hend, hcz⟩ := st5 hZ1 (.int .i64 op) (.int .i64 0) (.string ⟨#[]⟩) (.string ⟨#[]⟩) (.slice ao n cp)
      refine bodyPost_ret (results_cell_row (P := Tryz.prog) rfl _ _ w.heap.size 26 _ (0, 0) _ rfl hend Tryz.underlying26 rfl (by kernel_rfl)) rfl ?_
      rw [HE2.out]
      exact .mk (.mk op 0 ([], []) (.slice ao n cp) us) ao n cp he rfl (ownA_low (Nat.le_succ _) _ (ownA_keep hcz _ hown (fun b hb e => by have := (ownA_lt _ hown b hb).1; have : b = w.heap.size := e; omega))) hnd (hrd.keep hcz (fun e => by have : R = w.heap.size := e; omega)) (hch.trans hcz (fun i hi e => by have : i = w.heap.size := e; omega))
set_option maxRecDepth 100000 in
set_option maxHeartbeats 4000000 in
theorem pboth (R N : Nat) (hN : N ≤ 4096) (hR : OffV (· = R)) (hp : PartC 60 R N oneG) : PartC 47 R N bothG := by
  intro ts w hts hrd hv
  have hRl := hrd.lt
  have hcA : Chg (fun _ => False) w (w.alloc (.cells #[.int .i64 0, .int .i64 0, .string ⟨#[]⟩, .string ⟨#[]⟩, .slice none 0 0] 26)) := (Chg.refl _ w).alloc _
  have hZ := heap_alloc_new w (.cells #[.int .i64 0, .int .i64 0, .string ⟨#[]⟩, .string ⟨#[]⟩, .slice none 0 0] 26)
  have hsz : (w.alloc (.cells #[.int .i64 0, .int .i64 0, .string ⟨#[]⟩, .string ⟨#[]⟩, .slice none 0 0] 26)).heap.size = w.heap.size + 1 := by simp
  have HP := hid (pjoined R N 60 andW 2 (by decide) oneG andsG andsG_eq (fun ts f r h => by have := one_len h; have := nodesF_pos f; omega) hN hR (enters (by exact Tryz.func60) (by decide) rfl) hp ts (w.alloc (.cells #[.int .i64 0, .int .i64 0, .string ⟨#[]⟩, .string ⟨#[]⟩, .slice none 0 0] 26)) hts (hrd.keep hcA id) (hv.keep hcA ⟨id, id⟩))
  have HZ := hid (And.intro hZ (And.intro hcA hsz))
  have HEQ := hid (bothG_eq ts)
  clear hcA hZ hsz hp hrd hv
  go_enter Tryz.func47, Tryz.ntmps47
  go_wp2_with fail
  refine HP.out.mono ?_
  rintro e w1 hpost
  cases hq : joinP 2 oneG andsG ts with
  | none =>
    rw [hq] at hpost
    obtain ⟨he, hc⟩ := hpost
    have HQ : Hid (ReadPost R (bothG ts) w e w1) := hid (.fault (by rw [HEQ.out, hq]) he ((HZ.out.2.1.mono (fun _ _ h => h.elim)).trans hc (fun _ _ h => h)))
    unfold FaultE at he
    subst he
    exact ⟨rfl, HQ.out⟩
  | some p =>
    obtain ⟨f, r⟩ := p
    rw [hq] at hpost
    obtain ⟨t, ao, q, cp, h1, h2, rfl, h3, h4, h5, h6⟩ := hpost
    have hZ1 := blk_keep HZ.out.1 h6 (fun e => by have : w.heap.size = R := e; omega)
    have hch := (HZ.out.2.1.mono (T := (· = R)) (fun _ _ h => h.elim)).trans h6 (fun _ _ h => h)
    rw [HZ.out.2.2] at h3
    have HE2 := hid (HEQ.out.trans hq)
    have HE := hid (And.intro h3 (And.intro h4 (And.intro h5 (And.intro hch (And.intro hZ1 (And.intro h1 h2))))))
    have g0 := froz_blk hZ1 0
    have g1 := froz_blk hZ1 1
    have g2 := froz_blk hZ1 2
    have g3 := froz_blk hZ1 3
    have g4 := froz_blk hZ1 4
    have r0 := cell_blk hZ1 0
    have r1 := cell_blk hZ1 1
    have r2 := cell_blk hZ1 2
    have r3 := cell_blk hZ1 3
    have r4 := cell_blk hZ1 4
    simp only [List.getElem?_toArray, List.getElem?_cons_zero, List.getElem?_cons_succ] at r0 r1 r2 r3 r4
    clear HP HZ HEQ hq h1 h2 h3 h4 h5 h6 hch hZ1
    unfold FmVal
    go_wp2
    obtain ⟨hown, hnd, hrd, hch, hZ1, he, hv2⟩ := HE.out
    obtain ⟨hend, hcz⟩ := st5 hZ1 (.int .i64 t.op) (.int .i64 t.k) (.string ⟨t.r.1.toArray⟩) (.string ⟨t.r.2.toArray⟩) (.slice ao q cp)
    refine bodyPost_ret (results_cell_row (P := Tryz.prog) rfl _ _ w.heap.size 26 _ (0, 0) _ rfl hend Tryz.underlying26 rfl (by kernel_rfl)) rfl ?_
    rw [HE2.out]
    exact .mk t ao q cp he hv2 (ownA_low (Nat.le_succ _) t (ownA_keep hcz t hown (fun b hb e => by have := (ownA_lt t hown b hb).1; have : b = w.heap.size := e; omega))) hnd (hrd.keep hcz (fun e => by have : R = w.heap.size := e; omega)) (hch.trans hcz (fun i hi e => by have : i = w.heap.size := e; omega))

set_option maxRecDepth 100000 in
set_option maxHeartbeats 4000000 in
theorem pany (R N : Nat) (hN : N ≤ 4096) (hR : OffV (· = R)) (hp : PartC 47 R N bothG) : PartC 33 R N anyG := by
  intro ts w hts hrd hv
  have hRl := hrd.lt
  have hcA : Chg (fun _ => False) w (w.alloc (.cells #[.int .i64 0, .int .i64 0, .string ⟨#[]⟩, .string ⟨#[]⟩, .slice none 0 0] 26)) := (Chg.refl _ w).alloc _
  have hZ := heap_alloc_new w (.cells #[.int .i64 0, .int .i64 0, .string ⟨#[]⟩, .string ⟨#[]⟩, .slice none 0 0] 26)
  have hsz : (w.alloc (.cells #[.int .i64 0, .int .i64 0, .string ⟨#[]⟩, .string ⟨#[]⟩, .slice none 0 0] 26)).heap.size = w.heap.size + 1 := by simp
  have HP := hid (pjoined R N 47 orW 3 (by decide) bothG orsG orsG_eq (fun ts f r h => by have := both_len h; have := nodesF_pos f; omega) hN hR (enters (by exact Tryz.func47) (by decide) rfl) hp ts (w.alloc (.cells #[.int .i64 0, .int .i64 0, .string ⟨#[]⟩, .string ⟨#[]⟩, .slice none 0 0] 26)) hts (hrd.keep hcA id) (hv.keep hcA ⟨id, id⟩))
  have HZ := hid (And.intro hZ (And.intro hcA hsz))
  have HEQ := hid (anyG_eq ts)
  clear hcA hZ hsz hp hrd hv
  go_enter Tryz.func33, Tryz.ntmps33
  go_wp2_with fail
  refine HP.out.mono ?_
  rintro e w1 hpost
  cases hq : joinP 3 bothG orsG ts with
  | none =>
    rw [hq] at hpost
    obtain ⟨he, hc⟩ := hpost
    have HQ : Hid (ReadPost R (anyG ts) w e w1) := hid (.fault (by rw [HEQ.out, hq]) he ((HZ.out.2.1.mono (fun _ _ h => h.elim)).trans hc (fun _ _ h => h)))
    unfold FaultE at he
    subst he
    exact ⟨rfl, HQ.out⟩
  | some p =>
    obtain ⟨f, r⟩ := p
    rw [hq] at hpost
    obtain ⟨t, ao, q, cp, h1, h2, rfl, h3, h4, h5, h6⟩ := hpost
    have hZ1 := blk_keep HZ.out.1 h6 (fun e => by have : w.heap.size = R := e; omega)
    have hch := (HZ.out.2.1.mono (T := (· = R)) (fun _ _ h => h.elim)).trans h6 (fun _ _ h => h)
    rw [HZ.out.2.2] at h3
    have HE2 := hid (HEQ.out.trans hq)
    have HE := hid (And.intro h3 (And.intro h4 (And.intro h5 (And.intro hch (And.intro hZ1 (And.intro h1 h2))))))
    have g0 := froz_blk hZ1 0
    have g1 := froz_blk hZ1 1
    have g2 := froz_blk hZ1 2
    have g3 := froz_blk hZ1 3
    have g4 := froz_blk hZ1 4
    have r0 := cell_blk hZ1 0
    have r1 := cell_blk hZ1 1
    have r2 := cell_blk hZ1 2
    have r3 := cell_blk hZ1 3
    have r4 := cell_blk hZ1 4
    simp only [List.getElem?_toArray, List.getElem?_cons_zero, List.getElem?_cons_succ] at r0 r1 r2 r3 r4
    clear HP HZ HEQ hq h1 h2 h3 h4 h5 h6 hch hZ1
    unfold FmVal
    go_wp2
    obtain ⟨hown, hnd, hrd, hch, hZ1, he, hv2⟩ := HE.out
    obtain ⟨hend, hcz⟩ := st5 hZ1 (.int .i64 t.op) (.int .i64 t.k) (.string ⟨t.r.1.toArray⟩) (.string ⟨t.r.2.toArray⟩) (.slice ao q cp)
    refine bodyPost_ret (results_cell_row (P := Tryz.prog) rfl _ _ w.heap.size 26 _ (0, 0) _ rfl hend Tryz.underlying26 rfl (by kernel_rfl)) rfl ?_
    rw [HE2.out]
    exact .mk t ao q cp he hv2 (ownA_low (Nat.le_succ _) t (ownA_keep hcz t hown (fun b hb e => by have := (ownA_lt t hown b hb).1; have : b = w.heap.size := e; omega))) hnd (hrd.keep hcz (fun e => by have : R = w.heap.size := e; omega)) (hch.trans hcz (fun i hi e => by have : i = w.heap.size := e; omega))
end Go.Proofs.YtojbhlbknjnioaaGreatDoor
