/- A step is kept. -/
import Derived.Test.YtjaplnainlbldaaSc31
namespace Go.Proofs.Ytjaplnainlbldaa
open Go.RowKit
attribute [local go_sem] Oper.semAt_some

/-- A new row of one place. -/
def SpecR.exIP (P : Nat → Prop) (n : Int) : SpecR (Chg P) :=
  ⟨fun v w => ∃ b, v = .slice (some ⟨b, 0, none⟩) 1 1 ∧ w.heap[b]? = some (.cells #[.int .i64 n] 3 (0, 0)) ∧ ¬ P b, fun _ _ _ hc ⟨b, h1, h2, h3⟩ => ⟨b, h1, blk_keep h2 hc h3, h3⟩⟩

/-- A row of places has grown. -/
def RowP1 (w : World) (u : Value) (ps : List Nat) (v' : Value) (w' : World) : Prop :=
  OwnI 0 w' v' ps ∧ Chg (fun i => u.ownBlock = some i) w w' ∧ (v'.ownBlock = u.ownBlock ∨ ∃ b, v'.ownBlock = some b ∧ w.heap.size ≤ b)
theorem RowP1.quiet {w : World} {u x : Value} {ps : List Nat} {w' w2 : World} (h : RowP1 w u ps x w') (hc : Chg (fun _ => False) w' w2) : RowP1 w u ps x w2 := ⟨h.1.keep hc (fun _ _ => id), h.2.1.trans hc (fun _ _ h => h.elim), h.2.2⟩
/-- It is stored. -/
def TakP (N : Nat → Prop) (T : Nat → Option PTag) (w : World) (g n : Nat) (k : KeptB) (w' : World) : Prop := ∃ T', PS T' w' g n k ∧ ExtP N T T' w w' ∧ Chg (KB T) w w'
theorem TakP.quiet {N : Nat → Prop} {T : Nat → Option PTag} {w : World} {g n : Nat} {k : KeptB} {w' w2 : World} (h : TakP N T w g n k w') (hc : Chg (fun _ => False) w' w2) : TakP N T w g n k w2 := by
  obtain ⟨T', h1, h2, h3⟩ := h
  exact ⟨T', h1.quiet hc, h2.up hc.size, h3.trans hc (fun _ _ h => h.elim)⟩
theorem TakP.trans {T T1 : Nat → Option PTag} {w w1 w2 : World} {g n : Nat} {k1 k2 : KeptB} (_ : PS T1 w1 g n k1) (hx : ExtP (fun _ => False) T T1 w w1) (hc : Chg (KB T) w w1) (h2 : TakP (fun _ => False) T1 w1 g n k2 w2) : TakP (fun _ => False) T w g n k2 w2 := by
  obtain ⟨T2, p1, p2, p3⟩ := h2
  refine ⟨T2, p1, hx.trans p2 hc.size (fun _ h => h.elim), hc.trans p3 (fun i hi h => ?_)⟩
  rcases hx.new i h.some with hh | hh | hh
  · rcases h with h | ⟨p, h⟩
    · exact .inl (by rw [← hx.old i hh]; exact h)
    · exact .inr ⟨p, by rw [← hx.old i hh]; exact h⟩
  · exact hh.elim
  · omega
def BaseP (g X bk n p : Nat) (u : Value) (x : WayB) (w : World) : Prop :=
  w.cell? ⟨g, 1, none⟩ = some (.slice (some ⟨bk, 0, none⟩) n n) ∧ w.heap[X]? = some (.cells #[.int .i64 (x.1 : Nat), .int .i64 (x.2 : Nat)] 175 (0, 0)) ∧ w.cell? ⟨bk, p, none⟩ = some u
theorem BaseP.keep {P : Nat → Prop} {g X bk n p : Nat} {u : Value} {x : WayB} {w w' : World} (h : BaseP g X bk n p u x w) (hc : Chg P w w') (hg : ¬ P g) (hX : ¬ P X) (hb : ¬ P bk) : BaseP g X bk n p u x w' := ⟨hc.cell h.1 hg, blk_keep h.2.1 hc hX, hc.cell h.2.2 hb⟩
theorem BaseP.way {g X bk n p : Nat} {u : Value} {x : WayB} {w : World} (h : BaseP g X bk n p u x w) : w.cell? ⟨X, 0, none⟩ = some (.int .i64 (x.1 : Nat)) ∧ w.cell? ⟨X, 1, none⟩ = some (.int .i64 (x.2 : Nat)) := ⟨cell_blk h.2.1 0, cell_blk h.2.1 1⟩

/-- A taker more at a place: from the look at its row to the store. -/
theorem PParts.taker {T : Nat → Option PTag} {w : World} {g n : Nat} {k : KeptB} {bw bk : Nat} {VW VK : Nat → Value} (h : PParts T w g n k bw bk VW VK) (hlo : ∀ b, T b ≠ none → b < w.heap.size) (hlw : k.W.length = n) (hlk : k.K.length = n) {p i : Nat} (hp : p < n) (hlen : (k.K.getD p []).length ≤ 33554432) :
    (∀ w' b (ty : TypeId), Chg (fun _ => False) w w' → w'.heap[b]? = some (.cells #[.int .i64 (i : Nat)] 3 (0, 0)) → ∃ v' w1, (Builtin.append_ #[156, 156] ty #[VK p, .slice (some ⟨b, 0, none⟩) 1 1]).run Try.prog w' = .ok v' w1 ∧ RowP1 w (VK p) (k.K.getD p [] ++ [i]) v' w1 ∧ Chg (KB T) w' w1) ∧
    (∀ w' v', RowP1 w (VK p) (k.K.getD p [] ++ [i]) v' w' → w'.cell? ⟨bk, p, none⟩ = some (VK p) ∧ w'.frozen? ⟨bk, p, none⟩ = false ∧ TakP (fun _ => False) T w g n ⟨k.W, addAt k.K p i⟩ (w'.setCell ⟨bk, p, none⟩ v') ∧ Chg (KB T) w' (w'.setCell ⟨bk, p, none⟩ v')) := by
  obtain ⟨q1, q2⟩ := h.isK p hp
  have hnb : ∀ b, (VK p).ownBlock = some b → b ≠ bk := fun b hb e => by have := q2 b hb; rw [e, h.t2] at this; cases this
  refine ⟨fun w' b ty hc hb => ?_, fun w' v' hw' => ?_⟩
  · obtain ⟨v', w1, h1, h2, h3, h4⟩ := run_append_int ty (q1.keep hc (fun _ _ => id)) hb hlen (Nat.zero_le _)
    exact ⟨v', w1, h1, ⟨h2, hc.none9.trans h3 (fun _ _ h => h), h4.imp id (fun e => ⟨_, e, hc.size⟩)⟩, h3.mono (fun j _ hj => .inr ⟨p, q2 j hj⟩)⟩
  · obtain ⟨g1, g2, g3⟩ := hw'
    have hr := h.rk_.keep g2 (fun e => hnb _ e rfl)
    obtain ⟨T', ⟨VK', hp'⟩, hx, hc⟩ := h.setK (N := fun _ => False) hlo hlk hp g2 g1 g3
    refine ⟨hr.cell hp, hr.froz p, ⟨T', ⟨⟨bw, bk, VW, VK', hp'⟩, hx.lo, hlw, by rw [addAt_len]; exact hlk⟩, hx, hc⟩, ?_⟩
    exact ((Chg.refl (· = bk) w').setCell (p := ⟨bk, p, none⟩) (fun _ => rfl) _).mono (fun j _ hj => .inl (hj ▸ h.t2))

def kk4 (T : Nat → Option PTag) (g X bk n i : Nat) (u : Value) (x : WayB) : List (SpecR (Chg (KB T))) := [.eq (.pointer (some ⟨g, 0, none⟩)), .eq (.int .i64 (i : Nat)), .any, .any, .any, .any, .any, .eq (.pointer (some ⟨X, 0, none⟩)), .any, .any, .any, .any, .any, .any, .any, .any, .any, .any, .any, .any, .any, .eq (.pointer (some ⟨g, 0, none⟩)), .eq (.pointer (some ⟨g, 0, none⟩)), .eq (.pointer (some ⟨g, 1, none⟩)), .eq (.slice (some ⟨bk, 0, none⟩) n n), .eq (.pointer (some ⟨X, 0, none⟩)), .eq (.int .i64 (x.1 : Nat)), .eq (.pointer (some ⟨g, 0, none⟩)), .eq (.pointer (some ⟨g, 0, none⟩)), .eq (.pointer (some ⟨g, 1, none⟩)), .eq (.slice (some ⟨bk, 0, none⟩) n n), .eq (.pointer (some ⟨X, 0, none⟩)), .eq (.int .i64 (x.1 : Nat)), .eq (.pointer (some ⟨bk, x.1, none⟩)), .eq (u), .eq (.int .i64 (i : Nat)), .exIP (KB T) (i : Nat), .any, .eq (.pointer (some ⟨bk, x.1, none⟩)), .any, .any, .any, .any, .any, .any, .any, .any, .any, .any, .any, .any, .any, .any, .any, .any, .any, .any, .any]
def kk5 (T : Nat → Option PTag) (g X bk n i : Nat) (u : Value) (x : WayB) : List (SpecR (Chg (KB T))) := [.eq (.pointer (some ⟨g, 0, none⟩)), .eq (.int .i64 (i : Nat)), .any, .any, .any, .any, .any, .eq (.pointer (some ⟨X, 0, none⟩)), .any, .any, .any, .any, .any, .any, .any, .any, .any, .any, .any, .any, .any, .any, .any, .any, .any, .any, .any, .any, .any, .any, .any, .any, .any, .any, .any, .any, .any, .any, .any, .eq (.pointer (some ⟨g, 0, none⟩)), .eq (.pointer (some ⟨g, 0, none⟩)), .eq (.pointer (some ⟨g, 1, none⟩)), .eq (.slice (some ⟨bk, 0, none⟩) n n), .eq (.pointer (some ⟨X, 1, none⟩)), .eq (.int .i64 (x.2 : Nat)), .eq (.pointer (some ⟨g, 0, none⟩)), .eq (.pointer (some ⟨g, 0, none⟩)), .eq (.pointer (some ⟨g, 1, none⟩)), .eq (.slice (some ⟨bk, 0, none⟩) n n), .eq (.pointer (some ⟨X, 1, none⟩)), .eq (.int .i64 (x.2 : Nat)), .eq (.pointer (some ⟨bk, x.2, none⟩)), .eq (u), .eq (.int .i64 (i : Nat)), .exIP (KB T) (i : Nat), .any, .eq (.pointer (some ⟨bk, x.2, none⟩)), .any]

theorem takers_bound (i : Nat) : ∀ (ws : List WayB) (K : List (List Nat)) (p m : Nat), (K.getD p []).length + 2 * ws.length ≤ m → ((ws.foldl (takerW i) K).getD p []).length ≤ m
  | [], K, p, m, h => by simpa using h
  | x :: ws, K, p, m, h => by
    rw [List.foldl_cons]
    refine takers_bound i ws _ p m ?_
    have h1 : ∀ (K : List (List Nat)) j, ((addAt K j i).getD p []).length ≤ (K.getD p []).length + 1 := fun K j => by
      unfold addAt
      rw [List.getD_eq_getElem?_getD, List.getElem?_set]
      by_cases e : j = p
      · subst e
        rw [if_pos rfl]
        split
        · simp
        · simp
      · rw [if_neg e, ← List.getD_eq_getElem?_getD]
        omega
    have h2 := h1 K x.1
    have h3 := h1 (addAt K x.1 i) x.2
    unfold takerW
    simp only [List.length_cons] at h
    omega

def KeepPost (T : Nat → Option PTag) (g n : Nat) (k : KeptB) (i : Nat) (v : Value) (ws : List WayB) (w : World) (e : Ending) (w' : World) : Prop :=
  e = .returned (.tuple #[]) ∧ ∃ T', Kep (fun b => v.ownBlock = some b) T w g n T' w' (keepK k i ws)

set_option maxRecDepth 100000 in
set_option maxHeartbeats 4000000 in
theorem ch_keep {T0 : Nat → Option PTag} (g n : Nat) (kp : KeptB) (i : Nat) (v : Value) (ws : List WayB) (w0 : World) (h : PS T0 w0 g n kp) (hi : i < n) (hn : n ≤ 33554432) (hv : OwnWy 0 w0 v ws) (hvb : ∀ b, v.ownBlock = some b → T0 b = none) (hws : ∀ x ∈ ws, x.1 < n ∧ x.2 < n) (hwl : ws.length ≤ 33554432) (hk : ∀ p, (kp.K.getD p []).length + 2 * ws.length ≤ 33554430) :
    Calls Try.prog 80 #[.pointer (some ⟨g, 0, none⟩), .int .i64 (i : Nat), v] w0 (KeepPost T0 g n kp i v ws w0) := by
  obtain ⟨⟨bw0, bk0, VW0, VK0, hp0⟩, hlo0, hlw0, hlk0⟩ := h
  obtain ⟨T1, ⟨VW1, hVW, hp1⟩, hx1, hc1⟩ := hp0.setW (N := fun b => v.ownBlock = some b) hlo0 hlw0 hi (Chg.refl _ w0) hv (by
    cases e : v.ownBlock with
    | none => exact .inr (.inl rfl)
    | some b => exact .inr (.inr ⟨b, rfl, hvb b e, .inl rfl⟩))
  have hps1 : PS T1 (w0.setCell ⟨bw0, i, none⟩ v) g n ⟨kp.W.set i ws, kp.K⟩ := ⟨⟨bw0, bk0, VW1, VK0, hp1⟩, hx1.lo, by rw [List.length_set]; exact hlw0, hlk0⟩
  have cs : Chg (· = bw0) w0 (w0.setCell ⟨bw0, i, none⟩ v) := (Chg.refl (· = bw0) w0).setCell (p := ⟨bw0, i, none⟩) (fun _ => rfl) _
  have hv1 : OwnWy 0 (w0.setCell ⟨bw0, i, none⟩ v) v ws := hv.keep cs (fun b hb e => by have := hvb b hb; rw [e, hp0.t1] at this; cases this)
  have hvT1 : ∀ b, v.ownBlock = some b → ¬ KB T1 b := fun b hb h => by
    have h1 := (hp1.isW i hi).2 b (by rw [hVW]; exact hb)
    rcases h with h | ⟨p, h⟩ <;> rw [h1] at h <;> cases h
  have z1 := cell_blk hp0.blk 0
  have z2 := hp0.rw_.cell hi
  have z3 := hp0.rw_.froz i
  simp only [List.getElem?_toArray, List.getElem?_cons_zero] at z1
  obtain ⟨ao, cap, hvs, hst⟩ := hv1.ways
  have HFIN : Hid (∀ wr, TakP (fun _ => False) T1 (w0.setCell ⟨bw0, i, none⟩ v) g n ⟨kp.W.set i ws, ws.foldl (takerW i) kp.K⟩ wr → KeepPost T0 g n kp i v ws w0 (.returned (.tuple #[])) wr) := hid (fun wr ht => by
    obtain ⟨T', p1, p2, p3⟩ := ht
    refine ⟨rfl, T', p1, hx1.trans p2 hc1.size (fun _ h => h.elim), hc1.trans p3 (fun b hb h => ?_)⟩
    rcases hx1.new b h.some with hh | hh | hh
    · exact hh
    · exact absurd h (hvT1 b hh)
    · omega)
  obtain ⟨m, hm⟩ : ∃ m, m = ws.length := ⟨_, rfl⟩
  have HM := hid hm
  have HST := hid (And.intro hst hvT1)
  rw [← hm] at hvs hwl
  have HWS := hid (And.intro hws hk)
  have HPS := hid hps1
  have HN33 := hid hn
  clear hp0 hlo0 hlw0 hlk0 hp1 hx1 hc1 hps1 cs hv hvb hws hk hm hst hvT1 hVW hv1
  subst hvs
  have hi2 := hi
  go_enter Try.func80, Try.ntmps80
  go_wp2
  obtain ⟨w1, hw1⟩ : ∃ w1, w1 = w0.setCell ⟨bw0, i, none⟩ (.slice ao m cap) := ⟨_, rfl⟩
  simp only [← hw1] at *
  clear z1 z2 z3 hw1
  go_loopw [17] (fun ii wr => ∃ j : Nat, j ≤ m ∧ ii = .int .i64 j ∧ Hid (TakP (fun _ => False) T1 w1 g n ⟨kp.W.set i ws, (ws.take j).foldl (takerW i) kp.K⟩ wr)) (fun ii _ => m - (intOf ii).toNat)
  case atStart => exact ⟨0, Nat.zero_le _, rfl, hid ⟨T1, HPS.out, ExtP.refl HPS.out.lo (Nat.le_refl _), Chg.refl _ _⟩⟩
  case round =>
    obtain ⟨jj, hjj, rfl, hrel⟩ := hrel
    by_cases hltm : jj < m
    · obtain ⟨T, hps, hxx, hcc⟩ := hrel.out
      have hjw : jj < ws.length := by have := HM.out; omega
      obtain ⟨b, off, hao, hDb, a0, a1⟩ := (HST.out.1.keep hcc (fun b hb => HST.out.2 b hb)) jj hjw
      have HLT : Hid ((ws[jj]).1 < n ∧ (ws[jj]).2 < n) := hid (HWS.out.1 _ (List.getElem_mem hjw))
      have htk : ws.take (jj + 1) = ws.take jj ++ [ws[jj]] := List.take_succ_eq_append_getElem hjw
      obtain ⟨x, hx⟩ : ∃ x, x = ws[jj] := ⟨_, rfl⟩
      simp only [← hx] at a0 a1 HLT htk
      have hlenT : ((ws.take jj).length : Nat) ≤ ws.length := by rw [List.length_take]; omega
      have HLEN0 : Hid (((⟨kp.W.set i ws, (ws.take jj).foldl (takerW i) kp.K⟩ : KeptB).K.getD x.1 []).length ≤ 33554432) := hid (by
        have := takers_bound i (ws.take jj) kp.K x.1 33554430 (by have := HWS.out.2 x.1; omega)
        show (((ws.take jj).foldl (takerW i) kp.K).getD x.1 []).length ≤ _
        omega)
      have HLEN1 : Hid (((⟨kp.W.set i ws, addAt ((ws.take jj).foldl (takerW i) kp.K) x.1 i⟩ : KeptB).K.getD x.2 []).length ≤ 33554432) := hid (by
        have h0 := takers_bound i (ws.take jj) kp.K x.2 33554430 (by have := HWS.out.2 x.2; omega)
        have h1 : ∀ (K : List (List Nat)), ((addAt K x.1 i).getD x.2 []).length ≤ (K.getD x.2 []).length + 1 := fun K => by
          unfold addAt
          rw [List.getD_eq_getElem?_getD, List.getElem?_set]
          by_cases e : x.1 = x.2
          · rw [if_pos e]
            split
            · rw [e]; simp
            · simp
          · rw [if_neg e, ← List.getD_eq_getElem?_getD]; omega
        have := h1 ((ws.take jj).foldl (takerW i) kp.K)
        show ((addAt ((ws.take jj).foldl (takerW i) kp.K) x.1 i).getD x.2 []).length ≤ _
        omega)
      have hwa : Chg (fun _ => False) wr (wr.alloc (.cells #[.int .i64 (x.1 : Nat), .int .i64 (x.2 : Nat)] 175)) := (Chg.refl _ wr).alloc _
      have hbx : (wr.alloc (.cells #[.int .i64 (x.1 : Nat), .int .i64 (x.2 : Nat)] 175)).heap[wr.heap.size]? = some (.cells #[.int .i64 (x.1 : Nat), .int .i64 (x.2 : Nat)] 175 (0, 0)) := heap_alloc_new wr _
      have htX : T wr.heap.size = none := by
        cases e : T wr.heap.size with
        | none => rfl
        | some y => have := hps.lo _ (by rw [e]; simp); omega
      have HNEXT : Hid (∀ T2 w2 w9, PS T2 w2 g n ⟨kp.W.set i ws, addAt ((ws.take jj).foldl (takerW i) kp.K) x.1 i⟩ → ExtP (fun _ => False) T T2 (wr.alloc (.cells #[.int .i64 (x.1 : Nat), .int .i64 (x.2 : Nat)] 175)) w2 → Chg (KB T) (wr.alloc (.cells #[.int .i64 (x.1 : Nat), .int .i64 (x.2 : Nat)] 175)) w2 → TakP (fun _ => False) T2 w2 g n ⟨(⟨kp.W.set i ws, addAt ((ws.take jj).foldl (takerW i) kp.K) x.1 i⟩ : KeptB).W, addAt (⟨kp.W.set i ws, addAt ((ws.take jj).foldl (takerW i) kp.K) x.1 i⟩ : KeptB).K x.2 i⟩ w9 → Hid (TakP (fun _ => False) T1 w1 g n ⟨kp.W.set i ws, (ws.take (jj + 1)).foldl (takerW i) kp.K⟩ w9)) := hid (fun T2 w2 w9 h1 h2 h3 h4 => hid (by
        have e : (ws.take (jj + 1)).foldl (takerW i) kp.K = addAt (addAt ((ws.take jj).foldl (takerW i) kp.K) x.1 i) x.2 i := by rw [htk, List.foldl_append]; rfl
        rw [e]
        exact TakP.trans hps hxx hcc (TakP.trans (hps.quiet hwa) (ExtP.refl hps.lo hwa.size) (hwa.mono (fun _ _ h => h.elim)) (TakP.trans h1 h2 h3 h4))))
      have hpa := hps.quiet hwa
      have HXLT : Hid (wr.heap.size < (wr.alloc (.cells #[.int .i64 (x.1 : Nat), .int .i64 (x.2 : Nat)] 175)).heap.size) := hid (lt_blk hbx)
      have x0 := cell_blk hbx 0
      have x1 := cell_blk hbx 1
      simp only [List.getElem?_toArray, List.getElem?_cons_zero, List.getElem?_cons_succ] at x0 x1
      subst hao
      clear hps hxx hcc hjw hDb htk hx hlenT hwa hrel
      go_wp2_with fail
      generalize (wr.alloc (.cells #[.int .i64 (x.1 : Nat), .int .i64 (x.2 : Nat)] 175)) = w2 at *
      generalize hX : wr.heap.size = X at *
      have HTX0 := hid htX
      clear a0 a1 x0 x1 htX hX
      have HBX := hid hbx
      obtain ⟨⟨bw, bk, VW, VK, hp⟩, hlo, hlw, hlk⟩ := hpa
      have hlt := HLT.out
      have htk := hp.taker (i := i) hlo hlw hlk hlt.1 (HLEN0.out)
      have hgn : ∀ b, (VK x.1).ownBlock = some b → b ≠ g := fun b hb e => by have := (hp.isK x.1 hlt.1).2 b hb; rw [e, hp.tg] at this; cases this
      have hbn : ∀ b, (VK x.1).ownBlock = some b → b ≠ bk := fun b hb e => by have := (hp.isK x.1 hlt.1).2 b hb; rw [e, hp.t2] at this; cases this
      have hXn : ∀ b, (VK x.1).ownBlock = some b → b ≠ X := fun b hb e => by have := (hp.isK x.1 hlt.1).2 b hb; rw [e, HTX0.out] at this; cases this
      have HB := hid (show BaseP g X bk n x.1 (VK x.1) x w2 from ⟨cell_blk hp.blk 1, hbx, hp.rk_.cell hlt.1⟩)
      have HN : Hid (¬ (VK x.1).ownBlock = some g ∧ ¬ (VK x.1).ownBlock = some X ∧ ¬ (VK x.1).ownBlock = some bk) := hid ⟨fun e => hgn _ e rfl, fun e => hXn _ e rfl, fun e => hbn _ e rfl⟩
      have HLO := hid hlo
      obtain ⟨e1, e2⟩ := htk
      have HE1 := hid e1
      have HE2 := hid e2
      generalize VK x.1 = u at *
      clear hp hlo hlw hlk hgn hbn hXn e1 e2 hbx hlt
      have HNXT0 := HNEXT
      clear HNEXT
      refine wp_region_stateAD (Chg (KB T)) (Duo 16 18 37 (fun w => Chg (fun _ => False) w2 w) (RowP1 w2 u (((⟨kp.W.set i ws, (ws.take jj).foldl (takerW i) kp.K⟩ : KeptB)).K.getD x.1 [] ++ [i])) (TakP (fun _ => False) T w2 g n ⟨((⟨kp.W.set i ws, (ws.take jj).foldl (takerW i) kp.K⟩ : KeptB)).W, addAt ((⟨kp.W.set i ws, (ws.take jj).foldl (takerW i) kp.K⟩ : KeptB)).K x.1 i⟩)) (specAtR (kk4 T g X bk n i u x)) [21, 22, 23, 24, 25, 26, 27, 28, 29, 30, 31, 32, 33, 34, 35, 36, 37, 38] [0, 1, 7] (by kernel_rfl) (by kernel_rfl) (Duo.start (show (37 : Nat) < 58 by decide) ((Chg.refl _ _).drew)) (fun t v w w' hc h => specAtR_st _ t v w w' hc h) (by rfl) (by kernel_rfl) ?start4 ?obs4 ?fin4
      case start4 =>
        simp only [List.forall_mem_cons]; exact ⟨⟨_, rfl, rfl⟩, ⟨_, rfl, rfl⟩, ⟨_, rfl, rfl⟩, fun _ h => by cases h⟩
      case obs4 =>
        clear HNXT0
        refine ObsAD.cons none (by kernel_rfl) ?_ ?_
        · refine ObAD.plain fun L a w hi he hD hW hk K k => ?_
          obtain ⟨_, e0, rfl⟩ := hk 0 (by decide)
          clear hk
          have hS := hid (fun (v : Value) (w2 : World) (hc : Chg (fun _ => False) w w2) => hW.step (j := 0) (d := (some 21)) v (by decide) hc (fun _ _ h c => h.trans c (fun _ _ h => h)) (fun _ _ _ h c => h.quiet c) (fun _ _ h c => h.quiet c))
          clear hi he hW hD
          go_simp
          exact k _ _ (Chg.refl _ _) (hS.out _ _ (Chg.refl _ _)) rfl
        refine ObsAD.cons none (by kernel_rfl) ?_ ?_
        · refine ObAD.plain fun L a w hi he hD hW hk K k => ?_
          obtain ⟨_, e21, rfl⟩ := hk 21 (by decide)
          clear hk
          have hS := hid (fun (v : Value) (w2 : World) (hc : Chg (fun _ => False) w w2) => hW.step (j := 1) (d := (some 22)) v (by decide) hc (fun _ _ h c => h.trans c (fun _ _ h => h)) (fun _ _ _ h c => h.quiet c) (fun _ _ h c => h.quiet c))
          clear hi he hW hD
          go_simp
          exact k _ _ (Chg.refl _ _) (hS.out _ _ (Chg.refl _ _)) rfl
        refine ObsAD.cons none (by kernel_rfl) ?_ ?_
        · refine ObAD.plain fun L a w hi he hD hW hk K k => ?_
          obtain ⟨_, e22, rfl⟩ := hk 22 (by decide)
          clear hk
          have hS := hid (fun (v : Value) (w2 : World) (hc : Chg (fun _ => False) w w2) => hW.step (j := 2) (d := (some 23)) v (by decide) hc (fun _ _ h c => h.trans c (fun _ _ h => h)) (fun _ _ _ h c => h.quiet c) (fun _ _ h c => h.quiet c))
          clear hi he hW hD
          go_simp
          exact k _ _ (Chg.refl _ _) (hS.out _ _ (Chg.refl _ _)) rfl
        refine ObsAD.cons none (by kernel_rfl) ?_ ?_
        · refine ObAD.plain fun L a w hi he hD hW hk K k => ?_
          obtain ⟨_, e23, rfl⟩ := hk 23 (by decide)
          clear hk
          have hB := hW.early (by decide) hi (B := BaseP g X bk n x.1 u x) (fun w h => HB.out.keep h id id id) (fun y w h => HB.out.keep h.2.1 HN.out.1 HN.out.2.1 HN.out.2.2)
          have zz := hB.1
          have hS := hid (fun (v : Value) (w2 : World) (hc : Chg (fun _ => False) w w2) => hW.step (j := 3) (d := (some 24)) v (by decide) hc (fun _ _ h c => h.trans c (fun _ _ h => h)) (fun _ _ _ h c => h.quiet c) (fun _ _ h c => h.quiet c))
          clear hi he hW hD
          go_simp
          exact k _ _ (Chg.refl _ _) (hS.out _ _ (Chg.refl _ _)) rfl
        refine ObsAD.cons none (by kernel_rfl) ?_ ?_
        · refine ObAD.plain fun L a w hi he hD hW hk K k => ?_
          obtain ⟨_, e7, rfl⟩ := hk 7 (by decide)
          clear hk
          have hS := hid (fun (v : Value) (w2 : World) (hc : Chg (fun _ => False) w w2) => hW.step (j := 4) (d := (some 25)) v (by decide) hc (fun _ _ h c => h.trans c (fun _ _ h => h)) (fun _ _ _ h c => h.quiet c) (fun _ _ h c => h.quiet c))
          clear hi he hW hD
          go_simp
          exact k _ _ (Chg.refl _ _) (hS.out _ _ (Chg.refl _ _)) rfl
        refine ObsAD.cons none (by kernel_rfl) ?_ ?_
        · refine ObAD.plain fun L a w hi he hD hW hk K k => ?_
          obtain ⟨_, e25, rfl⟩ := hk 25 (by decide)
          clear hk
          have hB := hW.early (by decide) hi (B := BaseP g X bk n x.1 u x) (fun w h => HB.out.keep h id id id) (fun y w h => HB.out.keep h.2.1 HN.out.1 HN.out.2.1 HN.out.2.2)
          obtain ⟨z0, z1⟩ := hB.way
          have hS := hid (fun (v : Value) (w2 : World) (hc : Chg (fun _ => False) w w2) => hW.step (j := 5) (d := (some 26)) v (by decide) hc (fun _ _ h c => h.trans c (fun _ _ h => h)) (fun _ _ _ h c => h.quiet c) (fun _ _ h c => h.quiet c))
          clear hi he hW hD
          go_simp
          exact k _ _ (Chg.refl _ _) (hS.out _ _ (Chg.refl _ _)) rfl
        refine ObsAD.cons none (by kernel_rfl) ?_ ?_
        · refine ObAD.plain fun L a w hi he hD hW hk K k => ?_
          obtain ⟨_, e0, rfl⟩ := hk 0 (by decide)
          clear hk
          have hS := hid (fun (v : Value) (w2 : World) (hc : Chg (fun _ => False) w w2) => hW.step (j := 6) (d := (some 27)) v (by decide) hc (fun _ _ h c => h.trans c (fun _ _ h => h)) (fun _ _ _ h c => h.quiet c) (fun _ _ h c => h.quiet c))
          clear hi he hW hD
          go_simp
          exact k _ _ (Chg.refl _ _) (hS.out _ _ (Chg.refl _ _)) rfl
        refine ObsAD.cons none (by kernel_rfl) ?_ ?_
        · refine ObAD.plain fun L a w hi he hD hW hk K k => ?_
          obtain ⟨_, e27, rfl⟩ := hk 27 (by decide)
          clear hk
          have hS := hid (fun (v : Value) (w2 : World) (hc : Chg (fun _ => False) w w2) => hW.step (j := 7) (d := (some 28)) v (by decide) hc (fun _ _ h c => h.trans c (fun _ _ h => h)) (fun _ _ _ h c => h.quiet c) (fun _ _ h c => h.quiet c))
          clear hi he hW hD
          go_simp
          exact k _ _ (Chg.refl _ _) (hS.out _ _ (Chg.refl _ _)) rfl
        refine ObsAD.cons none (by kernel_rfl) ?_ ?_
        · refine ObAD.plain fun L a w hi he hD hW hk K k => ?_
          obtain ⟨_, e28, rfl⟩ := hk 28 (by decide)
          clear hk
          have hS := hid (fun (v : Value) (w2 : World) (hc : Chg (fun _ => False) w w2) => hW.step (j := 8) (d := (some 29)) v (by decide) hc (fun _ _ h c => h.trans c (fun _ _ h => h)) (fun _ _ _ h c => h.quiet c) (fun _ _ h c => h.quiet c))
          clear hi he hW hD
          go_simp
          exact k _ _ (Chg.refl _ _) (hS.out _ _ (Chg.refl _ _)) rfl
        refine ObsAD.cons none (by kernel_rfl) ?_ ?_
        · refine ObAD.plain fun L a w hi he hD hW hk K k => ?_
          obtain ⟨_, e29, rfl⟩ := hk 29 (by decide)
          clear hk
          have hB := hW.early (by decide) hi (B := BaseP g X bk n x.1 u x) (fun w h => HB.out.keep h id id id) (fun y w h => HB.out.keep h.2.1 HN.out.1 HN.out.2.1 HN.out.2.2)
          have zz := hB.1
          have hS := hid (fun (v : Value) (w2 : World) (hc : Chg (fun _ => False) w w2) => hW.step (j := 9) (d := (some 30)) v (by decide) hc (fun _ _ h c => h.trans c (fun _ _ h => h)) (fun _ _ _ h c => h.quiet c) (fun _ _ h c => h.quiet c))
          clear hi he hW hD
          go_simp
          exact k _ _ (Chg.refl _ _) (hS.out _ _ (Chg.refl _ _)) rfl
        refine ObsAD.cons none (by kernel_rfl) ?_ ?_
        · refine ObAD.plain fun L a w hi he hD hW hk K k => ?_
          obtain ⟨_, e7, rfl⟩ := hk 7 (by decide)
          clear hk
          have hS := hid (fun (v : Value) (w2 : World) (hc : Chg (fun _ => False) w w2) => hW.step (j := 10) (d := (some 31)) v (by decide) hc (fun _ _ h c => h.trans c (fun _ _ h => h)) (fun _ _ _ h c => h.quiet c) (fun _ _ h c => h.quiet c))
          clear hi he hW hD
          go_simp
          exact k _ _ (Chg.refl _ _) (hS.out _ _ (Chg.refl _ _)) rfl
        refine ObsAD.cons none (by kernel_rfl) ?_ ?_
        · refine ObAD.plain fun L a w hi he hD hW hk K k => ?_
          obtain ⟨_, e31, rfl⟩ := hk 31 (by decide)
          clear hk
          have hB := hW.early (by decide) hi (B := BaseP g X bk n x.1 u x) (fun w h => HB.out.keep h id id id) (fun y w h => HB.out.keep h.2.1 HN.out.1 HN.out.2.1 HN.out.2.2)
          obtain ⟨z0, z1⟩ := hB.way
          have hS := hid (fun (v : Value) (w2 : World) (hc : Chg (fun _ => False) w w2) => hW.step (j := 11) (d := (some 32)) v (by decide) hc (fun _ _ h c => h.trans c (fun _ _ h => h)) (fun _ _ _ h c => h.quiet c) (fun _ _ h c => h.quiet c))
          clear hi he hW hD
          go_simp
          exact k _ _ (Chg.refl _ _) (hS.out _ _ (Chg.refl _ _)) rfl
        refine ObsAD.cons none (by kernel_rfl) ?_ ?_
        · refine ObAD.plain fun L a w hi he hD hW hk K k => ?_
          obtain ⟨_, e30, rfl⟩ := hk 30 (by decide)
          obtain ⟨_, e32, rfl⟩ := hk 32 (by decide)
          clear hk
          have hlt := HLT.out.1
          have hS := hid (fun (v : Value) (w2 : World) (hc : Chg (fun _ => False) w w2) => hW.step (j := 12) (d := (some 33)) v (by decide) hc (fun _ _ h c => h.trans c (fun _ _ h => h)) (fun _ _ _ h c => h.quiet c) (fun _ _ h c => h.quiet c))
          clear hi he hW hD
          go_simp
          exact k _ _ (Chg.refl _ _) (hS.out _ _ (Chg.refl _ _)) rfl
        refine ObsAD.cons none (by kernel_rfl) ?_ ?_
        · refine ObAD.plain fun L a w hi he hD hW hk K k => ?_
          obtain ⟨_, e33, rfl⟩ := hk 33 (by decide)
          clear hk
          have hB := hW.early (by decide) hi (B := BaseP g X bk n x.1 u x) (fun w h => HB.out.keep h id id id) (fun y w h => HB.out.keep h.2.1 HN.out.1 HN.out.2.1 HN.out.2.2)
          have zz := hB.2.2
          have hS := hid (fun (v : Value) (w2 : World) (hc : Chg (fun _ => False) w w2) => hW.step (j := 13) (d := (some 34)) v (by decide) hc (fun _ _ h c => h.trans c (fun _ _ h => h)) (fun _ _ _ h c => h.quiet c) (fun _ _ h c => h.quiet c))
          clear hi he hW hD
          go_simp
          exact k _ _ (Chg.refl _ _) (hS.out _ _ (Chg.refl _ _)) rfl
        refine ObsAD.cons none (by kernel_rfl) ?_ ?_
        · refine ObAD.plain fun L a w hi he hD hW hk K k => ?_
          obtain ⟨_, e1, rfl⟩ := hk 1 (by decide)
          clear hk
          have hS := hid (fun (v : Value) (w2 : World) (hc : Chg (fun _ => False) w w2) => hW.step (j := 14) (d := (some 35)) v (by decide) hc (fun _ _ h c => h.trans c (fun _ _ h => h)) (fun _ _ _ h c => h.quiet c) (fun _ _ h c => h.quiet c))
          clear hi he hW hD
          go_simp
          exact k _ _ (Chg.refl _ _) (hS.out _ _ (Chg.refl _ _)) rfl
        refine ObsAD.cons none (by kernel_rfl) ?_ ?_
        · refine ObAD.plain fun L a w hi he hD hW hk K k => ?_
          obtain ⟨_, e35, rfl⟩ := hk 35 (by decide)
          clear hk
          have hsz := hW.early (by decide) hi (B := fun w => w2.heap.size ≤ w.heap.size) (fun w h => h.size) (fun y w h => h.2.1.size)
          have hS := hid (fun (v : Value) (w2 : World) (hc : Chg (fun _ => False) w w2) => hW.step (j := 15) (d := (some 36)) v (by decide) hc (fun _ _ h c => h.trans c (fun _ _ h => h)) (fun _ _ _ h c => h.quiet c) (fun _ _ h c => h.quiet c))
          clear hi he hW hD
          go_simp
          exact k _ _ (Chg.none9 ((Chg.refl _ _).alloc _)) (hS.out _ _ ((Chg.refl _ _).alloc _)) ⟨_, rfl, heap_alloc_new _ _, fun h => absurd (HLO.out _ h.some) (by omega)⟩
        refine ObsAD.cons none (by kernel_rfl) ?_ ?_
        · refine ObAD.plain fun L a w hi he hD hW hk K k => ?_
          obtain ⟨_, e34, rfl⟩ := hk 34 (by decide)
          obtain ⟨_, e36, f36⟩ := hk 36 (by decide)
          clear hk
          obtain ⟨b, rfl, hb, hb2⟩ := f36
          have h0 := hW.p0 hi
          obtain ⟨v2, w5, hr, hF, hS⟩ := HE1.out w b 156 h0 hb
          clear he hD
          refine ob_appendK 156 rfl e34 e36 hr ?_
          exact k _ _ hS (hW.first (by decide) hi hF) trivial
        refine ObsAD.cons none (by kernel_rfl) ?_ ?_
        · refine ObAD.plain fun L a w hi he hD hW hk K k => ?_
          obtain ⟨_, e24, rfl⟩ := hk 24 (by decide)
          obtain ⟨_, e26, rfl⟩ := hk 26 (by decide)
          clear hk
          have hlt := HLT.out.1
          have hS := hid (fun (v : Value) (w2 : World) (hc : Chg (fun _ => False) w w2) => hW.step (j := 17) (d := (some 38)) v (by decide) hc (fun _ _ h c => h.trans c (fun _ _ h => h)) (fun _ _ _ h c => h.quiet c) (fun _ _ h c => h.quiet c))
          clear hi he hW hD
          go_simp
          exact k _ _ (Chg.refl _ _) (hS.out _ _ (Chg.refl _ _)) rfl
        refine ObsAD.cons none (by kernel_rfl) ?_ ?_
        · refine ObAD.plain fun L a w hi he hD hW hk K k => ?_
          obtain ⟨_, e38, rfl⟩ := hk 38 (by decide)
          clear hk
          have hall := behind_all (n := 18) hD rfl he (by kernel_rfl)
          obtain ⟨v2, e37, hF⟩ := hW.p1 (hall 16 (by decide)) hi
          obtain ⟨ao2, cap2, hv2⟩ := hF.1.shape
          obtain ⟨q, hq⟩ : ∃ q : Nat, q = (((⟨kp.W.set i ws, (ws.take jj).foldl (takerW i) kp.K⟩ : KeptB)).K.getD x.1 [] ++ [i]).length := ⟨_, rfl⟩
          rw [← hq] at hv2
          clear hq
          subst hv2
          obtain ⟨hcl, hfz, hF2, hS⟩ := HE2.out w _ hF
          have HS := hid (And.intro hW (And.intro hall (And.intro hF2 hS)))
          clear hF hF2 hS hall he hD hW hi
          go_simp
          exact k undef _ HS.out.2.2.2 (HS.out.1.second (by decide) HS.out.2.1 HS.out.2.2.1) trivial
        exact ObsAD.nil
      case fin4 =>
        intro L vals w9 hL hWL hv
        have hp2 := hWL.p2 (hL 18 (by decide))
        clear hL hWL hv HE1 HE2
        simp only [putAll, List.setIfInBounds_toArray, List.set_cons_zero, List.set_cons_succ]
        obtain ⟨T2, hps2, hx2, hc2⟩ := hp2
        obtain ⟨w3, hw3⟩ : ∃ w3, w3 = w9 := ⟨_, rfl⟩
        rw [← hw3] at hps2 hx2 hc2 ⊢
        have hbx := blk_keep HBX.out hc2 (fun h => h.some HTX0.out)
        have htX1 : T2 X = none := by
          cases e : T2 X with
          | none => rfl
          | some y =>
            rcases hx2.new X (by rw [e]; simp) with h | h | h
            · exact absurd HTX0.out h
            · exact h.elim
            · have := HXLT.out; omega
        have HTX1 := hid htX1
        have HNXT : Hid (∀ w9, TakP (fun _ => False) T2 w3 g n ⟨(⟨kp.W.set i ws, addAt ((ws.take jj).foldl (takerW i) kp.K) x.1 i⟩ : KeptB).W, addAt (⟨kp.W.set i ws, addAt ((ws.take jj).foldl (takerW i) kp.K) x.1 i⟩ : KeptB).K x.2 i⟩ w9 → Hid (TakP (fun _ => False) T1 w1 g n ⟨kp.W.set i ws, (ws.take (jj + 1)).foldl (takerW i) kp.K⟩ w9)) := hid (fun w9 h => HNXT0.out T2 w3 w9 hps2 hx2 hc2 h)
        clear hw3 hx2 hc2 htX1 HB HN HLO HNXT0
        obtain ⟨T, hT⟩ : ∃ T', T' = T2 := ⟨_, rfl⟩
        rw [← hT] at hps2 HTX1 HNXT
        clear hT
        obtain ⟨⟨bw, bk, VW, VK, hp⟩, hlo, hlw, hlk⟩ := hps2
        have hlt := HLT.out
        have htk := hp.taker (i := i) hlo hlw hlk hlt.2 (HLEN1.out)
        have hgn : ∀ b, (VK x.2).ownBlock = some b → b ≠ g := fun b hb e => by have := (hp.isK x.2 hlt.2).2 b hb; rw [e, hp.tg] at this; cases this
        have hbn : ∀ b, (VK x.2).ownBlock = some b → b ≠ bk := fun b hb e => by have := (hp.isK x.2 hlt.2).2 b hb; rw [e, hp.t2] at this; cases this
        have hXn : ∀ b, (VK x.2).ownBlock = some b → b ≠ X := fun b hb e => by have := (hp.isK x.2 hlt.2).2 b hb; rw [e, HTX1.out] at this; cases this
        have HB := hid (show BaseP g X bk n x.2 (VK x.2) x w3 from ⟨cell_blk hp.blk 1, hbx, hp.rk_.cell hlt.2⟩)
        have HN : Hid (¬ (VK x.2).ownBlock = some g ∧ ¬ (VK x.2).ownBlock = some X ∧ ¬ (VK x.2).ownBlock = some bk) := hid ⟨fun e => hgn _ e rfl, fun e => hXn _ e rfl, fun e => hbn _ e rfl⟩
        have HLO := hid hlo
        obtain ⟨e1, e2⟩ := htk
        have HE1 := hid e1
        have HE2 := hid e2
        generalize VK x.2 = u at *
        clear hp hlo hlw hlk hgn hbn hXn e1 e2 hbx hlt
        go_wp2_with fail
        refine wp_region_stateAD (Chg (KB T)) (Duo 16 18 55 (fun w => Chg (fun _ => False) w3 w) (RowP1 w3 u (((⟨kp.W.set i ws, addAt ((ws.take jj).foldl (takerW i) kp.K) x.1 i⟩ : KeptB)).K.getD x.2 [] ++ [i])) (TakP (fun _ => False) T w3 g n ⟨((⟨kp.W.set i ws, addAt ((ws.take jj).foldl (takerW i) kp.K) x.1 i⟩ : KeptB)).W, addAt ((⟨kp.W.set i ws, addAt ((ws.take jj).foldl (takerW i) kp.K) x.1 i⟩ : KeptB)).K x.2 i⟩)) (specAtR (kk5 T g X bk n i u x)) [39, 40, 41, 42, 43, 44, 45, 46, 47, 48, 49, 50, 51, 52, 53, 54, 55, 56] [0, 1, 7] (by kernel_rfl) (by kernel_rfl) (Duo.start (show (55 : Nat) < 58 by decide) ((Chg.refl _ _).drew)) (fun t v w w' hc h => specAtR_st _ t v w w' hc h) (by rfl) (by kernel_rfl) ?start5 ?obs5 ?fin5
        case start5 =>
          simp only [List.forall_mem_cons]; exact ⟨⟨_, rfl, rfl⟩, ⟨_, rfl, rfl⟩, ⟨_, rfl, rfl⟩, fun _ h => by cases h⟩
        case obs5 =>
          clear HNXT
          refine ObsAD.cons none (by kernel_rfl) ?_ ?_
          · refine ObAD.plain fun L a w hi he hD hW hk K k => ?_
            obtain ⟨_, e0, rfl⟩ := hk 0 (by decide)
            clear hk
            have hS := hid (fun (v : Value) (w2 : World) (hc : Chg (fun _ => False) w w2) => hW.step (j := 0) (d := (some 39)) v (by decide) hc (fun _ _ h c => h.trans c (fun _ _ h => h)) (fun _ _ _ h c => h.quiet c) (fun _ _ h c => h.quiet c))
            clear hi he hW hD
            go_simp
            exact k _ _ (Chg.refl _ _) (hS.out _ _ (Chg.refl _ _)) rfl
          refine ObsAD.cons none (by kernel_rfl) ?_ ?_
          · refine ObAD.plain fun L a w hi he hD hW hk K k => ?_
            obtain ⟨_, e39, rfl⟩ := hk 39 (by decide)
            clear hk
            have hS := hid (fun (v : Value) (w2 : World) (hc : Chg (fun _ => False) w w2) => hW.step (j := 1) (d := (some 40)) v (by decide) hc (fun _ _ h c => h.trans c (fun _ _ h => h)) (fun _ _ _ h c => h.quiet c) (fun _ _ h c => h.quiet c))
            clear hi he hW hD
            go_simp
            exact k _ _ (Chg.refl _ _) (hS.out _ _ (Chg.refl _ _)) rfl
          refine ObsAD.cons none (by kernel_rfl) ?_ ?_
          · refine ObAD.plain fun L a w hi he hD hW hk K k => ?_
            obtain ⟨_, e40, rfl⟩ := hk 40 (by decide)
            clear hk
            have hS := hid (fun (v : Value) (w2 : World) (hc : Chg (fun _ => False) w w2) => hW.step (j := 2) (d := (some 41)) v (by decide) hc (fun _ _ h c => h.trans c (fun _ _ h => h)) (fun _ _ _ h c => h.quiet c) (fun _ _ h c => h.quiet c))
            clear hi he hW hD
            go_simp
            exact k _ _ (Chg.refl _ _) (hS.out _ _ (Chg.refl _ _)) rfl
          refine ObsAD.cons none (by kernel_rfl) ?_ ?_
          · refine ObAD.plain fun L a w hi he hD hW hk K k => ?_
            obtain ⟨_, e41, rfl⟩ := hk 41 (by decide)
            clear hk
            have hB := hW.early (by decide) hi (B := BaseP g X bk n x.2 u x) (fun w h => HB.out.keep h id id id) (fun y w h => HB.out.keep h.2.1 HN.out.1 HN.out.2.1 HN.out.2.2)
            have zz := hB.1
            have hS := hid (fun (v : Value) (w2 : World) (hc : Chg (fun _ => False) w w2) => hW.step (j := 3) (d := (some 42)) v (by decide) hc (fun _ _ h c => h.trans c (fun _ _ h => h)) (fun _ _ _ h c => h.quiet c) (fun _ _ h c => h.quiet c))
            clear hi he hW hD
            go_simp
            exact k _ _ (Chg.refl _ _) (hS.out _ _ (Chg.refl _ _)) rfl
          refine ObsAD.cons none (by kernel_rfl) ?_ ?_
          · refine ObAD.plain fun L a w hi he hD hW hk K k => ?_
            obtain ⟨_, e7, rfl⟩ := hk 7 (by decide)
            clear hk
            have hS := hid (fun (v : Value) (w2 : World) (hc : Chg (fun _ => False) w w2) => hW.step (j := 4) (d := (some 43)) v (by decide) hc (fun _ _ h c => h.trans c (fun _ _ h => h)) (fun _ _ _ h c => h.quiet c) (fun _ _ h c => h.quiet c))
            clear hi he hW hD
            go_simp
            exact k _ _ (Chg.refl _ _) (hS.out _ _ (Chg.refl _ _)) rfl
          refine ObsAD.cons none (by kernel_rfl) ?_ ?_
          · refine ObAD.plain fun L a w hi he hD hW hk K k => ?_
            obtain ⟨_, e43, rfl⟩ := hk 43 (by decide)
            clear hk
            have hB := hW.early (by decide) hi (B := BaseP g X bk n x.2 u x) (fun w h => HB.out.keep h id id id) (fun y w h => HB.out.keep h.2.1 HN.out.1 HN.out.2.1 HN.out.2.2)
            obtain ⟨z0, z1⟩ := hB.way
            have hS := hid (fun (v : Value) (w2 : World) (hc : Chg (fun _ => False) w w2) => hW.step (j := 5) (d := (some 44)) v (by decide) hc (fun _ _ h c => h.trans c (fun _ _ h => h)) (fun _ _ _ h c => h.quiet c) (fun _ _ h c => h.quiet c))
            clear hi he hW hD
            go_simp
            exact k _ _ (Chg.refl _ _) (hS.out _ _ (Chg.refl _ _)) rfl
          refine ObsAD.cons none (by kernel_rfl) ?_ ?_
          · refine ObAD.plain fun L a w hi he hD hW hk K k => ?_
            obtain ⟨_, e0, rfl⟩ := hk 0 (by decide)
            clear hk
            have hS := hid (fun (v : Value) (w2 : World) (hc : Chg (fun _ => False) w w2) => hW.step (j := 6) (d := (some 45)) v (by decide) hc (fun _ _ h c => h.trans c (fun _ _ h => h)) (fun _ _ _ h c => h.quiet c) (fun _ _ h c => h.quiet c))
            clear hi he hW hD
            go_simp
            exact k _ _ (Chg.refl _ _) (hS.out _ _ (Chg.refl _ _)) rfl
          refine ObsAD.cons none (by kernel_rfl) ?_ ?_
          · refine ObAD.plain fun L a w hi he hD hW hk K k => ?_
            obtain ⟨_, e45, rfl⟩ := hk 45 (by decide)
            clear hk
            have hS := hid (fun (v : Value) (w2 : World) (hc : Chg (fun _ => False) w w2) => hW.step (j := 7) (d := (some 46)) v (by decide) hc (fun _ _ h c => h.trans c (fun _ _ h => h)) (fun _ _ _ h c => h.quiet c) (fun _ _ h c => h.quiet c))
            clear hi he hW hD
            go_simp
            exact k _ _ (Chg.refl _ _) (hS.out _ _ (Chg.refl _ _)) rfl
          refine ObsAD.cons none (by kernel_rfl) ?_ ?_
          · refine ObAD.plain fun L a w hi he hD hW hk K k => ?_
            obtain ⟨_, e46, rfl⟩ := hk 46 (by decide)
            clear hk
            have hS := hid (fun (v : Value) (w2 : World) (hc : Chg (fun _ => False) w w2) => hW.step (j := 8) (d := (some 47)) v (by decide) hc (fun _ _ h c => h.trans c (fun _ _ h => h)) (fun _ _ _ h c => h.quiet c) (fun _ _ h c => h.quiet c))
            clear hi he hW hD
            go_simp
            exact k _ _ (Chg.refl _ _) (hS.out _ _ (Chg.refl _ _)) rfl
          refine ObsAD.cons none (by kernel_rfl) ?_ ?_
          · refine ObAD.plain fun L a w hi he hD hW hk K k => ?_
            obtain ⟨_, e47, rfl⟩ := hk 47 (by decide)
            clear hk
            have hB := hW.early (by decide) hi (B := BaseP g X bk n x.2 u x) (fun w h => HB.out.keep h id id id) (fun y w h => HB.out.keep h.2.1 HN.out.1 HN.out.2.1 HN.out.2.2)
            have zz := hB.1
            have hS := hid (fun (v : Value) (w2 : World) (hc : Chg (fun _ => False) w w2) => hW.step (j := 9) (d := (some 48)) v (by decide) hc (fun _ _ h c => h.trans c (fun _ _ h => h)) (fun _ _ _ h c => h.quiet c) (fun _ _ h c => h.quiet c))
            clear hi he hW hD
            go_simp
            exact k _ _ (Chg.refl _ _) (hS.out _ _ (Chg.refl _ _)) rfl
          refine ObsAD.cons none (by kernel_rfl) ?_ ?_
          · refine ObAD.plain fun L a w hi he hD hW hk K k => ?_
            obtain ⟨_, e7, rfl⟩ := hk 7 (by decide)
            clear hk
            have hS := hid (fun (v : Value) (w2 : World) (hc : Chg (fun _ => False) w w2) => hW.step (j := 10) (d := (some 49)) v (by decide) hc (fun _ _ h c => h.trans c (fun _ _ h => h)) (fun _ _ _ h c => h.quiet c) (fun _ _ h c => h.quiet c))
            clear hi he hW hD
            go_simp
            exact k _ _ (Chg.refl _ _) (hS.out _ _ (Chg.refl _ _)) rfl
          refine ObsAD.cons none (by kernel_rfl) ?_ ?_
          · refine ObAD.plain fun L a w hi he hD hW hk K k => ?_
            obtain ⟨_, e49, rfl⟩ := hk 49 (by decide)
            clear hk
            have hB := hW.early (by decide) hi (B := BaseP g X bk n x.2 u x) (fun w h => HB.out.keep h id id id) (fun y w h => HB.out.keep h.2.1 HN.out.1 HN.out.2.1 HN.out.2.2)
            obtain ⟨z0, z1⟩ := hB.way
            have hS := hid (fun (v : Value) (w2 : World) (hc : Chg (fun _ => False) w w2) => hW.step (j := 11) (d := (some 50)) v (by decide) hc (fun _ _ h c => h.trans c (fun _ _ h => h)) (fun _ _ _ h c => h.quiet c) (fun _ _ h c => h.quiet c))
            clear hi he hW hD
            go_simp
            exact k _ _ (Chg.refl _ _) (hS.out _ _ (Chg.refl _ _)) rfl
          refine ObsAD.cons none (by kernel_rfl) ?_ ?_
          · refine ObAD.plain fun L a w hi he hD hW hk K k => ?_
            obtain ⟨_, e48, rfl⟩ := hk 48 (by decide)
            obtain ⟨_, e50, rfl⟩ := hk 50 (by decide)
            clear hk
            have hlt := HLT.out.2
            have hS := hid (fun (v : Value) (w2 : World) (hc : Chg (fun _ => False) w w2) => hW.step (j := 12) (d := (some 51)) v (by decide) hc (fun _ _ h c => h.trans c (fun _ _ h => h)) (fun _ _ _ h c => h.quiet c) (fun _ _ h c => h.quiet c))
            clear hi he hW hD
            go_simp
            exact k _ _ (Chg.refl _ _) (hS.out _ _ (Chg.refl _ _)) rfl
          refine ObsAD.cons none (by kernel_rfl) ?_ ?_
          · refine ObAD.plain fun L a w hi he hD hW hk K k => ?_
            obtain ⟨_, e51, rfl⟩ := hk 51 (by decide)
            clear hk
            have hB := hW.early (by decide) hi (B := BaseP g X bk n x.2 u x) (fun w h => HB.out.keep h id id id) (fun y w h => HB.out.keep h.2.1 HN.out.1 HN.out.2.1 HN.out.2.2)
            have zz := hB.2.2
            have hS := hid (fun (v : Value) (w2 : World) (hc : Chg (fun _ => False) w w2) => hW.step (j := 13) (d := (some 52)) v (by decide) hc (fun _ _ h c => h.trans c (fun _ _ h => h)) (fun _ _ _ h c => h.quiet c) (fun _ _ h c => h.quiet c))
            clear hi he hW hD
            go_simp
            exact k _ _ (Chg.refl _ _) (hS.out _ _ (Chg.refl _ _)) rfl
          refine ObsAD.cons none (by kernel_rfl) ?_ ?_
          · refine ObAD.plain fun L a w hi he hD hW hk K k => ?_
            obtain ⟨_, e1, rfl⟩ := hk 1 (by decide)
            clear hk
            have hS := hid (fun (v : Value) (w2 : World) (hc : Chg (fun _ => False) w w2) => hW.step (j := 14) (d := (some 53)) v (by decide) hc (fun _ _ h c => h.trans c (fun _ _ h => h)) (fun _ _ _ h c => h.quiet c) (fun _ _ h c => h.quiet c))
            clear hi he hW hD
            go_simp
            exact k _ _ (Chg.refl _ _) (hS.out _ _ (Chg.refl _ _)) rfl
          refine ObsAD.cons none (by kernel_rfl) ?_ ?_
          · refine ObAD.plain fun L a w hi he hD hW hk K k => ?_
            obtain ⟨_, e53, rfl⟩ := hk 53 (by decide)
            clear hk
            have hsz := hW.early (by decide) hi (B := fun w => w3.heap.size ≤ w.heap.size) (fun w h => h.size) (fun y w h => h.2.1.size)
            have hS := hid (fun (v : Value) (w2 : World) (hc : Chg (fun _ => False) w w2) => hW.step (j := 15) (d := (some 54)) v (by decide) hc (fun _ _ h c => h.trans c (fun _ _ h => h)) (fun _ _ _ h c => h.quiet c) (fun _ _ h c => h.quiet c))
            clear hi he hW hD
            go_simp
            exact k _ _ (Chg.none9 ((Chg.refl _ _).alloc _)) (hS.out _ _ ((Chg.refl _ _).alloc _)) ⟨_, rfl, heap_alloc_new _ _, fun h => absurd (HLO.out _ h.some) (by omega)⟩
          refine ObsAD.cons none (by kernel_rfl) ?_ ?_
          · refine ObAD.plain fun L a w hi he hD hW hk K k => ?_
            obtain ⟨_, e52, rfl⟩ := hk 52 (by decide)
            obtain ⟨_, e54, f54⟩ := hk 54 (by decide)
            clear hk
            obtain ⟨b, rfl, hb, hb2⟩ := f54
            have h0 := hW.p0 hi
            obtain ⟨v2, w5, hr, hF, hS⟩ := HE1.out w b 156 h0 hb
            clear he hD
            refine ob_appendK 156 rfl e52 e54 hr ?_
            exact k _ _ hS (hW.first (by decide) hi hF) trivial
          refine ObsAD.cons none (by kernel_rfl) ?_ ?_
          · refine ObAD.plain fun L a w hi he hD hW hk K k => ?_
            obtain ⟨_, e42, rfl⟩ := hk 42 (by decide)
            obtain ⟨_, e44, rfl⟩ := hk 44 (by decide)
            clear hk
            have hlt := HLT.out.2
            have hS := hid (fun (v : Value) (w2 : World) (hc : Chg (fun _ => False) w w2) => hW.step (j := 17) (d := (some 56)) v (by decide) hc (fun _ _ h c => h.trans c (fun _ _ h => h)) (fun _ _ _ h c => h.quiet c) (fun _ _ h c => h.quiet c))
            clear hi he hW hD
            go_simp
            exact k _ _ (Chg.refl _ _) (hS.out _ _ (Chg.refl _ _)) rfl
          refine ObsAD.cons none (by kernel_rfl) ?_ ?_
          · refine ObAD.plain fun L a w hi he hD hW hk K k => ?_
            obtain ⟨_, e56, rfl⟩ := hk 56 (by decide)
            clear hk
            have hall := behind_all (n := 18) hD rfl he (by kernel_rfl)
            obtain ⟨v2, e55, hF⟩ := hW.p1 (hall 16 (by decide)) hi
            obtain ⟨ao2, cap2, hv2⟩ := hF.1.shape
            obtain ⟨q, hq⟩ : ∃ q : Nat, q = (((⟨kp.W.set i ws, addAt ((ws.take jj).foldl (takerW i) kp.K) x.1 i⟩ : KeptB)).K.getD x.2 [] ++ [i]).length := ⟨_, rfl⟩
            rw [← hq] at hv2
            clear hq
            subst hv2
            obtain ⟨hcl, hfz, hF2, hS⟩ := HE2.out w _ hF
            have HS := hid (And.intro hW (And.intro hall (And.intro hF2 hS)))
            clear hF hF2 hS hall he hD hW hi
            go_simp
            exact k undef _ HS.out.2.2.2 (HS.out.1.second (by decide) HS.out.2.1 HS.out.2.2.1) trivial
          exact ObsAD.nil
        case fin5 =>
          intro L vals w9 hL hWL hv
          have HEND := hid (hWL.p2 (hL 18 (by decide)))
          clear hL hWL hv HE1 HE2
          simp only [putAll, List.setIfInBounds_toArray, List.set_cons_zero, List.set_cons_succ]
          have HN2 := hid (HNXT.out w9 HEND.out)
          clear HEND HNXT HB HN HLO HLT
          go_wp2
          go_roundw
          case rel => exact ⟨jj + 1, by omega, by go_num, HN2.out⟩
          case measure => simp [intOf]; omega
    · have hj2 : jj = m := by omega
      have HRES := hid (HFIN.out wr (by have h := hrel.out; rw [hj2, HM.out, List.take_length] at h; exact h))
      clear hrel hj2
      go_wp2
      go_end0
      exact HRES.out
end Go.Proofs.Ytjaplnainlbldaa
