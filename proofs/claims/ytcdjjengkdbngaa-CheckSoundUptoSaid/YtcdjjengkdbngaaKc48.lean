/- Texts that the proof leans on, in one: ShelfI, ShelfI2, PmSorted, PmMembers, PmTakeM. -/
import Derived.Shelf.SlIter.Nil
import Derived.Shelf.SortM.Plain
import Derived.Shelf.SortM.SortNone
import Derived.Ground.GgzProg
import Derived.Ground.SlgmProg
import Derived.Test.YtcdjjengkdbngaaProg
import Derived.Test.YtcdjjengkdbngaaKc43
import Derived.Test.YtcdjjengkdbngaaKc47
import Derived.Test.YtcdjjengkdbngaaKc8
import Derived.Sort.KeysCollected
import Derived.Test.YtcdjjengkdbngaaKc46
/-
  DERIVED: THE SHELF's CONTRACTS AT THIS DUMP, IN PLAIN WORDS (tools/lay-plain.mjs out of 'TryShelfI.lean', which tools/lay-shelf.mjs wrote): THE SAME DECLARATIONS UNDER THE SAME NAMES: 'import', 'namespace', 'open', 'def', 'theorem' AND NOTHING ELSE: no command of the shelf's: FOR A HAND-IN. Each laying: the table of numbers ('.._ren') and one theorem, a field a fact of the dump's own or the kernel's comparison; each contract: ONE APPLICATION.
-/
namespace Go.Proofs
open Go.Shelf
def Try.keysI_ren : Go.Shelf.Ren := ⟨fun | 7 => 127 | 10 => 145 | n => n, fun | 23 => 85 | 26 => 9 | 3 => 80 | 28 => 189 | 0 => 0 | 27 => 188 | 33 => 151 | 4 => 4 | n => n, fun | n => n⟩
theorem Try.keysI : Go.Proofs.SlLaysZ.n7 Try.prog Try.keysI_ren := {
  mixed := by kernel_rfl
  f7 := ⟨Try.f127.name, by decide, Try.func127.trans (congrArg some (by kernel_rfl))⟩
  f10 := ⟨Try.f145.name, by decide, Try.func145.trans (congrArg some (by kernel_rfl))⟩
  t0 := Try.underlying0
  a0 := Try.isAgg0
  z0 := Try.sizeOf0
  v0 := Try.zeroValue0
  t4 := Try.underlying4
  a4 := Try.isAgg4
  z4 := Try.sizeOf4
  v4 := Try.zeroValue4
  t23 := Try.underlying85
  a23 := Try.isAgg85
  z23 := Try.sizeOf85
  v23 := Try.zeroValue85
  t26 := Try.underlying9
  a26 := Try.isAgg9
  z26 := Try.sizeOf9
  v26 := Try.zeroValue9
  t27 := Try.underlying188
  a27 := Try.isAgg188
  z27 := Try.sizeOf188
  v27 := Try.zeroValue188
  t28 := Try.underlying189
  a28 := Try.isAgg189
  z28 := Try.sizeOf189
  v28 := Try.zeroValue189
  t33 := Try.underlying151
  a33 := Try.isAgg151
  z33 := Try.sizeOf151
  v33 := Try.zeroValue151 }
def Try.sortedI_ren : Go.Shelf.Ren := ⟨fun | 6 => 126 | 8 => 143 | 9 => 144 | 11 => 152 | 13 => 110 | 12 => 153 | 23 => 136 | 24 => 137 | 14 => 155 | 15 => 156 | 16 => 157 | 17 => 158 | 18 => 159 | 19 => 160 | 20 => 161 | 21 => 162 | 22 => 163 | 25 => 164 | 26 => 147 | 27 => 148 | 28 => 165 | 29 => 166 | 30 => 167 | 31 => 168 | n => n, fun | 26 => 9 | 28 => 189 | 24 => 97 | 0 => 0 | 3 => 3 | 37 => 154 | 48 => 199 | 50 => 201 | 4 => 4 | 40 => 193 | 39 => 192 | 45 => 89 | 5 => 5 | 9 => 9 | 51 => 207 | 55 => 211 | 57 => 215 | 58 => 48 | 33 => 151 | n => n, fun | n => n⟩
theorem Try.sortedI : Go.Proofs.SlLaysZ.n6 Try.prog Try.sortedI_ren := {
  mixed := by kernel_rfl
  f6 := ⟨Try.f126.name, by decide, Try.func126.trans (congrArg some (by kernel_rfl))⟩
  f8 := ⟨Try.f143.name, by decide, Try.func143.trans (congrArg some (by kernel_rfl))⟩
  f11 := ⟨Try.f152.name, by decide, Try.func152.trans (congrArg some (by kernel_rfl))⟩
  t0 := Try.underlying0
  a0 := Try.isAgg0
  z0 := Try.sizeOf0
  v0 := Try.zeroValue0
  t24 := Try.underlying97
  a24 := Try.isAgg97
  z24 := Try.sizeOf97
  v24 := Try.zeroValue97
  t26 := Try.underlying9
  a26 := Try.isAgg9
  z26 := Try.sizeOf9
  v26 := Try.zeroValue9
  t28 := Try.underlying189
  a28 := Try.isAgg189
  z28 := Try.sizeOf189
  v28 := Try.zeroValue189
  i26 := by kernel_rfl }
def Try.sortI_ren : Go.Shelf.Ren := ⟨fun | 6 => 144 | 8 => 110 | 9 => 153 | 19 => 136 | 20 => 137 | 21 => 155 | 22 => 156 | 23 => 157 | 24 => 158 | 25 => 159 | 26 => 160 | 27 => 161 | 28 => 162 | 29 => 163 | 36 => 164 | 31 => 147 | 32 => 148 | 37 => 165 | 38 => 166 | 39 => 167 | 41 => 168 | n => n, fun | 27 => 97 | 29 => 9 | 3 => 3 | 32 => 154 | 26 => 97 | 0 => 0 | 44 => 199 | 46 => 201 | 4 => 4 | 36 => 193 | 35 => 192 | 41 => 89 | 5 => 5 | 9 => 9 | 53 => 207 | 57 => 211 | 63 => 215 | 64 => 48 | n => n, fun | n => n⟩
theorem Try.sortI : Go.Proofs.SlLaysM.n6 Try.prog Try.sortI_ren := {
  mixed := by kernel_rfl
  f6 := ⟨Try.f144.name, by decide, Try.func144.trans (congrArg some (by kernel_rfl))⟩
  f8 := Try.func110.trans (congrArg some (by kernel_rfl))
  f9 := ⟨Try.f153.name, by decide, Try.func153.trans (congrArg some (by kernel_rfl))⟩
  f19 := Try.func136.trans (congrArg some (by kernel_rfl))
  f20 := Try.func137.trans (congrArg some (by kernel_rfl))
  f21 := ⟨Try.f155.name, by decide, Try.func155.trans (congrArg some (by kernel_rfl))⟩
  f22 := ⟨Try.f156.name, by decide, Try.func156.trans (congrArg some (by kernel_rfl))⟩
  f23 := ⟨Try.f157.name, by decide, Try.func157.trans (congrArg some (by kernel_rfl))⟩
  f24 := ⟨Try.f158.name, by decide, Try.func158.trans (congrArg some (by kernel_rfl))⟩
  f25 := ⟨Try.f159.name, by decide, Try.func159.trans (congrArg some (by kernel_rfl))⟩
  f26 := ⟨Try.f160.name, by decide, Try.func160.trans (congrArg some (by kernel_rfl))⟩
  f27 := ⟨Try.f161.name, by decide, Try.func161.trans (congrArg some (by kernel_rfl))⟩
  f28 := ⟨Try.f162.name, by decide, Try.func162.trans (congrArg some (by kernel_rfl))⟩
  f29 := ⟨Try.f163.name, by decide, Try.func163.trans (congrArg some (by kernel_rfl))⟩
  f31 := Try.func147.trans (congrArg some (by kernel_rfl))
  f32 := Try.func148.trans (congrArg some (by kernel_rfl))
  f36 := ⟨Try.f164.name, by decide, Try.func164.trans (congrArg some (by kernel_rfl))⟩
  f37 := ⟨Try.f165.name, by decide, Try.func165.trans (congrArg some (by kernel_rfl))⟩
  f38 := ⟨Try.f166.name, by decide, Try.func166.trans (congrArg some (by kernel_rfl))⟩
  f39 := ⟨Try.f167.name, by decide, Try.func167.trans (congrArg some (by kernel_rfl))⟩
  f41 := ⟨Try.f168.name, by decide, Try.func168.trans (congrArg some (by kernel_rfl))⟩
  t0 := Try.underlying0
  a0 := Try.isAgg0
  z0 := Try.sizeOf0
  v0 := Try.zeroValue0
  t3 := Try.underlying3
  a3 := Try.isAgg3
  z3 := Try.sizeOf3
  v3 := Try.zeroValue3
  t4 := Try.underlying4
  a4 := Try.isAgg4
  z4 := Try.sizeOf4
  v4 := Try.zeroValue4
  t5 := Try.underlying5
  a5 := Try.isAgg5
  z5 := Try.sizeOf5
  v5 := Try.zeroValue5
  t9 := Try.underlying9
  a9 := Try.isAgg9
  z9 := Try.sizeOf9
  v9 := Try.zeroValue9
  t26 := Try.underlying97
  a26 := Try.isAgg97
  z26 := Try.sizeOf97
  v26 := Try.zeroValue97
  t27 := Try.underlying97
  a27 := Try.isAgg97
  z27 := Try.sizeOf97
  v27 := Try.zeroValue97
  t29 := Try.underlying9
  a29 := Try.isAgg9
  z29 := Try.sizeOf9
  v29 := Try.zeroValue9
  t32 := Try.underlying154
  a32 := Try.isAgg154
  z32 := Try.sizeOf154
  v32 := Try.zeroValue154
  t35 := Try.underlying192
  a35 := Try.isAgg192
  z35 := Try.sizeOf192
  v35 := Try.zeroValue192
  t36 := Try.underlying193
  a36 := Try.isAgg193
  z36 := Try.sizeOf193
  v36 := Try.zeroValue193
  t41 := Try.underlying89
  a41 := Try.isAgg89
  z41 := Try.sizeOf89
  v41 := Try.zeroValue89
  t44 := Try.underlying199
  a44 := Try.isAgg199
  z44 := Try.sizeOf199
  v44 := Try.zeroValue199
  t46 := Try.underlying201
  a46 := Try.isAgg201
  z46 := Try.sizeOf201
  v46 := Try.zeroValue201
  t53 := Try.underlying207
  a53 := Try.isAgg207
  z53 := Try.sizeOf207
  v53 := Try.zeroValue207
  t57 := Try.underlying211
  a57 := Try.isAgg211
  z57 := Try.sizeOf211
  v57 := Try.zeroValue211
  t63 := Try.underlying215
  a63 := Try.isAgg215
  z63 := Try.sizeOf215
  v63 := Try.zeroValue215
  t64 := Try.underlying48
  a64 := Try.isAgg48
  z64 := Try.sizeOf48
  v64 := Try.zeroValue48 }
end Go.Proofs

/- The library's contract of slices.Sorted at what maps.Keys hands back, at this program. -/
namespace Go.Proofs
open Go.RowKit Go.Maps Go.Sort Go.Shelf


theorem Try.sortsI (m : Nat) : AnyZ.SortsIn Try.prog Try.sortedI_ren Fence.wide m :=
  ⟨fun blk off cap ss W hH hblk hsz => callsIn_wide.2 (AnyM.slices_Sort_string Try.sortI blk off cap ss W hH hblk hsz),
   fun p cap W => callsIn_wide.2 (AnyM.slices_Sort_string_none Try.sortI p cap W)⟩

theorem Try.maps_Keys_m (mb : Option Nat) (W : World) : CallsIn Fence.wide 5 Try.prog 127 #[.map mb] W fun e w' => e = .returned (.func (.func 145) #[] #[.pointer (some ⟨W.heap.size, 0, none⟩)]) ∧ w' = W.alloc (.cells #[.map mb] 85) :=
  AnyZ.keys_in Try.keysI Fence.wide 5 trivial rfl mb W

end Go.Proofs

/- slices.Sorted of maps.Keys, at whatever world; the names of a set. -/
namespace Go.Proofs.Ytcdjjengkdbngaa
open Go.RowKit Go.Maps Go.Sort Go.Shelf

set_option maxHeartbeats 1000000 in
theorem sorted_some {H : Type} (Bm b nn : Nat) (D0 : DataW H) (R : Value → Option (DataW H × List MemPlace)) (w : World) (hBm : Bm < w.heap.size) (hm : w.cell? ⟨Bm, 0, none⟩ = some (.map (some b))) (hown : w.ownsMap Try.prog 9 R b nn D0) (hmax : Maps.size D0 ≤ maxLen) (hbytes : Maps.size D0 * 16 ≤ 140737488355328) :
    CallsIn Fence.wide 5 Try.prog 126 #[.func (.func 145) #[] #[.pointer (some ⟨Bm, 0, none⟩)]] w fun e w' => ∃ (v : Value) (ss : List (List UInt8)), e = .returned v ∧ ss.Perm (strKeys D0) ∧
      w'.ownsRow w.heap.size 9 1 v ss.length ((ss.mergeSort (fun x y => decide (x ≤ y))).map encStr) ∧ (v = .slice none 0 0 ↔ ss = []) ∧ Below w.heap.size w w' := by
  have hseq : SeqGives Fence.wide 2 Try.prog 145 #[.pointer (some ⟨Bm, 0, none⟩)] encStr (fun ss => ss.Perm (strKeys D0)) (Maps.size D0) w :=
    AnyZ.keys_gives (ρ := Try.keysI_ren) { Try.keysI with } Fence.wide _ trivial rfl (by omega) Bm b nn D0 _ hBm hm hown
  exact AnyZ.sorted_in Try.sortedI Fence.wide 5 trivial trivial trivial trivial rfl (by omega) (Try.sortsI _) (enters_of Try.func144 (by kernel_rfl) rfl) 145 #[.pointer (some ⟨Bm, 0, none⟩)] trivial (enters_of Try.func145 (by kernel_rfl) rfl) _ _ hmax hbytes _ hseq

set_option maxHeartbeats 1000000 in
theorem sorted_nil (Bm : Nat) (w : World) (hBm : Bm < w.heap.size) (hm : w.cell? ⟨Bm, 0, none⟩ = some (.map none)) :
    CallsIn Fence.wide 5 Try.prog 126 #[.func (.func 145) #[] #[.pointer (some ⟨Bm, 0, none⟩)]] w fun e w' => ∃ (v : Value) (ss : List (List UInt8)), e = .returned v ∧ ss = [] ∧
      w'.ownsRow w.heap.size 9 1 v ss.length ((ss.mergeSort (fun x y => decide (x ≤ y))).map encStr) ∧ (v = .slice none 0 0 ↔ ss = []) ∧ Below w.heap.size w w' := by
  have hseq : SeqGives Fence.wide 2 Try.prog 145 #[.pointer (some ⟨Bm, 0, none⟩)] encStr (fun ss : List (List UInt8) => ss = []) 0 w :=
    AnyZ.keys_gives_nil (ρ := Try.keysI_ren) { Try.keysI with } Fence.wide _ trivial rfl Bm _ hBm hm
  exact AnyZ.sorted_in Try.sortedI Fence.wide 5 trivial trivial trivial trivial rfl (by omega) (Try.sortsI _) (enters_of Try.func144 (by kernel_rfl) rfl) 145 #[.pointer (some ⟨Bm, 0, none⟩)] trivial (enters_of Try.func145 (by kernel_rfl) rfl) _ 0 (Nat.zero_le _) (by omega) _ hseq

/-- The names of a set, as the map's own words have them. -/
theorem KM.names {R : Value → Option (DataW Value × List MemPlace)} {w : World} {mb : Nat} {l : List (List UInt8)} {M : DataW Value} (h : KM ktS R w mb l M) : l.Perm (strKeys M) ∧ Maps.size M ≤ l.length := by
  refine ⟨?_, h.own.size_le⟩
  obtain ⟨es, rfl, hp⟩ := h.own.tidy ktS.keyed
  obtain ⟨es', he', hk⟩ := h.own.keysOf
  cases he'
  have hstr : ∀ p ∈ es, ∃ x, p.1 = .string x := fun p hp' => by
    obtain ⟨v, hv⟩ := hk p hp'
    obtain ⟨x, _, hx, _⟩ := Maps.keyOf_str Try.underlying9 hv
    exact ⟨x, hx⟩
  refine perm_strKeys hp hstr h.nd (fun x => ?_)
  constructor
  · intro hx
    exact (h.has x (h.ok x hx)).2 hx
  · intro hh
    obtain ⟨a, ha, e⟩ := h.of _ hh
    cases e
    exact ha

theorem sortS_rises {l : List (List UInt8)} (h : l.Nodup) : Rising (sortS l) := by
  have hn : (sortS l).Nodup := (List.mergeSort_perm l _).nodup_iff.2 h
  have hs := sortS_sorted l
  generalize sortS l = m at *
  induction m with
  | nil => trivial
  | cons x m ih =>
    obtain ⟨a, b⟩ := List.nodup_cons.1 hn
    obtain ⟨c, d⟩ := List.pairwise_cons.1 hs
    refine ⟨fun y hy => ?_, ih b d⟩
    rcases ltS_tri x y with k | k | k
    · exact k
    · exact absurd (k ▸ hy) a
    · rw [c y hy] at k; cases k

/-- The sorted names, in a row of the call's own. -/
def SortedS (xs : List (List UInt8)) (B : Nat) (e : Ending) (w w' : World) : Prop :=
  ∃ ao cap, e = .returned (.slice ao xs.length cap) ∧ StrsAt (fun k => B ≤ k ∧ k < w'.heap.size) w' ao (sortS xs) ∧ Chg (fun _ => False) w w' ∧ (ao = none → cap = 0)

theorem sortedS_of {w w' : World} {v : Value} {ss xs : List (List UInt8)} (hp : ss.Perm xs) (hrow : w'.ownsRow w.heap.size 9 1 v ss.length ((ss.mergeSort (fun x y => decide (x ≤ y))).map encStr)) (hb : Below w.heap.size w w') (hok : ∀ x ∈ xs, x.length ≤ 9223372036854775807) (hnd : xs.Nodup) : SortedS xs w.heap.size (.returned v) w w' := by
  have hso : sortS ss = sortS xs := by
    refine (sortS_rises (hp.nodup_iff.2 hnd)).ext (sortS_rises hnd) (fun x => ?_)
    rw [sortS_mem, sortS_mem, hp.mem_iff]
  have ho : OwnS w.heap.size w' v (sortS ss) := by
    unfold OwnS
    rw [sortS_length]
    exact hrow
  obtain ⟨ao, cap, hv, hst⟩ := ho.strs (fun x hx => hok x (hp.mem_iff.1 ((sortS_mem _ _).1 hx)))
  have h0 : ao = none → cap = 0 := fun e => by
    subst e
    rcases ho.2 with ⟨e2, _⟩ | ⟨g, cap', cur, e2, _⟩
    · rw [hv] at e2; injection e2
    · rw [hv] at e2; injection e2 with h1; cases h1
  subst hv
  refine ⟨ao, cap, by rw [sortS_length, hp.length_eq], by rw [← hso]; exact hst, ⟨hb.os, hb.tape, hb.output, hb.size, fun k hk _ => hb.block k hk⟩, h0⟩
end Go.Proofs.Ytcdjjengkdbngaa

/- Who is in a role. -/
namespace Go.Proofs.Ytcdjjengkdbngaa
open Go.RowKit Go.Maps

/-- What maps.Keys hands back. -/
def Spec.keysF (y : Option Nat) : Spec :=
  ⟨fun v w => ∃ Bm, v = .func (.func 145) #[] #[.pointer (some ⟨Bm, 0, none⟩)] ∧ w.heap[Bm]? = some (.cells #[.map y] 85 (0, 0)), fun _ _ _ hc ⟨Bm, h1, h2⟩ => ⟨Bm, h1, blk_keep h2 hc id⟩⟩

def Spec.sortedF (lo : Nat) (xs : List (List UInt8)) : Spec :=
  ⟨fun v w => ∃ ao cap, v = .slice ao xs.length cap ∧ StrsAt (fun k => lo ≤ k ∧ k < w.heap.size) w ao (sortS xs) ∧ (ao = none → cap = 0), fun _ _ _ hc ⟨ao, cap, h1, h2, h3⟩ => ⟨ao, cap, h1, (h2.keep hc (fun _ _ => id)).mono (fun _ hi => ⟨hi.1, Nat.lt_of_lt_of_le hi.2 hc.size⟩), h3⟩⟩

def pmemSpecs (g A m lo : Nat) (r : RoleB) (y : Option Nat) (xs : List (List UInt8)) : List Spec := [.eq (.pointer (some ⟨g, 0, none⟩)), .any, .any, .eq (.pointer (some ⟨A, 0, none⟩)), .sortedF lo xs, .any, .any, .eq (.pointer (some ⟨g, 0, none⟩)), .eq (.pointer (some ⟨g, 0, none⟩)), .eq (.pointer (some ⟨g, 0, none⟩)), .eq (.map (some m)), .eq (.agg #[.string ⟨r.1.toArray⟩, .string ⟨r.2.toArray⟩]), .eq (.map y), .keysF y, .sortedF lo xs]

/-- The members of a role, rising. -/
def MemPost (F : List FactB) (r : RoleB) (w : World) (e : Ending) (w' : World) : Prop :=
  ∃ xs ao cap, e = .returned (.slice ao xs.length cap) ∧ (∀ s, s ∈ xs ↔ (r, s) ∈ F) ∧ xs.Nodup ∧ StrsAt (fun k => w.heap.size ≤ k ∧ k < w'.heap.size) w' ao (sortS xs) ∧ Chg (fun _ => False) w w' ∧ (ao = none → cap = 0)

set_option maxRecDepth 100000 in
set_option maxHeartbeats 1000000 in
theorem pmem {K O : Nat → Prop} (g : Nat) (F : List FactB) {n2 n3 : Nat} {R2 : RoleB → CredB → Prop} {R3 : List UInt8 → CredB → Prop} (r : RoleB) (w : World) (h : MS K O w g F n2 R2 n3 R3) (hr : ktR.ok r) (hn : F.length ≤ 4000000) :
    Calls Try.prog 102 #[.pointer (some ⟨g, 0, none⟩), .agg #[.string ⟨r.1.toArray⟩, .string ⟨r.2.toArray⟩]] w (MemPost F r w) := by
  have hc1 : Chg (fun _ => False) w (w.alloc (.cells #[.string ⟨r.1.toArray⟩, .string ⟨r.2.toArray⟩] 30)) := (Chg.refl _ w).alloc _
  have hb1 : (w.alloc (.cells #[.string ⟨r.1.toArray⟩, .string ⟨r.2.toArray⟩] 30)).heap[w.heap.size]? = some (.cells #[.string ⟨r.1.toArray⟩, .string ⟨r.2.toArray⟩] 30 (0, 0)) := heap_alloc_new w _
  obtain ⟨⟨m, m2, m3, O1, O2, O3, h0, h1, _⟩, _⟩ := h
  have h0' := blk_keep h0 hc1 id
  have h1' := h1.keep hc1 (fun _ _ => id)
  have HS0 : Hid (∃ (y : Option Nat) (xs : List (List UInt8)), (∀ s, s ∈ xs ↔ (r, s) ∈ F) ∧ xs.Nodup ∧ (∀ w', Chg (fun _ => False) (w.alloc (.cells #[.string ⟨r.1.toArray⟩, .string ⟨r.2.toArray⟩] 30)) w' → (Instr.lookup 71 (.map (some m)) (.agg #[.string ⟨r.1.toArray⟩, .string ⟨r.2.toArray⟩]) false).run Try.prog w' = .ok (.map y) w') ∧
      ∀ w', Chg (fun _ => False) (w.alloc (.cells #[.string ⟨r.1.toArray⟩, .string ⟨r.2.toArray⟩] 30)) w' → ∀ Bm, w'.heap[Bm]? = some (.cells #[.map y] 85 (0, 0)) → Calls Try.prog 126 #[.func (.func 145) #[] #[.pointer (some ⟨Bm, 0, none⟩)]] w' fun e w'' => ∃ ao cap, e = .returned (.slice ao xs.length cap) ∧ StrsAt (fun k => w'.heap.size ≤ k ∧ k < w''.heap.size) w'' ao (sortS xs) ∧ Chg (fun _ => False) w' w'' ∧ (ao = none → cap = 0)) := hid (by
    rcases h1'.here (t := 71) (e := 85) Try.underlying71 mZeroIn hr with ⟨b, xs, q1, q2, ⟨M, hM⟩, q4, q5, q6⟩ | ⟨q1, q2⟩
    · refine ⟨some b, xs, q5, hM.nd, fun w' hc => q6 w' hc.none, fun w' hc Bm hBm => ?_⟩
      have hM' := hM.keep hc id
      have hnm := hM'.names
      refine (callsIn_wide.1 (sorted_some Bm b xs.length M unitElem w' (lt_blk hBm) (cell_blk hBm 0) hM'.own (by unfold maxLen; omega) (by omega))).mono ?_
      rintro e w'' ⟨v, ss, rfl, hp, hrow, _, hb⟩
      exact sortedS_of (hp.trans hnm.1.symm) hrow hb hM.ok hM.nd
    · refine ⟨none, [], fun s => ⟨fun h => (by cases h), fun h => absurd h (q1 s)⟩, List.nodup_nil, fun w' hc => q2 w' hc.none, fun w' hc Bm hBm => ?_⟩
      refine (callsIn_wide.1 (sorted_nil Bm w' (lt_blk hBm) (cell_blk hBm 0))).mono ?_
      rintro e w'' ⟨v, ss, rfl, rfl, hrow, _, hb⟩
      exact sortedS_of (List.Perm.refl _) hrow hb (fun _ h => (by cases h)) List.nodup_nil)
  obtain ⟨y, xs, hxs, hnd, hl, hS⟩ := HS0.out
  have HB := hid (And.intro hxs hnd)
  have x0 := cell_blk h0' 0
  have x1 := cell_blk hb1 0
  have x2 := cell_blk hb1 1
  simp only [List.getElem?_toArray, List.getElem?_cons_zero, List.getElem?_cons_succ] at x0 x1 x2
  have HX := hid (And.intro x0 (And.intro x1 x2))
  have HL := hid hl
  have HS := hid hS
  have HC := hid hc1
  have HLO := hid hc1.size
  clear h0 h1 h0' h1' hl hS x0 x1 x2 hc1 hb1 HS0 hxs hnd
  go_enter Try.func102, Try.ntmps102
  go_wp2_with fail
  generalize (w.alloc (.cells #[.string ⟨r.1.toArray⟩, .string ⟨r.2.toArray⟩] 30)) = w1 at *
  obtain ⟨A, hAe⟩ : ∃ A, w.heap.size = A := ⟨_, rfl⟩
  obtain ⟨lo, hlo⟩ : ∃ lo, w.heap.size = lo := ⟨_, rfl⟩
  rw [hlo] at HLO
  have HLOE := hid hlo
  simp only [hAe] at HX ⊢
  clear hAe hlo
  refine wp_region_specs (pmemSpecs g A m lo r y xs) [7, 8, 9, 10, 11, 12, 13, 14, 4] [0, 3] (by kernel_rfl) (by kernel_rfl) (by rfl) (by kernel_rfl) ?start ?obs ?fin
  case start =>
    simp only [List.forall_mem_cons]; exact ⟨⟨_, rfl, rfl⟩, ⟨_, rfl, rfl⟩, fun _ h => by cases h⟩
  case obs =>
    clear HC HB
    refine Obs.cons none (by kernel_rfl) ?_ ?_
    · refine Ob.plain fun a w hR hk K k => ?_
      obtain ⟨_, e0, f0⟩ := hk 0 (by decide)
      clear hk
      go_simp
      exact k _ _ (Chg.refl _ _) f0
    refine Obs.cons none (by kernel_rfl) ?_ ?_
    · refine Ob.plain fun a w hR hk K k => ?_
      obtain ⟨_, e7, rfl⟩ := hk 7 (by decide)
      clear hk
      go_simp
      exact k _ _ (Chg.refl _ _) rfl
    refine Obs.cons none (by kernel_rfl) ?_ ?_
    · refine Ob.plain fun a w hR hk K k => ?_
      obtain ⟨_, e8, rfl⟩ := hk 8 (by decide)
      clear hk
      go_simp
      exact k _ _ (Chg.refl _ _) rfl
    refine Obs.cons none (by kernel_rfl) ?_ ?_
    · refine Ob.plain fun a w hR hk K k => ?_
      obtain ⟨_, e9, rfl⟩ := hk 9 (by decide)
      clear hk
      have zz := hR.cell HX.out.1 id
      go_simp
      exact k _ _ (Chg.refl _ _) rfl
    refine Obs.cons none (by kernel_rfl) ?_ ?_
    · refine Ob.plain fun a w hR hk K k => ?_
      obtain ⟨_, e3, rfl⟩ := hk 3 (by decide)
      clear hk
      have z0 := hR.cell HX.out.2.1 id
      have z1 := hR.cell HX.out.2.2 id
      go_simp
      exact k _ _ (Chg.refl _ _) rfl
    refine Obs.cons none (by kernel_rfl) ?_ ?_
    · refine Ob.plain fun a w hR hk K k => ?_
      obtain ⟨_, e10, rfl⟩ := hk 10 (by decide)
      obtain ⟨_, e11, rfl⟩ := hk 11 (by decide)
      clear hk
      have q := HL.out w hR
      go_simp
      exact k _ _ (Chg.refl _ _) rfl
    refine Obs.cons none (by kernel_rfl) ?_ ?_
    · refine Ob.plain fun a w hR hk K k => ?_
      obtain ⟨_, e12, rfl⟩ := hk 12 (by decide)
      clear hk
      have q := callsIn_wide.1 (Try.maps_Keys_m y w)
      go_simp
      refine q.mono ?_
      rintro e w5 ⟨rfl, rfl⟩
      exact k _ _ ((Chg.refl _ _).alloc _) ⟨w.heap.size, rfl, heap_alloc_new w _⟩
    refine Obs.cons none (by kernel_rfl) ?_ ?_
    · refine Ob.plain fun a w hR hk K k => ?_
      obtain ⟨_, e13, f13⟩ := hk 13 (by decide)
      clear hk
      obtain ⟨Bm, rfl, hb⟩ := f13
      have q := HS.out w hR Bm hb
      have HR := hid hR.size
      clear hR
      go_simp
      refine q.mono ?_
      rintro e w5 ⟨ao, cap, rfl, h2, h3, h4⟩
      exact k _ _ h3 ⟨ao, cap, rfl, h2.mono (fun i hi => ⟨Nat.le_trans (Nat.le_trans HLO.out HR.out) hi.1, hi.2⟩), h4⟩
    refine Obs.cons none (by kernel_rfl) ?_ ?_
    · refine Ob.plain fun a w hR hk K k => ?_
      obtain ⟨_, e14, f14⟩ := hk 14 (by decide)
      clear hk
      go_simp
      exact k _ _ (Chg.refl _ _) f14
    exact Obs.nil
  case fin =>
    intro vals w9 hc9 hv
    obtain ⟨ao, cap, h4, h5, h6⟩ := hv 4 (by decide)
    simp only [putAll, List.setIfInBounds_toArray, List.set_cons_zero, List.set_cons_succ, h4]
    have HC9 := hid (And.intro (HC.out.trans hc9 (fun _ _ h => h)) (And.intro h5 h6))
    clear hc9 hv h4 h5 h6 HC HX HL HS
    go_wp2
    go_ret
    refine ⟨xs, ao, cap, rfl, HB.out.1, HB.out.2, ?_, HC9.out.1, HC9.out.2.2⟩
    rw [HLOE.out]
    exact HC9.out.2.1
end Go.Proofs.Ytcdjjengkdbngaa

/- What taking a credential does to what leans and is linked: plain words; what take leaves. -/
namespace Go.Proofs.Ytcdjjengkdbngaa
open Go.RowKit Go.Maps

theorem leanR_in {T : List CredB} {c : CredB} (h : c ∈ T) (r : RoleB) (d : CredB) : leanR T r d ↔ leanR (T ++ [c]) r d := by
  unfold leanR
  rw [List.mem_append, List.mem_singleton]
  exact and_congr_left fun _ => ⟨.inl, fun e => e.elim id (fun e => e ▸ h)⟩
theorem linkR_in {T : List CredB} {c : CredB} (h : c ∈ T) (r : List UInt8) (d : CredB) : linkR T r d ↔ linkR (T ++ [c]) r d := by
  unfold linkR
  rw [List.mem_append, List.mem_singleton]
  exact and_congr_left fun _ => ⟨.inl, fun e => e.elim id (fun e => e ▸ h)⟩
theorem leanR_one {T : List CredB} {c : CredB} (hk : c.kind = 1) (r : RoleB) (d : CredB) : leanR T r d ↔ leanR (T ++ [c]) r d := by
  unfold leanR
  rw [List.mem_append, List.mem_singleton]
  exact ⟨fun ⟨h, k⟩ => ⟨.inl h, k⟩, fun ⟨h, k⟩ => ⟨h.elim id (fun e => absurd (e ▸ hk) k.2.1), k⟩⟩
theorem linkR_not {T : List CredB} {c : CredB} (hk : c.kind ≠ 3) (r : List UInt8) (d : CredB) : linkR T r d ↔ linkR (T ++ [c]) r d := by
  unfold linkR
  rw [List.mem_append, List.mem_singleton]
  exact ⟨fun ⟨h, k⟩ => ⟨.inl h, k⟩, fun ⟨h, k⟩ => ⟨h.elim id (fun e => absurd (e ▸ k.2.1) hk), k⟩⟩
theorem leanR_new {T : List CredB} {c : CredB} (hc : isCred c = true) (hk : c.kind ≠ 1) (hk4 : c.kind ≠ 4) (r : RoleB) (d : CredB) : (leanR T r d ∨ (r = c.b ∧ d = c)) ↔ leanR (T ++ [c]) r d := by
  unfold leanR
  rw [List.mem_append, List.mem_singleton]
  constructor
  · rintro (⟨h, k⟩ | ⟨rfl, rfl⟩)
    · exact ⟨.inl h, k⟩
    · exact ⟨.inr rfl, hc, hk, .inl rfl⟩
  · rintro ⟨h | rfl, k⟩
    · exact .inl ⟨h, k⟩
    · rcases k.2.2 with e | e
      · exact .inr ⟨e.symm, rfl⟩
      · exact absurd e.1 hk4
theorem leanR_both {T : List CredB} {c : CredB} (hc : isCred c = true) (hk4 : c.kind = 4) (r : RoleB) (d : CredB) : ((leanR T r d ∨ (r = c.c ∧ d = c)) ∨ (r = c.b ∧ d = c)) ↔ leanR (T ++ [c]) r d := by
  unfold leanR
  rw [List.mem_append, List.mem_singleton]
  constructor
  · rintro ((⟨h, k⟩ | ⟨rfl, rfl⟩) | ⟨rfl, rfl⟩)
    · exact ⟨.inl h, k⟩
    · exact ⟨.inr rfl, hc, by omega, .inr ⟨hk4, rfl⟩⟩
    · exact ⟨.inr rfl, hc, by omega, .inl rfl⟩
  · rintro ⟨h | rfl, k⟩
    · exact .inl (.inl ⟨h, k⟩)
    · rcases k.2.2 with e | e
      · exact .inr ⟨e.symm, rfl⟩
      · exact .inl (.inr ⟨e.2.symm, rfl⟩)
theorem linkR_new {T : List CredB} {c : CredB} (hc : isCred c = true) (hk : c.kind = 3) (r : List UInt8) (d : CredB) : (linkR T r d ∨ (r = c.w2 ∧ d = c)) ↔ linkR (T ++ [c]) r d := by
  unfold linkR
  rw [List.mem_append, List.mem_singleton]
  constructor
  · rintro (⟨h, k⟩ | ⟨rfl, rfl⟩)
    · exact ⟨.inl h, k⟩
    · exact ⟨.inr rfl, hc, hk, rfl⟩
  · rintro ⟨h | rfl, k⟩
    · exact .inl ⟨h, k⟩
    · exact .inr ⟨k.2.2.symm, rfl⟩

theorem both_ne {c : CredB} (hc : isCred c = true) (hk : c.kind = 4) : c.b ≠ c.c := fun e => by
  unfold isCred at hc
  simp [hk] at hc
  have := hc.2.2.2.2
  rw [e, ltR_ord.irrefl] at this
  cases this

/-- What take leaves. -/
def TakePost (ls : List CredB) (O : Nat → Prop) (g : Nat) (F : List FactB) (T : List CredB) (c : CredB) (w : World) (e : Ending) (w' : World) : Prop :=
  ∃ v cs, ∃ K' O' : Nat → Prop, e = .returned v ∧ Came w.heap.size O' w' v cs ∧ MS K' O' w' g (F ++ cs) (2 * (T ++ [c]).length) (leanR (T ++ [c])) (T ++ [c]).length (linkR (T ++ [c])) ∧ Grew O O' w ∧ Chg O w w' ∧ (F ++ cs).Nodup ∧ (∀ f ∈ F ++ cs, Der ls f) ∧ (c ∉ T → TakenF F (F ++ cs) c)

theorem TakePost.nil {ls : List CredB} {O Ka Oa : Nat → Prop} {g : Nat} {F : List FactB} {T : List CredB} {c : CredB} {w w' : World} {n2 n3 : Nat} {R2 : RoleB → CredB → Prop} {R3 : List UInt8 → CredB → Prop} (h : MS Ka Oa w' g F n2 R2 n3 R3) (h2 : ∀ r d, R2 r d ↔ leanR (T ++ [c]) r d) (h3 : ∀ r d, R3 r d ↔ linkR (T ++ [c]) r d) (e2 : n2 ≤ 2 * (T ++ [c]).length) (e3 : n3 ≤ (T ++ [c]).length)
    (hg : Grew O Oa w) (hc : Chg O w w') (hnd : F.Nodup) (hF : ∀ f ∈ F, Der ls f) (hT : c ∈ T) : TakePost ls O g F T c w (.returned (.slice none 0 0)) w' :=
  ⟨_, [], Ka, Oa, rfl, Came.nil _ _ _, by rw [List.append_nil]; exact h.cong h2 h3 e2 e3, hg, hc, by rwa [List.append_nil], by rwa [List.append_nil], fun h => absurd hT h⟩

theorem GrowI.taken {ls : List CredB} {O Ka Oa O1 : Nat → Prop} {g : Nat} {F : List FactB} {T : List CredB} {c : CredB} {w wa w' : World} {n2 n3 : Nat} {R2 : RoleB → CredB → Prop} {R3 : List UInt8 → CredB → Prop} {v : Value} {cs : List FactB} (h : GrowI ls Ka Oa g F n2 R2 n3 R3 wa w' v cs O1) (h2 : ∀ r d, R2 r d ↔ leanR (T ++ [c]) r d) (h3 : ∀ r d, R3 r d ↔ linkR (T ++ [c]) r d) (e2 : n2 ≤ 2 * (T ++ [c]).length) (e3 : n3 ≤ (T ++ [c]).length)
    (hg : Grew O Oa w) (hc : Chg O w wa) (hT : c ∉ T → TakenF F (F ++ cs) c) : TakePost ls O g F T c w (.returned v) w' :=
  ⟨_, cs, Ka, O1, rfl, h.came.low hc.size, h.ms.cong h2 h3 e2 e3, hg.trans h.grew hc.size, hc.step hg h.chg.up, h.nd, h.der, hT⟩
end Go.Proofs.Ytcdjjengkdbngaa
