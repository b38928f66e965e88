import Derived.Test.YteoebmpfdcbbmacDoorRB
import Derived.Test.YteoebmpfdcbbmacDoorCards
import Derived.Test.YteoebmpfdcbbmacDoorTie
import Derived.Deep.Slices
import Derived.Deep.Strs
import Derived.SizedLaws
import Derived.Deep.DeepHandedRow
import Derived.Lib.LaidTab
import Derived.Stop.LaidErr
import Derived.Deep.CondSized
import Derived.Test.YteoebmpfdcbbmacDoorRK
import Derived.Great.BuildSlice
import Derived.Test.YteoebmpfdcbbmacDoorVLG
import Derived.Deep.AppendLies
import Derived.Deep.RegionLaw
import Derived.Deep.RegionHeldLaw
import Derived.Deep.RegionHeld
namespace Go.Proofs.YteoebmpfdcbbmacDoor
open Go.ChangeShapes Go.WideShapes Go.ChangeAt Go.RowKit Jn N
set_option maxRecDepth 100000

theorem own : ownKnob Tryd.prog.godebug = none := by kernel_rfl
theorem laidOut : laidOutB Tryd.prog = true := by kernel_rfl
theorem gN : Tryd.prog.globalNamed "weft/journal.nibbles" = some 0 := by kernel_rfl
theorem gNType : (Tryd.prog.globals[0]?).map (·.type) = some 119 := by kernel_rfl
theorem uN : Tryd.prog.underlying 119 = some (.array 16 67) := by kernel_rfl
theorem cellsN : Tryd.prog.cellsOf 119 = 16 := by kernel_rfl
theorem cells1N : Tryd.prog.cellsOf 67 = 1 := by kernel_rfl
theorem uU : Tryd.prog.underlying 67 = some (.int .u32) := by kernel_rfl
theorem uI : Tryd.prog.underlying 3 = some (.int .i64) := by kernel_rfl
theorem u5 : Tryd.prog.underlying 5 = some (.int .u8) := by kernel_rfl
theorem uB8 : Tryd.prog.underlying 22 = some (.slice 5) := by kernel_rfl
theorem cell1_5 : Tryd.prog.cellsOf 5 = 1 := by kernel_rfl
theorem bytes5 : Tryd.prog.bytesOf 5 = 1 := by kernel_rfl

theorem wf_u8 {a : Int} (h : (Lit.int .u8 a).wf = true) : ∃ n : Nat, a = (n : Int) ∧ n < 256 := by
  have h' : (decide (IntKind.u8.min ≤ a) && decide (a ≤ IntKind.u8.max)) = true := h
  rw [show IntKind.u8.min = 0 from by decide +kernel, show IntKind.u8.max = 255 from by decide +kernel] at h'
  simp at h'
  exact ⟨a.toNat, by omega, by omega⟩
theorem wf_u16 {a : Int} (h : (Lit.int .u16 a).wf = true) : ∃ n : Nat, a = (n : Int) ∧ n < 65536 := by
  have h' : (decide (IntKind.u16.min ≤ a) && decide (a ≤ IntKind.u16.max)) = true := h
  rw [show IntKind.u16.min = 0 from by decide +kernel, show IntKind.u16.max = 65535 from by decide +kernel] at h'
  simp at h'
  exact ⟨a.toNat, by omega, by omega⟩
theorem wf_u32 {a : Int} (h : (Lit.int .u32 a).wf = true) : ∃ n : Nat, a = (n : Int) ∧ n < 4294967296 := by
  have h' : (decide (IntKind.u32.min ≤ a) && decide (a ≤ IntKind.u32.max)) = true := h
  rw [show IntKind.u32.min = 0 from by decide +kernel, show IntKind.u32.max = 4294967295 from by decide +kernel] at h'
  simp at h'
  exact ⟨a.toNat, by omega, by omega⟩
theorem wf_i64 {a : Int} (h : (Lit.int .i64 a).wf = true) : -9223372036854775808 ≤ a ∧ a ≤ 9223372036854775807 := by
  have h' : (decide (IntKind.i64.min ≤ a) && decide (a ≤ IntKind.i64.max)) = true := h
  rw [show IntKind.i64.min = -9223372036854775808 from by decide +kernel, show IntKind.i64.max = 9223372036854775807 from by decide +kernel] at h'
  simpa using h'

theorem spot_none {W : World} {a : Addr} {v : Value} (z0 : W.cell? a = some v) : ∃ g off, a = ⟨g, off, none⟩ ∧ g < W.heap.size := by
  have hlt := World.block_lt_of_cell? W a z0
  obtain ⟨g, off, sp⟩ := a
  cases sp with
  | none => exact ⟨g, off, rfl, hlt⟩
  | some s =>
    exfalso
    simp only [World.cell?] at z0
    split at z0 <;> simp at z0

theorem bulk_one {H : Type} (d : DataW H) : 1 ≤ Rows.uptoBulk d := by
  cases d with
  | lit l => cases l <;> simp [Rows.uptoBulk]
  | nil => simp [Rows.uptoBulk]
  | ptr d => simp [Rows.uptoBulk]
  | slice elems spare => simp [Rows.uptoBulk]
  | agg parts => simp [Rows.uptoBulk]
  | iface t d => simp [Rows.uptoBulk]
  | map entries => simp [Rows.uptoBulk]
  | held h => simp [Rows.uptoBulk]

theorem bulk_part {H : Type} {d : DataW H} {l : List (DataW H)} (h : d ∈ l) : Rows.uptoBulk d ≤ Rows.uptoBulkAll l := by
  induction l with
  | nil => cases h
  | cons x r ih =>
    simp only [Rows.uptoBulkAll]
    rcases List.mem_cons.1 h with rfl | h
    · omega
    · have := ih h; omega

theorem bulk_len {H : Type} (l : List (DataW H)) : l.length ≤ Rows.uptoBulkAll l := by
  induction l with
  | nil => simp
  | cons x r ih => have := bulk_one x; simp only [Rows.uptoBulkAll, List.length_cons]; omega

theorem bulk_flat {H : Type} (D : Nat → DataW H) (F : Nat → List Nat) (l : List Nat) (h : ∀ i ∈ l, (F i).length ≤ Rows.uptoBulk (D i)) : (l.map F).flatten.length ≤ Rows.uptoBulkAll (l.map D) := by
  induction l with
  | nil => simp
  | cons x r ih =>
    have h1 := h x List.mem_cons_self
    have h2 := ih (fun i hi => h i (List.mem_cons_of_mem _ hi))
    simp only [List.map_cons, List.flatten_cons, List.length_append, Rows.uptoBulkAll]
    omega

theorem weights_all {H : Type} {P : Program} {e : TypeId} : ∀ {ds : List (DataW H)} {d : DataW H}, d ∈ ds → ∀ n ∈ d.weights P e, n ∈ DataW.weightsAll P e ds
  | a :: t, d, hd, n, hn => by
    simp only [DataW.weightsAll, List.mem_append]
    rcases List.mem_cons.1 hd with rfl | h
    · exact .inl hn
    · exact .inr (weights_all h n hn)

section
variable {H : Type} {enc : TypeId × Value → H} {W : World}

/-- How long a list is, against what was read of it. -/
structure Fits (x : DataW H) (t : TypeId) (n : Nat) : Prop where
  bulk : n ≤ Rows.uptoBulk x
  room : (∀ k ∈ x.weights Tryd.prog t, k ≤ reachBytes) → n ≤ reachBytes

/-- A list of bytes that came in, within another thing. -/
theorem open_bytes {fuel : Nat} {cs : List Value} {x : DataW H × List MemPlace} (hf : DataW.trod enc Tryd.prog W 0 (fun _ => true) true fuel 22 cs = some x) :
    ∃ v L, cs = [v] ∧ SeesB W v L ∧ Fits x.1 22 L.length ∧ v.oneCell' = true := by
  rcases Go.Deep.open_slice uB8 hf with ⟨h1, hx⟩ | ⟨a, len, cap, m, n, D, Pl, h1, _, hlc, hcm, hm, hxx, hx⟩
  · subst hx
    exact ⟨_, [], h1, sees_nil W, ⟨by simp, fun _ => by simp⟩, rfl⟩
  · simp at hm
    subst hm
    have key : ∀ i, i < len → ∃ y : Nat, y < 256 ∧ W.cell? (a.add i) = some (.int .u8 (y : Int)) := by
      intro i hi
      obtain ⟨cs', k1, k2⟩ := hx i (by omega)
      rw [cell1_5, Nat.mul_one] at k1
      obtain ⟨_, _, hc⟩ := World.cells?_some k1
      obtain ⟨z, e1, _, wf⟩ := DataW.trod_int u5 k2
      obtain ⟨y, rfl, hy⟩ := wf_u8 wf
      refine ⟨y, hy, ?_⟩
      have := hc 0 (by omega)
      rw [e1] at this
      simpa [Addr.add] using this
    have hch : ∃ F : Nat → Nat, ∀ i, i < len → F i < 256 ∧ W.cell? (a.add i) = some (.int .u8 ((F i : Nat) : Int)) := by
      refine ⟨fun i => if h : i < len then (key i h).choose else 0, fun i hi => ?_⟩
      simp only [dif_pos hi]
      exact (key i hi).choose_spec
    obtain ⟨F, hF⟩ := hch
    refine ⟨_, (List.range len).map F, h1, ⟨some a, m, by simp, ⟨by simpa using hlc, fun h => by cases h⟩, hcm, fun j hj => ?_⟩, ?_, rfl⟩
    · have hj' : j < len := by simpa using hj
      obtain ⟨g, off, rfl, hg⟩ : ∃ g off, a = ⟨g, off, none⟩ ∧ g < W.heap.size := by
        have z0 := (hF 0 (by omega)).2
        have e : a.add 0 = a := by simp [Addr.add]
        rw [e] at z0
        exact spot_none z0
      have y0 := (hF j hj').2
      rw [Addr.add_mid] at y0
      exact ⟨g, off, rfl, hg, by rw [y0]; simp, by simpa using (hF j hj').1⟩
    · subst hxx
      refine ⟨?_, fun hw => ?_⟩
      · simp only [List.length_map, List.length_range, Rows.uptoBulk]
        have := bulk_len ((List.range len).map D)
        simp only [List.length_map, List.length_range] at this
        omega
      · have := hw ((((List.range len).map D).length + ((List.range (m - len)).map fun j => D (len + j)).length) * Tryd.prog.bytesOf 5) (by simp [DataW.weights])
        rw [bytes5] at this
        simp only [List.length_map, List.length_range] at this ⊢
        omega

end

theorem tabN {W : World} (h : laidMet Tryd.prog [("weft/journal.nibbles", Rows.laid_weft_journal_nibbles)] W) : TabN W := by
  obtain ⟨ps, ⟨g, t, cs, fuel, p, q, hg, ht, hvar, hd, _, _⟩, _⟩ := h
  obtain rfl := Option.some.inj (gN.symm.trans hg)
  obtain rfl := Option.some.inj (gNType.symm.trans ht)
  obtain ⟨xs, m, _, hx, hl, hxl, hall⟩ := DataW.trod_array uN hd
  rw [cellsN] at hl
  rw [cells1N] at hall
  unfold Rows.laid_weft_journal_nibbles at hx
  match xs, hxl with
  | [(d0, q0), (d1, q1), (d2, q2), (d3, q3), (d4, q4), (d5, q5), (d6, q6), (d7, q7), (d8, q8), (d9, q9), (d10, q10), (d11, q11), (d12, q12), (d13, q13), (d14, q14), (d15, q15)], _ =>
    simp at hx
    obtain ⟨⟨rfl, rfl, rfl, rfl, rfl, rfl, rfl, rfl, rfl, rfl, rfl, rfl, rfl, rfl, rfl, rfl⟩, _⟩ := hx
    obtain ⟨z0, r0, e0, _⟩ := DataW.trod_int uU (hall 0 (by omega))
    obtain ⟨z1, r1, e1, _⟩ := DataW.trod_int uU (hall 1 (by omega))
    obtain ⟨z2, r2, e2, _⟩ := DataW.trod_int uU (hall 2 (by omega))
    obtain ⟨z3, r3, e3, _⟩ := DataW.trod_int uU (hall 3 (by omega))
    obtain ⟨z4, r4, e4, _⟩ := DataW.trod_int uU (hall 4 (by omega))
    obtain ⟨z5, r5, e5, _⟩ := DataW.trod_int uU (hall 5 (by omega))
    obtain ⟨z6, r6, e6, _⟩ := DataW.trod_int uU (hall 6 (by omega))
    obtain ⟨z7, r7, e7, _⟩ := DataW.trod_int uU (hall 7 (by omega))
    obtain ⟨z8, r8, e8, _⟩ := DataW.trod_int uU (hall 8 (by omega))
    obtain ⟨z9, r9, e9, _⟩ := DataW.trod_int uU (hall 9 (by omega))
    obtain ⟨z10, r10, e10, _⟩ := DataW.trod_int uU (hall 10 (by omega))
    obtain ⟨z11, r11, e11, _⟩ := DataW.trod_int uU (hall 11 (by omega))
    obtain ⟨z12, r12, e12, _⟩ := DataW.trod_int uU (hall 12 (by omega))
    obtain ⟨z13, r13, e13, _⟩ := DataW.trod_int uU (hall 13 (by omega))
    obtain ⟨z14, r14, e14, _⟩ := DataW.trod_int uU (hall 14 (by omega))
    obtain ⟨z15, r15, e15, _⟩ := DataW.trod_int uU (hall 15 (by omega))
    simp at e0 e1 e2 e3 e4 e5 e6 e7 e8 e9 e10 e11 e12 e13 e14 e15
    obtain ⟨rfl, -⟩ := e0
    obtain ⟨rfl, -⟩ := e1
    obtain ⟨rfl, -⟩ := e2
    obtain ⟨rfl, -⟩ := e3
    obtain ⟨rfl, -⟩ := e4
    obtain ⟨rfl, -⟩ := e5
    obtain ⟨rfl, -⟩ := e6
    obtain ⟨rfl, -⟩ := e7
    obtain ⟨rfl, -⟩ := e8
    obtain ⟨rfl, -⟩ := e9
    obtain ⟨rfl, -⟩ := e10
    obtain ⟨rfl, -⟩ := e11
    obtain ⟨rfl, -⟩ := e12
    obtain ⟨rfl, -⟩ := e13
    obtain ⟨rfl, -⟩ := e14
    obtain ⟨rfl, -⟩ := e15
    have hcs : cs.toList = (List.range 16).map fun j => Value.int .u32 ((tab j : Nat) : Int) := by
      match hc : cs.toList, hl with
      | [c0, c1, c2, c3, c4, c5, c6, c7, c8, c9, c10, c11, c12, c13, c14, c15], _ =>
        rw [hc] at r0 r1 r2 r3 r4 r5 r6 r7 r8 r9 r10 r11 r12 r13 r14 r15
        simp at r0 r1 r2 r3 r4 r5 r6 r7 r8 r9 r10 r11 r12 r13 r14 r15
        subst r0 r1 r2 r3 r4 r5 r6 r7 r8 r9 r10 r11 r12 r13 r14 r15
        rfl
    have hcell : ∀ j, j < 16 → W.cell? ⟨0, j, none⟩ = some (.int .u32 ((tab j : Nat) : Int)) := by
      intro j hj
      rw [World.var?_cell gN hvar j, ← Array.getElem?_toList, hcs, List.getElem?_map, List.getElem?_range hj]
      rfl
    exact ⟨hcell, World.block_lt_of_cell? W _ (hcell 0 (by omega))⟩

/-- The cells of a table of numbers. -/
def aggCells : DataW Unit → Array Value
  | .agg ds => (ds.map fun d => match d with | .lit (.int k z) => Value.int k z | _ => .bool false).toArray
  | _ => #[]
def put (d : DataW Unit) : Obj → Obj
  | .cells _ t frozen => .cells (aggCells d) t frozen
  | o => o
/-- A world for the witness: the settled one, the table holding what its initialiser lays. -/
noncomputable def laidWorld (os : Os) : World :=
  { World.holding Tryd.prog os ⟨#[], #[], []⟩ with heap := (World.holding Tryd.prog os ⟨#[], #[], []⟩).heap.modify 0 (put Rows.laid_weft_journal_nibbles) }
end Go.Proofs.YteoebmpfdcbbmacDoor

namespace Go.Proofs.YteoebmpfdcbbmacDoor
open Go.ChangeShapes Go.WideShapes Go.ChangeAt Go.RowKit Jn N
set_option maxRecDepth 100000

theorem cell1_B : Tryd.prog.cellsOf 22 = 1 := by kernel_rfl
section
variable {H : Type} {enc : TypeId × Value → H} {W : World}
theorem open_bss {fuel : Nat} {cs : List Value} {x : DataW H × List MemPlace} (hf : DataW.trod enc Tryd.prog W 0 (fun _ => true) true fuel 38 cs = some x) (hw : ∀ k ∈ x.1.weights Tryd.prog 38, k ≤ reachBytes) :
    ∃ v Ls, cs = [v] ∧ SeesBB W v Ls ∧ ∀ L ∈ Ls, L.length ≤ 140737488355328 := by
  rcases Go.Deep.open_slice1 uBB cell1_B hf with ⟨h1, hx⟩ | ⟨a, len, cap, m, n, V, D, Pl, h1, _, hlc, hcm, hm, hxx, hx⟩
  · exact ⟨_, [], h1, ⟨none, 0, rfl, by simp, by unfold maxLen; omega, fun j hj => absurd hj (by simp)⟩, fun L hL => by cases hL⟩
  · simp at hm
    subst hm
    subst hxx
    have key : ∀ i, i < len → ∃ L : List Nat, W.cell? (a.add i) = some (V i) ∧ SeesB W (V i) L ∧ L.length ≤ 140737488355328 := by
      intro i hi
      obtain ⟨k1, k2⟩ := hx i (by omega)
      obtain ⟨v, L, e, hs, hft, -⟩ := open_bytes k2
      simp at e
      subst e
      refine ⟨L, k1, hs, ?_⟩
      have := hft.room (fun k hk => hw k (by
        simp only [DataW.weights, uBB, List.mem_cons, List.mem_append]
        exact .inr (.inl (weights_all (d := D i) (List.mem_map.2 ⟨i, by simpa using hi, rfl⟩) k hk))))
      unfold reachBytes at this
      omega
    by_cases h0 : len = 0
    · subst h0
      exact ⟨_, [], h1, ⟨some a, m, rfl, by simp, hcm, fun j hj => absurd hj (by simp)⟩, fun L hL => by cases hL⟩
    obtain ⟨F, hF⟩ : ∃ F : Nat → List Nat, ∀ i, i < len → W.cell? (a.add i) = some (V i) ∧ SeesB W (V i) (F i) ∧ (F i).length ≤ 140737488355328 := by
      refine ⟨fun i => if h : i < len then (key i h).choose else [], fun i hi => ?_⟩
      simp only [dif_pos hi]
      exact (key i hi).choose_spec
    obtain ⟨g, off, rfl, hg⟩ : ∃ g off, a = ⟨g, off, none⟩ ∧ g < W.heap.size := by
      have z0 := (hF 0 (by omega)).1
      have e : a.add 0 = a := by simp [Addr.add]
      rw [e] at z0
      exact spot_none z0
    refine ⟨_, (List.range len).map F, h1, ⟨some ⟨g, off, none⟩, m, by simp, by simpa using hlc, hcm, fun j hj => ?_⟩, fun L hL => ?_⟩
    · have hj' : j < len := by simpa using hj
      obtain ⟨y0, y1, -⟩ := hF j hj'
      rw [Addr.add_mid] at y0
      exact ⟨g, off, _, rfl, hg, y0, by simpa using y1⟩
    · obtain ⟨i, hi, rfl⟩ := List.mem_map.1 hL
      exact (hF i (by simpa using hi)).2.2
end
end Go.Proofs.YteoebmpfdcbbmacDoor

namespace Go.Proofs.YteoebmpfdcbbmacDoor
open Go.ChangeShapes Go.WideShapes Go.ChangeAt Go.RowKit Jn N
set_option maxRecDepth 100000

theorem bytesB : Tryd.prog.bytesOf 22 = 24 := by kernel_rfl
section
variable {H : Type} {enc : TypeId × Value → H} {W : World}
theorem open_bssL {fuel : Nat} {cs : List Value} {x : DataW H × List MemPlace} (hf : DataW.trod enc Tryd.prog W 0 (fun _ => true) true fuel 38 cs = some x) (hw : ∀ k ∈ x.1.weights Tryd.prog 38, k ≤ reachBytes) :
    ∃ v Ls, cs = [v] ∧ SeesBB W v Ls ∧ (∀ L ∈ Ls, L.length ≤ 140737488355328) ∧ Ls.length ≤ 8796093022208 := by
  rcases Go.Deep.open_slice1 uBB cell1_B hf with ⟨h1, hx⟩ | ⟨a, len, cap, m, n, V, D, Pl, h1, _, hlc, hcm, hm, hxx, hx⟩
  · exact ⟨_, [], h1, ⟨none, 0, rfl, by simp, by unfold maxLen; omega, fun j hj => absurd hj (by simp)⟩, fun L hL => (by cases hL), by simp⟩
  · simp at hm
    subst hm
    subst hxx
    have key : ∀ i, i < len → ∃ L : List Nat, W.cell? (a.add i) = some (V i) ∧ SeesB W (V i) L ∧ L.length ≤ 140737488355328 := by
      intro i hi
      obtain ⟨k1, k2⟩ := hx i (by omega)
      obtain ⟨v, L, e, hs, hft, -⟩ := open_bytes k2
      simp at e
      subst e
      refine ⟨L, k1, hs, ?_⟩
      have := hft.room (fun k hk => hw k (by
        simp only [DataW.weights, uBB, List.mem_cons, List.mem_append]
        exact .inr (.inl (weights_all (d := D i) (List.mem_map.2 ⟨i, by simpa using hi, rfl⟩) k hk))))
      unfold reachBytes at this
      omega
    by_cases h0 : len = 0
    · subst h0
      exact ⟨_, [], h1, ⟨some a, m, rfl, by simp, hcm, fun j hj => absurd hj (by simp)⟩, fun L hL => (by cases hL), by simp⟩
    obtain ⟨F, hF⟩ : ∃ F : Nat → List Nat, ∀ i, i < len → W.cell? (a.add i) = some (V i) ∧ SeesB W (V i) (F i) ∧ (F i).length ≤ 140737488355328 := by
      refine ⟨fun i => if h : i < len then (key i h).choose else [], fun i hi => ?_⟩
      simp only [dif_pos hi]
      exact (key i hi).choose_spec
    obtain ⟨g, off, rfl, hg⟩ : ∃ g off, a = ⟨g, off, none⟩ ∧ g < W.heap.size := by
      have z0 := (hF 0 (by omega)).1
      have e : a.add 0 = a := by simp [Addr.add]
      rw [e] at z0
      exact spot_none z0
    refine ⟨_, (List.range len).map F, h1, ⟨some ⟨g, off, none⟩, m, by simp, by simpa using hlc, hcm, fun j hj => ?_⟩, fun L hL => ?_, ?_⟩
    · have hj' : j < len := by simpa using hj
      obtain ⟨y0, y1, -⟩ := hF j hj'
      rw [Addr.add_mid] at y0
      exact ⟨g, off, _, rfl, hg, y0, by simpa using y1⟩
    · obtain ⟨i, hi, rfl⟩ := List.mem_map.1 hL
      exact (hF i (by simpa using hi)).2.2
    · have := hw ((((List.range len).map D).length + ((List.range (m - len)).map fun j => D (len + j)).length) * Tryd.prog.bytesOf 22) (by simp [DataW.weights])
      rw [bytesB] at this
      simp only [List.length_map, List.length_range] at this ⊢
      unfold reachBytes at this
      omega
end
end Go.Proofs.YteoebmpfdcbbmacDoor

namespace Go.Proofs.YteoebmpfdcbbmacDoor
open Go.ChangeShapes Go.WideShapes Go.ChangeAt Go.RowKit Jn N
set_option maxHeartbeats 1000000
set_option maxRecDepth 100000

/-- A step. -/
structure Opn where
  k : Int
  v : Value
  r : List Nat
  vs : Value
  rs : List (List Nat)
  z : Int
def Opn.cells (q : Opn) : Array Value := #[.int .i64 q.k, q.v, q.vs, .int .i64 q.z]
structure Opn.Ok (w : World) (q : Opn) : Prop where
  v : SeesB w q.v q.r
  vs : SeesBB w q.vs q.rs
  lr : q.r.length ≤ 140737488355328
  ls : ∀ L ∈ q.rs, L.length ≤ 140737488355328
  ln : q.rs.length ≤ 8796093022208
  z : -9223372036854775808 ≤ q.z ∧ q.z < 9223372036854775808
def SeesO (w : World) (v : Value) (S : List Opn) : Prop :=
  ∃ ao cap, v = .slice ao S.length cap ∧ S.length ≤ cap ∧ cap ≤ maxLen ∧
    ∀ j (h : j < S.length), ∃ g off, ao = some ⟨g, off, none⟩ ∧ g < w.heap.size ∧ w.cell? ⟨g, off + j * 4, none⟩ = some (.int .i64 S[j].k) ∧ w.cell? ⟨g, off + j * 4 + 1, none⟩ = some S[j].v ∧ w.cell? ⟨g, off + j * 4 + 2, none⟩ = some S[j].vs ∧ w.cell? ⟨g, off + j * 4 + 3, none⟩ = some (.int .i64 S[j].z)
theorem cellsOp : Tryd.prog.cellsOf 40 = 4 := by kernel_rfl
theorem cellsInt : Tryd.prog.cellsOf 3 = 1 := by kernel_rfl
theorem cellsBs : Tryd.prog.cellsOf 22 = 1 := by kernel_rfl
theorem cellsBB : Tryd.prog.cellsOf 38 = 1 := by kernel_rfl
theorem bytesOp : Tryd.prog.bytesOf 40 = 64 := by kernel_rfl
theorem i64_wf {a : Int} (h : (Lit.int .i64 a).wf = true) : -9223372036854775808 ≤ a ∧ a < 9223372036854775808 := by
  have h' : (decide (IntKind.i64.min ≤ a) && decide (a ≤ IntKind.i64.max)) = true := h
  rw [show IntKind.i64.min = -9223372036854775808 from by decide +kernel, show IntKind.i64.max = 9223372036854775807 from by decide +kernel] at h'
  simp at h'
  omega
theorem add_plain (g off i : Nat) : (⟨g, off, none⟩ : Addr).add i = ⟨g, off + i, none⟩ := by simp [Addr.add]

section
variable {H : Type} {enc : TypeId × Value → H} {W : World}
theorem open_op {fuel : Nat} {cs : List Value} {x : DataW H × List MemPlace} (h : DataW.trod enc Tryd.prog W 0 (fun _ => true) true fuel 40 cs = some x) (hw : ∀ k ∈ x.1.weights Tryd.prog 40, k ≤ reachBytes) :
    ∃ q : Opn, q.Ok W ∧ cs = q.cells.toList := by
  obtain ⟨xs, n, _, rfl, hl, hxl, hff⟩ := DataW.trod_struct Tryd.underlying40 h
  rw [cellsOp] at hl
  match xs, hxl, cs, hl with
  | [y0, y1, y2, y3], _, [v0, v1, v2, v3], _ =>
    have g0 := hff 0 _ rfl
    have g1 := hff 1 _ rfl
    have g2 := hff 2 _ rfl
    have g3 := hff 3 _ rfl
    simp [cellsInt, cellsBs, cellsBB] at g0 g1 g2 g3
    obtain ⟨n0, e0, _, w0⟩ := DataW.trod_int Tryd.underlying3 g0
    obtain ⟨n3, e3, _, w3⟩ := DataW.trod_int Tryd.underlying3 g3
    obtain ⟨b1, L1, e1, hs1, hf1, _⟩ := open_bytes g1
    obtain ⟨b2, L2, e2, hs2, hl2, hn2⟩ := open_bssL g2 (fun k hk => hw k (by
      simp only [DataW.weights, Tryd.underlying40]
      exact DataW.weights_mem_each (j := 2) (t := 38) (d := y2.1) (by simp) rfl _ hk))
    have hr := hf1.room (fun k hk => hw k (by
      simp only [DataW.weights, Tryd.underlying40]
      exact DataW.weights_mem_each (j := 1) (t := 22) (d := y1.1) (by simp) rfl _ hk))
    unfold reachBytes at hr
    simp at e0 e1 e2 e3
    subst e0 e1 e2 e3
    exact ⟨⟨n0, v1, L1, v2, L2, n3⟩, ⟨hs1, hs2, by show L1.length ≤ _; omega, hl2, hn2, i64_wf w3⟩, rfl⟩

theorem open_os {base : Nat} {v : Value} {d : DataW H} {ps : List MemPlace} (hval : Value.okWide Tryd.prog W .any base 25 v) (h : DataW.Trod enc Tryd.prog W 0 (fun _ => true) true 25 v d ps) (hw : ∀ x ∈ d.weights Tryd.prog 25, x ≤ reachBytes) :
    ∃ S : List Opn, SeesO W v S ∧ (∀ q ∈ S, q.Ok W) ∧ S.length * 64 ≤ 140737488351232 := by
  obtain ⟨a0, len, cap, rfl⟩ := okWide_slice Tryd.underlying25 hval
  obtain ⟨fuel, hf⟩ := h
  rcases Go.Deep.open_slice Tryd.underlying25 hf with ⟨h1, _⟩ | ⟨a, len', cap', m, n, D, Pl, h1, _, hlc, hcm, hm, hxx, hx⟩
  · simp [Value.cells] at h1
    obtain ⟨rfl, rfl, rfl⟩ := h1
    exact ⟨[], ⟨none, 0, rfl, by simp, by unfold maxLen; omega, fun j hj => absurd hj (by simp)⟩, (fun o ho => by cases ho), by simp⟩
  · simp [Value.cells] at h1
    obtain ⟨rfl, rfl, rfl⟩ := h1
    simp at hm
    subst hm
    simp only [Prod.mk.injEq] at hxx
    obtain ⟨rfl, _⟩ := hxx
    have hbig : len * 64 ≤ 140737488351232 := by
      have := hw ((((List.range len).map D).length + ((List.range (m - len)).map fun j => D (len + j)).length) * Tryd.prog.bytesOf 40) (by simp [DataW.weights, Tryd.underlying25])
      rw [bytesOp] at this
      simp only [List.length_map, List.length_range] at this
      unfold reachBytes at this
      omega
    have key : ∀ i, i < len → ∃ q : Opn, q.Ok W ∧ ∀ j (hj : j < 4), W.cell? ((a.add (i * 4)).add j) = q.cells[j]? := by
      intro i hi
      obtain ⟨cs', k1, k2⟩ := hx i (by omega)
      rw [cellsOp] at k1
      obtain ⟨_, hlen, hc⟩ := World.cells?_some k1
      obtain ⟨q, hq, hcs⟩ := open_op k2 (fun k hk => hw k (by
        simp only [DataW.weights, Tryd.underlying25, List.mem_cons, List.mem_append]
        exact .inr (.inl (weights_all (d := D i) (List.mem_map.2 ⟨i, by simpa using hi, rfl⟩) k hk))))
      refine ⟨q, hq, fun j hj => ?_⟩
      rw [hc j (by omega), hcs]
      simp
    by_cases h0 : len = 0
    · subst h0
      exact ⟨[], ⟨some a, m, rfl, by simp, hcm, fun j hj => absurd hj (by simp)⟩, (fun o ho => by cases ho), by simp⟩
    obtain ⟨c0, _⟩ := key 0 (by omega)
    obtain ⟨F, hF⟩ : ∃ F : Nat → Opn, ∀ i, i < len → (F i).Ok W ∧ ∀ j (hj : j < 4), W.cell? ((a.add (i * 4)).add j) = (F i).cells[j]? := by
      refine ⟨fun i => if h : i < len then (key i h).choose else c0, fun i hi => ?_⟩
      simp only [dif_pos hi]
      exact (key i hi).choose_spec
    obtain ⟨g, off, rfl, hg⟩ : ∃ g off, a = ⟨g, off, none⟩ ∧ g < W.heap.size := by
      have z0 := (hF 0 (by omega)).2 0 (by omega)
      have e : (a.add (0 * 4)).add 0 = a := by simp [Addr.add]
      rw [e] at z0
      exact spot_none (z0.trans (by rfl))
    refine ⟨(List.range len).map F, ⟨some ⟨g, off, none⟩, m, by simp, by simpa using hlc, hcm, fun j hj => ?_⟩, fun o ho => ?_, by simpa using hbig⟩
    · have hj' : j < len := by simpa using hj
      simp only [List.getElem_map, List.getElem_range]
      have hh := (hF j hj').2
      simp only [add_plain] at hh
      exact ⟨g, off, rfl, hg, hh 0 (by omega), hh 1 (by omega), hh 2 (by omega), hh 3 (by omega)⟩
    · obtain ⟨i, hi, rfl⟩ := List.mem_map.1 ho
      exact (hF i (by simpa using hi)).1
end
end Go.Proofs.YteoebmpfdcbbmacDoor

namespace Go.Proofs.YteoebmpfdcbbmacDoor
open Go.ChangeShapes Go.WideShapes Go.ChangeAt Go.RowKit Jn N
set_option maxHeartbeats 1000000
set_option maxRecDepth 100000

theorem cellsDk : Tryd.prog.cellsOf 24 = 2 := by kernel_rfl
theorem cellsB8 : Tryd.prog.cellsOf 22 = 1 := by kernel_rfl
section
variable {H : Type} {enc : TypeId × Value → H} {W : World}
theorem open_d {base : Nat} {v : Value} {d : DataW H} {ps : List MemPlace} (hval : Value.okWide Tryd.prog W .any base 24 v) (h : DataW.Trod enc Tryd.prog W 0 (fun _ => true) true 24 v d ps) (hw : ∀ x ∈ d.weights Tryd.prog 24, x ≤ reachBytes) :
    ∃ va vb A B, v = .agg #[va, vb] ∧ SeesB W va A ∧ SeesB W vb B ∧ A.length ≤ 140737488355328 ∧ B.length ≤ 140737488355328 := by
  obtain ⟨cs, rfl, _⟩ := okWide_struct Tryd.underlying24 hval
  obtain ⟨fuel, hf⟩ := h
  obtain ⟨xs, n, _, hx, hl, hxl, hff⟩ := DataW.trod_struct Tryd.underlying24 hf
  rw [cellsDk] at hl
  obtain ⟨cl⟩ := cs
  simp only [Value.cells] at hl hff
  match xs, hxl, cl, hl with
  | [y0, y1], _, [v0, v1], _ =>
    have g0 := hff 0 _ rfl
    have g1 := hff 1 _ rfl
    simp [cellsB8] at g0 g1
    obtain ⟨b0, L0, e0, hs0, hf0, _⟩ := open_bytes g0
    obtain ⟨b1, L1, e1, hs1, hf1, _⟩ := open_bytes g1
    simp only [Prod.mk.injEq] at hx
    obtain ⟨rfl, _⟩ := hx
    have h0 := hf0.room (fun k hk => hw k (by
      simp only [DataW.weights, Tryd.underlying24]
      exact DataW.weights_mem_each (j := 0) (t := 22) (d := y0.1) (by simp) rfl _ hk))
    have h1 := hf1.room (fun k hk => hw k (by
      simp only [DataW.weights, Tryd.underlying24]
      exact DataW.weights_mem_each (j := 1) (t := 22) (d := y1.1) (by simp) rfl _ hk))
    unfold reachBytes at h0 h1
    simp at e0 e1
    subst e0 e1
    exact ⟨_, _, L0, L1, rfl, hs0, hs1, by omega, by omega⟩
end
end Go.Proofs.YteoebmpfdcbbmacDoor

namespace Go.Proofs.YteoebmpfdcbbmacDoor
open Go.ChangeShapes Go.WideShapes Go.ChangeAt Go.RowKit Jn N
set_option maxHeartbeats 16000000
set_option maxRecDepth 100000

theorem SeesB.passN {w w' : World} {v : Value} {L : List Nat} {b : Nat} {cs : Array Value} {T : TypeId} (h : SeesB w v L) (hb : w.heap[b]? = some (.cells cs T (0, 0))) (hn : ∀ (i : Nat) z, cs[i]? ≠ some (.int .u8 z)) (hk : Keeps (At1 b) w w') : SeesB w' v L := by
  obtain ⟨ao, cap, hv, h1, h2, h3⟩ := h
  refine ⟨ao, cap, hv, h1, h2, fun j hj => ?_⟩
  obtain ⟨g, off, ha, hg, c0, c1⟩ := h3 j hj
  refine ⟨g, off, ha, Nat.lt_of_lt_of_le hg hk.size, ?_, c1⟩
  by_cases e : g = b
  · subst e
    rw [cell_of_row _ _ _ _ _ _ hb] at c0
    exact absurd c0 (hn _ _)
  · exact (World.cell?_of_block (w := w) (a := ⟨g, off + j, none⟩) (hk.block g hg e)).trans c0
theorem SeesBB.passN {w w' : World} {v : Value} {L : List (List Nat)} {b : Nat} {cs : Array Value} {T : TypeId} (h : SeesBB w v L) (hb : w.heap[b]? = some (.cells cs T (0, 0))) (hn : ∀ (i : Nat) z, cs[i]? ≠ some (.int .u8 z)) (hs : ∀ (i : Nat) a n c, cs[i]? ≠ some (.slice a n c)) (hk : Keeps (At1 b) w w') : SeesBB w' v L := by
  obtain ⟨ao, cap, hv, h1, h2, h3⟩ := h
  refine ⟨ao, cap, hv, h1, h2, fun j hj => ?_⟩
  obtain ⟨g, off, x, ha, hg, c0, c1⟩ := h3 j hj
  refine ⟨g, off, x, ha, Nat.lt_of_lt_of_le hg hk.size, ?_, c1.passN hb hn hk⟩
  by_cases e : g = b
  · subst e
    rw [cell_of_row _ _ _ _ _ _ hb] at c0
    obtain ⟨a, n, c, rfl, -⟩ := c1.shape
    exact absurd c0 (hs _ _ _ _)
  · exact (World.cell?_of_block (w := w) (a := ⟨g, off + j, none⟩) (hk.block g hg e)).trans c0
def prRow (x y : Option Addr) : Obj := .cells #[.pointer x, .pointer y] 33 (0, 0)
theorem pr_int (x y : Option Addr) : ∀ (i : Nat) z, (#[Value.pointer x, .pointer y] : Array Value)[i]? ≠ some (.int .u8 z) := fun i z e => by
  rcases i with _ | _ | i <;> simp at e
theorem pr_sl (x y : Option Addr) : ∀ (i : Nat) a n c, (#[Value.pointer x, .pointer y] : Array Value)[i]? ≠ some (.slice a n c) := fun i a n c e => by
  rcases i with _ | _ | i <;> simp at e
theorem pr_cells {u : World} {b : Nat} {x y : Option Addr} (h : u.heap[b]? = some (prRow x y)) : u.cell? ⟨b, 0, none⟩ = some (.pointer x) ∧ u.cell? ⟨b, 1, none⟩ = some (.pointer y) ∧ ∀ i, u.frozen? ⟨b, i, none⟩ = false := by
  unfold prRow at h
  exact ⟨by rw [cell_of_row _ _ _ _ _ _ h]; rfl, by rw [cell_of_row _ _ _ _ _ _ h]; rfl, fun i => frozen_of_row _ _ _ _ _ h⟩
theorem pr_put {u : World} {b : Nat} {x y : Option Addr} (h : u.heap[b]? = some (prRow x y)) (x' y' : Option Addr) : ((u.setCell ⟨b, 0, none⟩ (.pointer x')).setCell ⟨b, 1, none⟩ (.pointer y')).heap[b]? = some (prRow x' y') ∧ Keeps (At1 b) u ((u.setCell ⟨b, 0, none⟩ (.pointer x')).setCell ⟨b, 1, none⟩ (.pointer y')) := by
  unfold prRow at h ⊢
  exact ⟨set_cells (set_cells h), ((Keeps.refl (At1 b) u).set ⟨b, 0, none⟩ rfl _).set ⟨b, 1, none⟩ rfl _⟩

/-- The same disk. -/
theorem disks_eq (xa xb ya yb : Value) (A B : List Nat) (w : World) (h1 : SeesB w xa A) (h2 : SeesB w xb B) (h3 : SeesB w ya A) (h4 : SeesB w yb B) :
    Calls Tryd.prog 33 #[.agg #[xa, xb], .agg #[ya, yb]] w fun e w' => e = .returned (.bool true) ∧ Below w.heap.size w w' := by
  obtain ⟨a1, n1, c1, rfl, -, -, -⟩ := h1.shape
  obtain ⟨a2, n2, c2, rfl, -, -, -⟩ := h2.shape
  obtain ⟨a3, n3, c3, rfl, -, -, -⟩ := h3.shape
  obtain ⟨a4, n4, c4, rfl, -, -, -⟩ := h4.shape
  obtain ⟨u, hu⟩ : ∃ u, u = (w.alloc (.cells #[.slice a1 n1 c1, .slice a2 n2 c2] 24)).alloc (.cells #[.slice a3 n3 c3, .slice a4 n4 c4] 24) := ⟨_, rfl⟩
  have s1 : (w.alloc (.cells #[.slice a1 n1 c1, .slice a2 n2 c2] 24)).heap.size = w.heap.size + 1 := World.size_alloc _ _
  have hb1 : Below w.heap.size w (w.alloc (.cells #[.slice a1 n1 c1, .slice a2 n2 c2] 24)) := (Below.refl _ _).alloc (Nat.le_refl _) _
  have hb2 : Below (w.alloc (.cells #[.slice a1 n1 c1, .slice a2 n2 c2] 24)).heap.size (w.alloc (.cells #[.slice a1 n1 c1, .slice a2 n2 c2] 24)) u := by rw [hu]; exact (Below.refl _ _).alloc (Nat.le_refl _) _
  have hb : Below w.heap.size w u := hb1.trans (hb2.mono hb1.size)
  have r1 : u.heap[w.heap.size]? = some (dkRow (.slice a1 n1 c1) (.slice a2 n2 c2)) := (hb2.block _ (by omega)).trans (heap_alloc_new w _)
  have r2 : u.heap[w.heap.size + 1]? = some (dkRow (.slice a3 n3 c3) (.slice a4 n4 c4)) := by rw [hu, ← s1]; exact heap_alloc_new _ _
  obtain ⟨x0, x1, -⟩ := dk_cells r1
  obtain ⟨y0, y1, -⟩ := dk_cells r2
  have hl1 := (Array.getElem?_eq_some_iff.1 r1).1
  have hl2 := (Array.getElem?_eq_some_iff.1 r2).1
  have HS1 := hid (same_eq _ _ A u (h1.below hb) (h3.below hb))
  have HS2 : Hid (∀ u', Below u.heap.size u u' → Calls Tryd.prog 15 #[.slice a2 n2 c2, .slice a4 n4 c4] u' fun e w' => e = .returned (.bool true) ∧ Below u'.heap.size u' w') := fun u' h' => same_eq _ _ B u' ((h2.below hb).below h') ((h4.below hb).below h')
  have HRR : Hid (∀ u', Below u.heap.size u u' → u'.heap[w.heap.size]? = some (dkRow (.slice a1 n1 c1) (.slice a2 n2 c2)) ∧ u'.heap[w.heap.size + 1]? = some (dkRow (.slice a3 n3 c3) (.slice a4 n4 c4))) := fun u' h' => ⟨below_keeps h' r1 hl1, below_keeps h' r2 hl2⟩
  have HU := hid hu
  have HB := hid hb
  obtain ⟨b1, hbb1⟩ : ∃ b1, b1 = w.heap.size := ⟨_, rfl⟩
  obtain ⟨b2, hbb2⟩ : ∃ b2, b2 = w.heap.size + 1 := ⟨_, rfl⟩
  rw [← hbb2] at y0 y1 hl2 HRR
  rw [← hbb1] at x0 x1 hl1 HRR
  have H1 := hid hbb1
  have H2 := hid hbb2
  clear h1 h2 h3 h4 hu hb hb1 hb2 r1 r2 s1 hbb1 hbb2
  go_enter Tryd.func33, Tryd.ntmps33
  go_upto_region 1 with fail
  rw [← HU.out, ← H1.out, show b1 + 1 = b2 by have := H1.out; have := H2.out; omega]
  go_wp2_with fail
  refine HS1.out.mono ?_
  rintro _ u1 ⟨rfl, hb1⟩
  obtain ⟨-, p1, -⟩ := dk_cells (HRR.out u1 hb1).1
  obtain ⟨-, p2, -⟩ := dk_cells (HRR.out u1 hb1).2
  have m1 := (Array.getElem?_eq_some_iff.1 (HRR.out u1 hb1).1).1
  have m2 := (Array.getElem?_eq_some_iff.1 (HRR.out u1 hb1).2).1
  have HSS := hid (HS2.out u1 hb1)
  have HB1 := hid hb1
  clear hb1 HS1 HS2
  go_wp2_with fail
  refine HSS.out.mono ?_
  rintro _ u2 ⟨rfl, hb2⟩
  have HB2 : Hid (Below w.heap.size w u2) := HB.out.trans ((HB1.out.trans (hb2.mono HB1.out.size)).mono HB.out.size)
  clear hb2
  go_wp2_with fail
  go_ret
  exact ⟨rfl, HB2.out⟩

/-- What both hold behind the same opening. -/
def PrO (w u' : World) (pp n0 : Nat) (A B : List Nat) : Prop :=
  (opnE A B = true ∧ u'.heap[pp]? = some (prRow none none)) ∨ (opnE A B = false ∧ ∃ p m S Bd, u'.heap[pp]? = some (prRow (some ⟨p, 0, none⟩) (some ⟨m, 0, none⟩)) ∧ Jr w u' S p (opnL A B) ∧ (∀ k, S k → k < Bd) ∧ RefAt Bd u' m (opnL A B) ∧ pp < Bd ∧ ¬ S pp ∧ (∀ k, S k → n0 ≤ k) ∧ n0 ≤ Bd)
theorem RefAt.keepsLow {B : Nat} {u u' : World} {m : Nat} {l : Lg} {b : Nat} (h : RefAt B u m l) (hk : Keeps (At1 b) u u') (hb : b < B) : RefAt B u' m l := by
  obtain ⟨C, va, vb, vw, X, h⟩ := h
  refine ⟨C, va, vb, vw, X, h.keeps hk (fun k e => ?_)⟩
  unfold At1 at e
  subst e
  exact ⟨fun e => by have := h.lp; omega, fun hc => by have := (h.ap _ hc).2.2.2; omega, fun e => by have := (World.ownsRow.lt h.w _ e).1; omega⟩
theorem pairOpen_any (pp : Nat) (va vb : Value) (A B : List Nat) (w u : World) (hw : Below w.heap.size w u) (hpw : w.heap.size ≤ pp) (hrow : u.heap[pp]? = some (prRow none none)) (hva : SeesB u va A) (hvb : SeesB u vb B) (ht : TabN u) :
    Calls Tryd.prog 8 #[.pointer (some ⟨pp, 0, none⟩), .agg #[va, vb]] u fun e u' => e = .returned (.bool true) ∧ Keeps (At1 pp) u u' ∧ PrO w u' pp u.heap.size A B := by
  obtain ⟨a1, n1, c1, rfl, -, -, -⟩ := hva.shape
  obtain ⟨a2, n2, c2, rfl, -, -, -⟩ := hvb.shape
  obtain ⟨u0, hu0⟩ : ∃ u0, u0 = u.alloc (.cells #[.slice a1 n1 c1, .slice a2 n2 c2] 24) := ⟨_, rfl⟩
  have hb0 : Below u.heap.size u u0 := by rw [hu0]; exact (Below.refl _ _).alloc (Nat.le_refl _) _
  have hr0 : u0.heap[u.heap.size]? = some (dkRow (.slice a1 n1 c1) (.slice a2 n2 c2)) := by rw [hu0]; exact heap_alloc_new u _
  obtain ⟨x0, x1, -⟩ := dk_cells hr0
  have hl0 := (Array.getElem?_eq_some_iff.1 hr0).1
  have hpl := (Array.getElem?_eq_some_iff.1 hrow).1
  have HOP := hid (open_any _ _ A B u0 (hva.below hb0) (hvb.below hb0) (ht.below hb0 ht.2))
  have HRO : Hid (∀ u', Below u0.heap.size u0 u' → Calls Tryd.prog 13 #[.agg #[.slice a1 n1 c1, .slice a2 n2 c2]] u' fun e w' => (opnE A B = true → e = .returned (.tuple #[.pointer none, .slice none 0 0, .int .i64 120]) ∧ Below u'.heap.size u' w') ∧ (opnE A B = false → ∃ p v, e = .returned (.tuple #[.pointer (some ⟨p, 0, none⟩), v, .int .i64 0]) ∧ RefAt u'.heap.size w' p (opnL A B) ∧ SeesBB w' v (opnR A B) ∧ Below u'.heap.size u' w')) := fun u' h' => openR_any _ _ A B u' ((hva.below hb0).below h') ((hvb.below hb0).below h')
  have HRB : Hid (∀ u', Below u0.heap.size u0 u' → u'.heap[u.heap.size]? = some (dkRow (.slice a1 n1 c1) (.slice a2 n2 c2)) ∧ u'.heap[pp]? = some (prRow none none)) := fun u' h' => ⟨below_keeps h' hr0 hl0, below_keeps h' ((hb0.block pp hpl).trans hrow) (Nat.lt_of_lt_of_le hpl hb0.size)⟩
  have HU0 := hid hu0
  have HB0 := hid hb0
  have HPL := hid hpl
  have HW := hid hw
  have HPW := hid hpw
  obtain ⟨b, hbb⟩ : ∃ b, b = u.heap.size := ⟨_, rfl⟩
  rw [← hbb] at x0 x1 hl0 HRB
  have HBB := hid hbb
  clear hva hvb ht hu0 hb0 hr0 hbb hrow hw hpw
  cases hE : opnE A B with
  | true =>
    as_aux_lemma =>
      have HO1 : Hid (Calls Tryd.prog 12 #[.agg #[.slice a1 n1 c1, .slice a2 n2 c2]] u0 fun e w' => e = .returned (.tuple #[.pointer none, .slice none 0 0, .int .i64 120]) ∧ Below u0.heap.size u0 w') := HOP.out.mono fun e w' h => h.1 hE
      have HE := hid hE
      clear HOP hE
      go_enter Tryd.func8, Tryd.ntmps8
      go_upto_region 1 with fail
      rw [← HU0.out, ← HBB.out]
      go_wp2_with fail
      refine HO1.out.mono ?_
      rintro _ u1 ⟨rfl, hb1⟩
      have HO2 : Hid (Calls Tryd.prog 13 #[.agg #[.slice a1 n1 c1, .slice a2 n2 c2]] u1 fun e w' => e = .returned (.tuple #[.pointer none, .slice none 0 0, .int .i64 120]) ∧ Below u1.heap.size u1 w') := (HRO.out u1 hb1).mono fun e w' h => h.1 HE.out
      obtain ⟨p0, p1, -⟩ := dk_cells (HRB.out u1 hb1).1
      have m1 := (Array.getElem?_eq_some_iff.1 (HRB.out u1 hb1).1).1
      have HB1 := hid hb1
      clear hb1 HO1
      go_wp2_with fail
      refine HO2.out.mono ?_
      rintro _ u2 ⟨rfl, hb2⟩
      have hb02 : Below u0.heap.size u0 u2 := HB1.out.trans (hb2.mono HB1.out.size)
      have hr2 := (HRB.out u2 hb02).2
      obtain ⟨q0, q1, qf⟩ := pr_cells hr2
      have m2 := (Array.getElem?_eq_some_iff.1 hr2).1
      obtain ⟨hP1, hP2⟩ := pr_put hr2 none none
      have h3 := hr2
      have hr3 : (u2.setCell ⟨pp, 0, none⟩ (.pointer none)).heap[pp]? = some (prRow none none) := by unfold prRow at h3 ⊢; exact set_cells h3
      obtain ⟨s0, s1, sf⟩ := pr_cells hr3
      obtain ⟨u3, hu3⟩ : ∃ u3, u3 = (u2.setCell ⟨pp, 0, none⟩ (.pointer none)).setCell ⟨pp, 1, none⟩ (.pointer none) := ⟨_, rfl⟩
      rw [← hu3] at hP1 hP2
      have HLS := hid (lists_eq _ _ [] u3 (seesBB_nil _) (seesBB_nil _))
      have hK : Keeps (At1 pp) u u3 := (Keeps.of (HB0.out.trans (hb02.mono HB0.out.size))).trans hP2
      have HK := hid hK
      have HP1 := hid hP1
      have HU3 := hid hu3
      clear hb2 hb02 hr2 hP1 hP2 h3 hr3 hu3 hK HO2 HRO
      go_upto_region 5 with fail
      rw [← HU3.out]
      go_wp2_with fail
      refine HLS.out.mono ?_
      rintro _ u4 ⟨rfl, hb4⟩
      have HF : Hid (Keeps (At1 pp) u u4 ∧ u4.heap[pp]? = some (prRow none none)) := ⟨HK.out.trans (Keeps.of hb4), below_keeps hb4 HP1.out (Array.getElem?_eq_some_iff.1 HP1.out).1⟩
      clear hb4
      go_wp2_with fail
      go_ret
      exact ⟨rfl, HF.out.1, .inl ⟨HE.out, HF.out.2⟩⟩
  | false =>
    as_aux_lemma =>
      have HO1 : Hid (Calls Tryd.prog 12 #[.agg #[.slice a1 n1 c1, .slice a2 n2 c2]] u0 fun e w' => ∃ p v S Bd, e = .returned (.tuple #[.pointer (some ⟨p, 0, none⟩), v, .int .i64 0]) ∧ Opened u0 w' S Bd p v (opnL A B) (opnR A B)) := HOP.out.mono fun e w' h => h.2 hE
      have HE := hid hE
      clear HOP hE
      obtain ⟨L0, HL0⟩ : ∃ L0, Hid (L0 = opnL A B) := ⟨_, rfl⟩
      rw [← HL0.out] at HO1 HRO
      unfold PrO
      rw [← HL0.out]
      go_enter Tryd.func8, Tryd.ntmps8
      go_upto_region 1 with fail
      rw [← HU0.out, ← HBB.out]
      go_wp2_with fail
      refine HO1.out.mono ?_
      rintro _ u1 ⟨p, v1, S, Bd, rfl, hO⟩
      have hb1 := hO.be
      have HJ0 : Hid (Jr w u1 S p L0) := by
        have h1 : Jr u0 u1 S p L0 := ⟨hO.be, hO.log, hO.ok, hO.lo⟩
        exact h1.since (HW.out.trans (HB0.out.mono HW.out.size))
      have HSl : Hid (∀ k, S k → k < u1.heap.size) := hO.log.lt
      have HSlo : Hid (∀ k, S k → u0.heap.size ≤ k) := hO.lo
      have HS1 := hid hO.recs.sees
      obtain ⟨g1, k1, d1, rfl, -, -, -⟩ := hO.recs.sees.shape
      have HO2 : Hid (Calls Tryd.prog 13 #[.agg #[.slice a1 n1 c1, .slice a2 n2 c2]] u1 fun e w' => ∃ p v, e = .returned (.tuple #[.pointer (some ⟨p, 0, none⟩), v, .int .i64 0]) ∧ RefAt u1.heap.size w' p L0 ∧ SeesBB w' v (opnR A B) ∧ Below u1.heap.size u1 w') := (HRO.out u1 hb1).mono fun e w' h => h.2 HE.out
      obtain ⟨p0, p1, -⟩ := dk_cells (HRB.out u1 hb1).1
      have m1 := (Array.getElem?_eq_some_iff.1 (HRB.out u1 hb1).1).1
      have HB1 := hid hb1
      clear hb1 HO1 hO
      go_wp2_with fail
      refine HO2.out.mono ?_
      rintro _ u2 ⟨m, v2, rfl, hRf, hS2, hb2⟩
      obtain ⟨g2, k2, d2, rfl, -, -, -⟩ := hS2.shape
      have hb02 : Below u0.heap.size u0 u2 := HB1.out.trans (hb2.mono HB1.out.size)
      have hr2 := (HRB.out u2 hb02).2
      obtain ⟨q0, q1, qf⟩ := pr_cells hr2
      have m2 := (Array.getElem?_eq_some_iff.1 hr2).1
      obtain ⟨hP1, hP2⟩ := pr_put hr2 (some ⟨p, 0, none⟩) (some ⟨m, 0, none⟩)
      have h3 := hr2
      have hr3 : (u2.setCell ⟨pp, 0, none⟩ (.pointer (some ⟨p, 0, none⟩))).heap[pp]? = some (prRow (some ⟨p, 0, none⟩) none) := by unfold prRow at h3 ⊢; exact set_cells h3
      obtain ⟨s0, s1, sf⟩ := pr_cells hr3
      obtain ⟨u3, hu3⟩ : ∃ u3, u3 = (u2.setCell ⟨pp, 0, none⟩ (.pointer (some ⟨p, 0, none⟩))).setCell ⟨pp, 1, none⟩ (.pointer (some ⟨m, 0, none⟩)) := ⟨_, rfl⟩
      rw [← hu3] at hP1 hP2
      have hrc : u2.heap[pp]? = some (.cells #[.pointer none, .pointer none] 33 (0, 0)) := hr2
      have HLS := hid (lists_eq _ _ (opnR A B) u3 ((HS1.out.below hb2).passN hrc (pr_int _ _) (pr_sl _ _) hP2) (hS2.passN hrc (pr_int _ _) (pr_sl _ _) hP2))
      have hpu : pp < u.heap.size := HPL.out
      have hs0 := HB0.out.size
      have hs1 := HB1.out.size
      have HJ3 : Hid (Jr w u2 S p L0) := HJ0.out.below hb2
      have HF3 : Hid (∀ u4, Below u3.heap.size u3 u4 → Keeps (At1 pp) u u4 ∧ u4.heap[pp]? = some (prRow (some ⟨p, 0, none⟩) (some ⟨m, 0, none⟩)) ∧ Jr w u4 S p L0 ∧ RefAt u1.heap.size u4 m L0) := fun u4 h4 => by
        have hkk : Keeps (At1 pp) u u3 := (Keeps.of (HB0.out.trans (hb02.mono HB0.out.size))).trans hP2
        refine ⟨hkk.trans (Keeps.of h4), below_keeps h4 hP1 (Array.getElem?_eq_some_iff.1 hP1).1, ?_, ?_⟩
        · exact (HJ3.out.keeps hP2 (fun k e => by unfold At1 at e; exact ⟨fun hS => by have := HSlo.out k hS; omega, by have := HPW.out; omega⟩)).below h4
        · exact (hRf.keepsLow hP2 (by omega)).below h4
      have HU3 := hid hu3
      clear hb2 hb02 hr2 hP1 hP2 h3 hr3 hu3 HO2 HRO hRf hS2 hrc
      go_upto_region 5 with fail
      rw [← HU3.out]
      go_wp2_with fail
      refine HLS.out.mono ?_
      rintro _ u4 ⟨rfl, hb4⟩
      have HF := hid (HF3.out u4 hb4)
      clear hb4
      go_wp2_with fail
      go_ret
      exact ⟨rfl, HF.out.1, .inr ⟨HE.out, p, m, S, u1.heap.size, HF.out.2.1, HF.out.2.2.1, HSl.out, HF.out.2.2.2, by omega, fun hS => by have := HSlo.out pp hS; omega, fun k hS => by have := HSlo.out k hS; omega, by omega⟩⟩
end Go.Proofs.YteoebmpfdcbbmacDoor

namespace Go.Proofs.YteoebmpfdcbbmacDoor
open Go.ChangeShapes Go.WideShapes Go.ChangeAt Go.RowKit Jn N
set_option maxHeartbeats 16000000
set_option maxRecDepth 100000

/-- The reference's log, all of it in the blocks of F. -/
def RefF (B : Nat) (F : Nat → Prop) (u : World) (p : Nat) (l : Lg) : Prop := ∃ C va vb vw X, RfX B u p l C va vb vw X ∧ F p ∧ (∀ k, C k → F k) ∧ (∀ k, vw.ownBlock = some k → F k) ∧ ∀ k, F k → k < u.heap.size
theorem RefF.keeps {T F : Nat → Prop} {B : Nat} {u u' : World} {p : Nat} {l : Lg} (h : RefF B F u p l) (hk : Keeps T u u') (hT : ∀ k, T k → ¬ F k) : RefF B F u' p l := by
  obtain ⟨C, va, vb, vw, X, h, h1, h2, h3, h4⟩ := h
  exact ⟨C, va, vb, vw, X, h.keeps hk (fun k e => ⟨fun e' => hT k e (e' ▸ h1), fun hc => hT k e (h2 k hc), fun hv => hT k e (h3 k hv)⟩), h1, h2, h3, fun k hk' => Nat.lt_of_lt_of_le (h4 k hk') hk.size⟩
theorem RefF.below {F : Nat → Prop} {B : Nat} {u u' : World} {p : Nat} {l : Lg} (h : RefF B F u p l) (hb : Below u.heap.size u u') : RefF B F u' p l := h.keeps (T := fun _ => False) (Keeps.of hb) (fun _ e => e.elim)
theorem RefF.at {F : Nat → Prop} {B : Nat} {u : World} {p : Nat} {l : Lg} (h : RefF B F u p l) : RefAt B u p l := by
  obtain ⟨C, va, vb, vw, X, h, -⟩ := h
  exact ⟨C, va, vb, vw, X, h⟩
theorem RefAt.own {B : Nat} {u : World} {p : Nat} {l : Lg} (h : RefAt B u p l) : RefF B (fun k => B ≤ k ∧ k < u.heap.size) u p l := by
  obtain ⟨C, va, vb, vw, X, h⟩ := h
  refine ⟨C, va, vb, vw, X, h, ⟨h.lp, (Array.getElem?_eq_some_iff.1 h.row).1⟩, fun k hc => ⟨(h.ap k hc).2.2.2, (h.ap k hc).1⟩, fun k hv => World.ownsRow.lt h.w k hv, fun k hk => hk.2⟩
/-- What a call on it leaves. -/
structure LeftR (B : Nat) (u u' : World) (F : Nat → Prop) (p : Nat) (l : Lg) : Prop where
  rf : RefF B (NewS F u.heap.size u') u' p l
  kp : Keeps F u u'
theorem RefF.same {F : Nat → Prop} {B : Nat} {u : World} {p : Nat} {l : Lg} (h : RefF B F u p l) : LeftR B u u F p l := by
  refine ⟨?_, Keeps.refl _ _⟩
  obtain ⟨C, va, vb, vw, X, h, h1, h2, h3, h4⟩ := h
  exact ⟨C, va, vb, vw, X, h, .inl h1, fun k hc => .inl (h2 k hc), fun k hv => .inl (h3 k hv), fun k hk => hk.elim (h4 k) (fun e => e.2)⟩
/-- A write more. -/
theorem RfX.push2 {B : Nat} {u w6 U : World} {p g6 n6 cap6 ar pl : Nat} {l l' : Lg} {C F : Nat → Prop} {va vb vw xh : Value} {X : List Wv} {bs : List Nat} (h : RfX B u p l C va vb vw X) (f1 : F p) (f2 : ∀ k, C k → F k) (f3 : ∀ k, vw.ownBlock = some k → F k) (f4 : ∀ k, F k → k < u.heap.size) (hB : B ≤ u.heap.size)
    (hk6 : Keeps (fun k => k = p ∨ vw.ownBlock = some k) u w6) (hx : OwnB w6 u.heap.size xh bs) (hy : ∀ y ∈ bs, y < 256) (ho : w6.ownsRow B 89 3 (.slice (some ⟨g6, 0, none⟩) n6 cap6) (X ++ [(⟨ar, pl, xh, bs⟩ : Wv)]).length ((X ++ [(⟨ar, pl, xh, bs⟩ : Wv)]).flatMap wc)) (hat : vw.ownBlock = some g6 ∨ u.heap.size ≤ g6) (hxg : ∀ k, xh.ownBlock = some k → k ≠ g6)
    (hk : Keeps (At1 p) w6 U) (hrow : U.heap[p]? = some (rfRow va vb (.slice (some ⟨g6, 0, none⟩) n6 cap6) l'.cur l'.gen l'.fr l'.size)) (ea : l'.a = l.a) (eb : l'.b = l.b) (ew : l'.ws = l.ws ++ [⟨ar, pl, bs⟩]) : LeftR B u U F p l' := by
  have hr := h.row
  have hlp := (Array.getElem?_eq_some_iff.1 h.row).1
  unfold rfRow at hr
  have np : vw.ownBlock ≠ some p := row_ne h.w hr (by decide)
  have gp : g6 ≠ p := fun e => by
    rcases hat with e' | e'
    · exact np (by rw [e', e])
    · omega
  have hkW : Keeps (fun k => k = p ∨ vw.ownBlock = some k) u U := hk6.trans (hk.mono (fun k _ e => .inl (by unfold At1 at e; exact e)))
  have hkF : Keeps F u U := hkW.mono (S' := F) (fun k _ e => e.elim (fun e => e ▸ f1) (f3 k))
  have hC : ∀ k, C k → ¬ (k = p ∨ vw.ownBlock = some k) := fun k hc e => e.elim (h.ap k hc).2.1 (h.ap k hc).2.2.1
  have hzU := hkW.size
  have hz6 := hk.size
  have hxl := fun k hk' => World.ownsRow.lt hx k hk'
  refine ⟨⟨fun k => C k ∨ xh.ownBlock = some k, va, vb, .slice (some ⟨g6, 0, none⟩) n6 cap6, X ++ [⟨ar, pl, xh, bs⟩], ⟨hrow, h.lp, ?_, ?_, row_keeps ho hk (fun k hk' e => ?_), ?_, fun x hx' => ?_, fun k hc => ?_⟩, .inl f1, fun k hc => ?_, fun k hv => ?_, fun k hk' => ?_⟩, hkF⟩
  · rw [ea]; exact (h.a.keeps hkW hC).more (fun k hc => .inl hc)
  · rw [eb]; exact (h.b.keeps hkW hC).more (fun k hc => .inl hc)
  · simp [Value.ownBlock] at hk'
    unfold At1 at e
    exact gp (hk'.trans e)
  · rw [List.map_append, h.wr, ew]; rfl
  · rcases List.mem_append.1 hx' with hx' | hx'
    · exact ((h.by_ x hx').keeps hkW hC).more (fun k hc => .inl hc)
    · simp at hx'
      subst hx'
      have hxU : OwnB U u.heap.size xh bs := hx.keeps hk (fun k hk' e => by
        have h1 := (hxl k hk').1
        unfold At1 at e
        omega)
      exact hxU.frz hy (fun k hk' => .inr hk')
  · rcases hc with hc | hc
    · obtain ⟨a1, a2, a3, a4⟩ := h.ap k hc
      refine ⟨by omega, a2, fun e => ?_, a4⟩
      simp [Value.ownBlock] at e
      rcases hat with e' | e'
      · exact a3 (by rw [e', e])
      · omega
    · have h1 := hxl k hc
      refine ⟨by omega, by omega, fun e => ?_, by omega⟩
      simp [Value.ownBlock] at e
      exact hxg k hc e.symm
  · rcases hc with hc | hc
    · exact .inl (f2 k hc)
    · have h1 := hxl k hc
      exact .inr ⟨h1.1, by omega⟩
  · simp [Value.ownBlock] at hv
    subst hv
    rcases hat with e' | e'
    · exact .inl (f3 _ e')
    · have h1 := (World.ownsRow.lt ho g6 rfl).2
      exact .inr ⟨e', by omega⟩
  · rcases hk' with hk' | hk'
    · have := f4 k hk'; omega
    · exact hk'.2

/-- What Append's drawn statement holds. -/
def FA (lst : List Value) (us n B : Nat) (vw : Value) (xs : List Value) (lc ls : Nat) (bs : List Nat) (i : Nat) (v : Value) (w : World) : Prop :=
  match i with
  | 22 => ∃ a m c, v = .slice a m c ∧ OwnB w us (.slice a m c) bs
  | 23 => ∃ a m c, v = .agg #[.int .i64 (lc : Int), .int .i64 (ls : Int), .slice a m c] ∧ OwnB w us (.slice a m c) bs
  | 24 => ∃ a m c k, v = .slice (some ⟨k, 0, none⟩) 1 1 ∧ OwnB w us (.slice a m c) bs ∧ us ≤ k ∧ w.heap[k]? = some (.cells #[.int .i64 (lc : Int), .int .i64 (ls : Int), .slice a m c] 89)
  | 25 => ∃ a m c g cap, v = .slice (some ⟨g, 0, none⟩) (n + 1) cap ∧ OwnB w us (.slice a m c) bs ∧ w.ownsRow B 89 3 (.slice (some ⟨g, 0, none⟩) (n + 1) cap) (n + 1) (xs ++ [.int .i64 (lc : Int), .int .i64 (ls : Int), .slice a m c]) ∧ (vw.ownBlock = some g ∨ us ≤ g) ∧ ∀ k, (Value.slice a m c).ownBlock = some k → k ≠ g
  | i => lst[i]? = some v
def IA (u : World) (vw : Value) (p : Nat → Bool) (w : World) : Prop := (p 22 = false → w = { u with drawn := u.drawn + 1 }) ∧ (p 25 = false → Below u.heap.size u w) ∧ Keeps (fun k => vw.ownBlock = some k) u w
def RA (vw : Value) (j : Nat) (w w' : World) : Prop := Keeps (fun k => vw.ownBlock = some k) w w' ∧ (j ≠ 25 → Below w.heap.size w w')
theorem RA.same {vw : Value} {j : Nat} {w : World} : RA vw j w w := ⟨Keeps.refl _ _, fun _ => Below.refl _ _⟩
theorem IA.still {u : World} {vw : Value} {p : Nat → Bool} {w : World} {i : Nat} (h : IA u vw p w) (h1 : i ≠ 22) (h2 : i ≠ 25) : IA u vw (fun j => if j = i then true else p j) w :=
  ⟨fun e => h.1 (by simpa [Ne.symm h1] using e), fun e => h.2.1 (by simpa [Ne.symm h2] using e), h.2.2⟩
theorem FA.val {lst : List Value} {us n B : Nat} {vw : Value} {xs : List Value} {lc ls : Nat} {bs : List Nat} {i : Nat} {v : Value} {w : World} (h1 : i ≠ 22) (h2 : i ≠ 23) (h3 : i ≠ 24) (h4 : i ≠ 25) : FA lst us n B vw xs lc ls bs i v w ↔ lst[i]? = some v := by
  unfold FA
  split
  · exact absurd rfl h1
  · exact absurd rfl h2
  · exact absurd rfl h3
  · exact absurd rfl h4
  · exact Iff.rfl
theorem FA.dep {lst : List Value} {us n B : Nat} {vw : Value} {xs : List Value} {lc ls : Nat} {bs : List Nat} {a : Act} {t : Operand} {y z : Value} {i : Nat} {w : World} (h : a.eval t = y ∧ FA lst us n B vw xs lc ls bs i y w) (hi : i ≠ 22 ∧ i ≠ 23 ∧ i ≠ 24 ∧ i ≠ 25) (hz : lst[i]? = some z) : a.eval t = z := by
  have h2 := (FA.val hi.1 hi.2.1 hi.2.2.1 hi.2.2.2).1 h.2
  rw [hz] at h2
  rw [h.1]
  exact (Option.some.inj h2).symm
theorem FA.keeps {lst : List Value} {u : World} {us n B : Nat} {vw : Value} {xs : List Value} {lc ls : Nat} {bs : List Nat} (hvw : ∀ k, vw.ownBlock = some k → k < us) : ∀ i j v p (w w' : World), i ≠ j → FA lst us n B vw xs lc ls bs i v w → IA u vw p w → RA vw j w w' → FA lst us n B vw xs lc ls bs i v w' := by
  intro i j v p w w' hij hf _ hr
  have ho : ∀ x, OwnB w us x bs → OwnB w' us x bs := fun x h => h.keeps hr.1 (fun k hk e => by
    have h1 := (World.ownsRow.lt h k hk).1
    have h2 := hvw k e
    omega)
  by_cases h22 : i = 22
  · subst h22
    obtain ⟨a, m, c, e, h⟩ := hf
    exact ⟨a, m, c, e, ho _ h⟩
  by_cases h23 : i = 23
  · subst h23
    obtain ⟨a, m, c, e, h⟩ := hf
    exact ⟨a, m, c, e, ho _ h⟩
  by_cases h24 : i = 24
  · subst h24
    obtain ⟨a, m, c, k, e, h, h1, h2⟩ := hf
    refine ⟨a, m, c, k, e, ho _ h, h1, (hr.1.block k (Array.getElem?_eq_some_iff.1 h2).1 (fun e => ?_)).trans h2⟩
    have := hvw k e
    omega
  by_cases h25 : i = 25
  · subst h25
    obtain ⟨a, m, c, g, cap, e, h, h1, h2⟩ := hf
    exact ⟨a, m, c, g, cap, e, ho _ h, row_keeps (S := fun _ => False) h1 (Keeps.of (hr.2 (Ne.symm hij))) (fun _ _ e => e), h2⟩
  exact (FA.val h22 h23 h24 h25).2 ((FA.val h22 h23 h24 h25).1 hf)
theorem wp_stillAp {P : Program} {o : Oper} {a : Act} {u w : World} {Q : Exit → Act → World → Prop} {lst : List Value} {us n B : Nat} {vw : Value} {xs : List Value} {lc ls : Nat} {bs : List Nat} {p : Nat → Bool} {i : Nat} {t : Tmp} {v : Value} (hr : (execOp a.eval o).run P w = .ok (.value v) w) (ht : o.dst = some t) (hi : i ≠ 22 ∧ i ≠ 23 ∧ i ≠ 24 ∧ i ≠ 25) (hv : lst[i]? = some v) (hI : IA u vw p w) :
    o.wp P a w (fun a' w' => ∃ v', a' = a.put (some t) v' ∧ FA lst us n B vw xs lc ls bs i v' w' ∧ IA u vw (fun j => if j = i then true else p j) w' ∧ RA vw i w w') Q :=
  wp_val hr (by rw [ht]; exact ⟨v, rfl, (FA.val hi.1 hi.2.1 hi.2.2.1 hi.2.2.2).2 hv, hI.still hi.1 hi.2.2.2, RA.same⟩)
theorem field_lgR (b : Nat) (u : World) : (Instr.fieldAt 86 (.pointer (some ⟨b, 0, none⟩)) 1).run Tryd.prog u = .ok (.pointer (some ⟨b, 2, none⟩)) u ∧ (Instr.fieldAt 86 (.pointer (some ⟨b, 0, none⟩)) 2).run Tryd.prog u = .ok (.pointer (some ⟨b, 3, none⟩)) u ∧ (Instr.fieldAt 86 (.pointer (some ⟨b, 0, none⟩)) 3).run Tryd.prog u = .ok (.pointer (some ⟨b, 4, none⟩)) u ∧ (Instr.fieldAt 86 (.pointer (some ⟨b, 0, none⟩)) 4).run Tryd.prog u = .ok (.pointer (some ⟨b, 5, none⟩)) u ∧ (Instr.fieldAt 86 (.pointer (some ⟨b, 0, none⟩)) 5).run Tryd.prog u = .ok (.pointer (some ⟨b, 6, none⟩)) u := ⟨by kernel_rfl, by kernel_rfl, by kernel_rfl, by kernel_rfl, by kernel_rfl⟩
theorem load_wsR {u : World} {p : Addr} {ao : Option Addr} {n c : Nat} (h : u.cell? p = some (.slice ao n c)) : (Instr.loadAt 84 (.pointer (some p))).run Tryd.prog u = .ok (.slice ao n c) u := by
  simp [Instr.loadAt, go_sem, h]
theorem ex_bsR {P : Program} {o : Oper} {a : Act} {w w' : World} (T : TypeId) (n : Nat) (parts : Array (Nat × Operand)) (ps : Array (Nat × Value)) (v : Value) (ho : o.op = .buildSlice T n parts) (hp : (parts.map fun (i, x) => (i, a.eval x)) = ps) (hr : (Instr.buildSlice T n ps).run P w = .ok v w') : (execOp a.eval o).run P w = .ok (.value v) w' := by
  unfold execOp
  simp only [ho, hp, Sem.run_bind, hr, Result.andThen_ok, Sem.run_pure]
theorem build_wr (x y : Int) (a : Option Addr) (m c : Nat) (u : World) : (Instr.build 89 #[(0, .int .i64 x), (1, .int .i64 y), (2, .slice a m c)]).run Tryd.prog u = .ok (.agg #[.int .i64 x, .int .i64 y, .slice a m c]) u := by kernel_rfl
theorem build1W (x y : Int) (a : Option Addr) (m c : Nat) (u : World) : (Instr.buildSlice 84 1 #[(0, .agg #[.int .i64 x, .int .i64 y, .slice a m c])]).run Tryd.prog u = .ok (.slice (some ⟨u.heap.size, 0, none⟩) 1 1) (u.alloc (.cells #[.int .i64 x, .int .i64 y, .slice a m c] 89)) := by
  obtain ⟨ie, hi, hz, hs, -⟩ := info_parts infoWR
  refine run_buildSlice u _ _ 1 _ _ ie _ (by kernel_rfl) hi hz (by rw [hs]; decide) (by rw [hs]; decide) ?_
  simp only [hs, Nat.one_mul, show Array.range 3 = #[0, 1, 2] from rfl]
  simp [Instr.fill, Value.cells]
end Go.Proofs.YteoebmpfdcbbmacDoor

namespace Go.Proofs.YteoebmpfdcbbmacDoor
open Go.ChangeShapes Go.WideShapes Go.ChangeAt Go.RowKit Jn N
set_option maxHeartbeats 16000000
set_option maxRecDepth 100000

theorem appendR_any (B : Nat) (F : Nat → Prop) (p : Nat) (l : Lg) (v : Value) (r : List Nat) (u : World) (h : RefF B F u p l) (hok : l.Ok) (hv : SeesB u v r) (hl : l.ws.length + 1 ≤ 3000000000000) (hB : B ≤ u.heap.size) :
    Calls Tryd.prog 27 #[.pointer (some ⟨p, 0, none⟩), v] u fun e w' => e = .returned (.int .i64 ((appE l r : Nat) : Int)) ∧ LeftR B u w' F p (appL l r) := by
  have HSAME := hid h.same
  have HH := hid h
  obtain ⟨C, va, vb, vw, X, hX, f1, f2, f3, f4⟩ := h
  obtain ⟨ao, rn, rc, rfl, HN, hrn1, hrn2⟩ := hv.shape
  unfold maxLen at hrn2
  obtain ⟨c0, c1, c2, c3, c4, c5, c6, cf⟩ := rf_cells hX.row
  have hp := (Array.getElem?_eq_some_iff.1 hX.row).1
  obtain ⟨ls, hls⟩ : ∃ ls, ls = l.size := ⟨_, rfl⟩
  have hlb : ls ≤ 1048576 := by rw [hls]; exact hok.high
  rw [← hls] at c6
  by_cases hlong : 65536 < rn
  · as_aux_lemma =>
      have HE : Hid (appE l r = 2 ∧ appL l r = l) := by
        have : appE l r = 2 := by unfold appE; rw [if_pos (by have := HN.out; omega)]
        exact ⟨this, by unfold appL; rw [this]; rfl⟩
      clear hX f1 f2 f3 f4 hok hv hls
      go_enter Tryd.func27, Tryd.ntmps27
      go_wp2_with fail
      go_ret
      rw [HE.out.1, HE.out.2]
      exact ⟨rfl, HSAME.out⟩
  · by_cases hfull : 1048576 < ls + 12 + rn
    · as_aux_lemma =>
        have HE : Hid (appE l r = 4 ∧ appL l r = l) := by
          have : appE l r = 4 := by unfold appE; rw [if_neg (by have := HN.out; omega), if_pos (by have := HN.out; omega)]
          exact ⟨this, by unfold appL; rw [this]; rfl⟩
        have q1 : (1048576 : Int) < (ls : Int) + 12 + (rn : Int) := by omega
        clear hX f1 f2 f3 f4 hok hv hls
        go_enter Tryd.func27, Tryd.ntmps27
        go_wp2_with fail
        go_ret
        rw [HE.out.1, HE.out.2]
        exact ⟨rfl, HSAME.out⟩
    · as_aux_lemma =>
        have HE : Hid (appE l r = 0 ∧ appL l r = l.app r) := by
          have : appE l r = 0 := by unfold appE; rw [if_neg (by have := HN.out; omega), if_neg (by have := HN.out; omega)]
          exact ⟨this, by unfold appL; rw [if_pos this]⟩
        have q1 : ¬ (1048576 : Int) < (ls : Int) + 12 + (rn : Int) := by omega
        obtain ⟨lc, hlc⟩ : ∃ lc, lc = l.cur := ⟨_, rfl⟩
        obtain ⟨lg, hlg⟩ : ∃ lg, lg = l.gen := ⟨_, rfl⟩
        obtain ⟨lf, hlf⟩ : ∃ lf, lf = l.fr := ⟨_, rfl⟩
        rw [← hlc] at c3
        rw [← hlg] at c4
        rw [← hlf] at c5
        have hlfb : lf ≤ 1000000 := by have := hok.low; have := hok.high; omega
        obtain ⟨aw, cw, hvw, hcw1, hcw2⟩ := row_shape hX.w
        obtain ⟨n, hn⟩ : ∃ n, n = X.length := ⟨_, rfl⟩
        rw [← hn] at hvw hcw1
        subst hvw
        have hnb : n + 1 ≤ 3000000000000 := by have h9 := congrArg List.length hX.wr; rw [List.length_map] at h9; omega
        have hrow : u.heap[p]? = some (rfRow va vb (.slice aw n cw) lc lg lf ls) := by rw [hlc, hlg, hlf, hls]; exact hX.row
        have hgb : lg < 4294967296 := by rw [hlg]; exact hok.gen
        have HFR : Hid (Calls Tryd.prog 54 #[.int .i64 (lg : Int), .int .i64 (lf : Int), .slice ao rn rc] { u with drawn := u.drawn + 1 } fun e w' => ∃ a m c, e = .returned (.slice a m c) ∧ OwnB w' u.heap.size (.slice a m c) (frame lg lf r) ∧ Below u.heap.size u w') := by
          refine (frameR_any lg lf _ r { u with drawn := u.drawn + 1 } (hv.below (below_drew (Below.refl _ _))) hgb (by omega) (by have := HN.out; omega)).mono ?_
          rintro e w' ⟨v', rfl, h1, h2⟩
          obtain ⟨a, m, c, rfl, -⟩ := h1.sl
          exact ⟨a, m, c, rfl, h1, h2.os, h2.tape, h2.output, h2.size, h2.block⟩
        obtain ⟨i0, hi0, hz0, hz1, hz2⟩ := info_parts infoWR
        have HI := hid hi0
        have HB := hid hB
        have hC3 : n + 1 ≤ maxLen := by unfold maxLen; omega
        have hC : (n + 1) * 40 ≤ 140737488355328 := by omega
        have hr0 := hrow
        unfold rfRow at hr0
        have hnp : (Value.slice aw n cw).ownBlock ≠ some p := row_ne hX.w hr0 (by decide)
        have hvw : ∀ k, (Value.slice aw n cw).ownBlock = some k → k < u.heap.size := fun k e => f4 k (f3 k e)
        have HVW := hid hvw
        have HKR : Hid (∀ w, Keeps (fun k => (Value.slice aw n cw).ownBlock = some k) u w → w.heap[p]? = some (rfRow va vb (.slice aw n cw) lc lg lf ls)) := fun w hk => (hk.block p hp hnp).trans hrow
        have HOWN : Hid (∀ w, Below u.heap.size u w → w.ownsRow B 89 3 (.slice aw n cw) n (X.flatMap wc)) := fun w hb => by
          have := (hX.below hb).w
          rw [← hn] at this
          exact this
        have HBIG : Hid (∀ (w : World) (a : Option Addr) (m c : Nat), OwnB w u.heap.size (.slice a m c) (frame lg lf r) → w.heap.size = u.heap.size → False) := fun w a m c ho e => by
          rcases ho.2 with ⟨-, h1⟩ | ⟨g, cap, cur, h1, -⟩
          · rw [frame_len] at h1
            omega
          · have h2 := World.ownsRow.lt ho g (by rw [h1]; rfl)
            omega
        have HFIN : Hid (∀ (w6 : World) (a : Option Addr) (m c g6 cap6 : Nat), Keeps (fun k => (Value.slice aw n cw).ownBlock = some k) u w6 → OwnB w6 u.heap.size (.slice a m c) (frame lg lf r) → w6.ownsRow B 89 3 (.slice (some ⟨g6, 0, none⟩) (n + 1) cap6) (n + 1) (X.flatMap wc ++ [.int .i64 (lc : Int), .int .i64 (ls : Int), .slice a m c]) → (Value.ownBlock (.slice aw n cw) = some g6 ∨ u.heap.size ≤ g6) → (∀ k, (Value.slice a m c).ownBlock = some k → k ≠ g6) →
            LeftR B u (((w6.setCell ⟨p, 2, none⟩ (.slice (some ⟨g6, 0, none⟩) (n + 1) cap6)).setCell ⟨p, 6, none⟩ (.int .i64 ((ls : Int) + 12 + (rn : Int)))).setCell ⟨p, 5, none⟩ (.int .i64 ((lf : Int) + 1))) F p (l.app r)) := by
          intro w6 a m c g6 cap6 hk6 hoh how hat hxg
          have hr6 := HKR.out w6 hk6
          unfold rfRow at hr6
          have hrF := set_cells (i := 5) (v := .int .i64 ((lf : Int) + 1)) (set_cells (i := 6) (v := .int .i64 ((ls : Int) + 12 + (rn : Int))) (set_cells (i := 2) (v := .slice (some ⟨g6, 0, none⟩) (n + 1) cap6) hr6))
          refine hX.push2 (w6 := w6) (ar := lc) (pl := ls) (xh := .slice a m c) (bs := frame lg lf r) (n6 := n + 1) (cap6 := cap6) f1 f2 f3 f4 hB (hk6.mono (fun k _ e => .inr e)) hoh (frame_bytes hv.bytes) ?_ hat hxg ((((Keeps.refl (At1 p) w6).set ⟨p, 2, none⟩ rfl _).set ⟨p, 6, none⟩ rfl _).set ⟨p, 5, none⟩ rfl _) (hrF.trans ?_) rfl rfl ?_
          · rw [List.length_append, List.flatMap_append, ← hn]
            exact how
          · show some (Obj.cells #[va, vb, .slice (some ⟨g6, 0, none⟩) (n + 1) cap6, .int .i64 (lc : Int), .int .i64 (lg : Int), .int .i64 ((lf : Int) + 1), .int .i64 ((ls : Int) + 12 + (rn : Int))] 86 (0, 0)) = some (rfRow va vb (.slice (some ⟨g6, 0, none⟩) (n + 1) cap6) l.cur l.gen (l.fr + 1) (l.size + (12 + r.length)))
            unfold rfRow
            rw [← hlc, ← hlg, ← hlf, ← hls, show ((lf + 1 : Nat) : Int) = (lf : Int) + 1 by omega, show ((ls + (12 + r.length) : Nat) : Int) = (ls : Int) + 12 + (rn : Int) by have := HN.out; omega]
          · show l.ws ++ [⟨l.cur, l.size, frame l.gen l.fr r⟩] = _
            rw [← hlc, ← hlg, ← hlf, ← hls]
        have HLB : Hid (lf ≤ 1000000 ∧ ls ≤ 1048576 ∧ rn ≤ 65536) := ⟨hlfb, hlb, by omega⟩
        clear hX f1 f2 f3 f4 hok hv hls hlc hlg hlf hn hi0 hrow hr0 hnp HH HSAME
        have hp0 := hp
        go_enter Tryd.func27, Tryd.ntmps27
        go_upto_region 5 with fail
        refine wp_region_gen' 28 (fun i => 17 + i) (FA [.pointer (some ⟨p, 0, none⟩), .pointer (some ⟨p, 0, none⟩), .pointer (some ⟨p, 0, none⟩), .pointer (some ⟨p, 2, none⟩), .slice aw n cw, .pointer (some ⟨p, 0, none⟩), .pointer (some ⟨p, 0, none⟩), .pointer (some ⟨p, 3, none⟩), .int .i64 (lc : Int), .pointer (some ⟨p, 0, none⟩), .pointer (some ⟨p, 0, none⟩), .pointer (some ⟨p, 6, none⟩), .int .i64 (ls : Int), .pointer (some ⟨p, 0, none⟩), .pointer (some ⟨p, 0, none⟩), .pointer (some ⟨p, 4, none⟩), .int .i64 (lg : Int), .pointer (some ⟨p, 0, none⟩), .pointer (some ⟨p, 0, none⟩), .pointer (some ⟨p, 5, none⟩), .int .i64 (lf : Int), .slice ao rn rc, .bool false, .bool false, .bool false, .bool false, .pointer (some ⟨p, 0, none⟩), .pointer (some ⟨p, 2, none⟩)] u.heap.size n B (.slice aw n cw) (X.flatMap wc) lc ls (frame lg lf r)) (IA u (.slice aw n cw)) (RA (.slice aw n cw)) (by kernel_rfl) (by kernel_rfl) ⟨fun _ => rfl, fun _ => ⟨rfl, rfl, rfl, Nat.le_refl _, fun _ _ => rfl⟩, ⟨rfl, rfl, rfl, Nat.le_refl _, fun _ _ _ => rfl⟩⟩ (FA.keeps hvw) ?_ ?_
        · simp only [List.take_succ_cons, List.take_zero, stepsG]
          refine ⟨?_, ?_, ?_, ?_, ?_, ?_, ?_, ?_, ?_, ?_, ?_, ?_, ?_, ?_, ?_, ?_, ?_, ?_, ?_, ?_, ?_, ?_, ?_, ?_, ?_, ?_, ?_, ?_, trivial⟩
          · intro a w vs pp hI hp hold hdep
            exact wp_stillAp (ex_move (.tmp 0) _ rfl (hold 0 (fun j _ => low (by decide)))) rfl (by decide) rfl hI
          · intro a w vs pp hI hp hold hdep
            exact wp_stillAp (ex_move (.tmp 0) _ rfl (hold 0 (fun j _ => low (by decide)))) rfl (by decide) rfl hI
          · intro a w vs pp hI hp hold hdep
            have h1 := FA.dep (hdep ⟨1, .data⟩ (by simp) rfl (by decide)) (by decide) rfl
            exact wp_stillAp (ex_nil ⟨p, 0, none⟩ (.tmp 18) rfl h1) rfl (by decide) rfl hI
          · intro a w vs pp hI hp hold hdep
            have h1 := FA.dep (hdep ⟨2, .data⟩ (by simp) rfl (by decide)) (by decide) rfl
            exact wp_stillAp (ex_field _ ⟨p, 0, none⟩ (.tmp 19) 1 _ rfl h1 (field_lgR p w).1) rfl (by decide) rfl hI
          · intro a w vs pp hI hp hold hdep
            have h1 := FA.dep (hdep ⟨3, .data⟩ (by simp) rfl (by decide)) (by decide) rfl
            exact wp_stillAp (ex_load _ ⟨p, 2, none⟩ (.tmp 20) _ rfl h1 (load_wsR (rf_cells (HKR.out w hI.2.2)).2.2.1)) rfl (by decide) rfl hI
          · intro a w vs pp hI hp hold hdep
            exact wp_stillAp (ex_move (.tmp 0) _ rfl (hold 0 (fun j _ => low (by decide)))) rfl (by decide) rfl hI
          · intro a w vs pp hI hp hold hdep
            have h1 := FA.dep (hdep ⟨5, .data⟩ (by simp) rfl (by decide)) (by decide) rfl
            exact wp_stillAp (ex_nil ⟨p, 0, none⟩ (.tmp 22) rfl h1) rfl (by decide) rfl hI
          · intro a w vs pp hI hp hold hdep
            have h1 := FA.dep (hdep ⟨6, .data⟩ (by simp) rfl (by decide)) (by decide) rfl
            exact wp_stillAp (ex_field _ ⟨p, 0, none⟩ (.tmp 23) 2 _ rfl h1 (field_lgR p w).2.1) rfl (by decide) rfl hI
          · intro a w vs pp hI hp hold hdep
            have h1 := FA.dep (hdep ⟨7, .data⟩ (by simp) rfl (by decide)) (by decide) rfl
            exact wp_stillAp (ex_load _ ⟨p, 3, none⟩ (.tmp 24) _ rfl h1 (load_in (rf_cells (HKR.out w hI.2.2)).2.2.2.1)) rfl (by decide) rfl hI
          · intro a w vs pp hI hp hold hdep
            exact wp_stillAp (ex_move (.tmp 0) _ rfl (hold 0 (fun j _ => low (by decide)))) rfl (by decide) rfl hI
          · intro a w vs pp hI hp hold hdep
            have h1 := FA.dep (hdep ⟨9, .data⟩ (by simp) rfl (by decide)) (by decide) rfl
            exact wp_stillAp (ex_nil ⟨p, 0, none⟩ (.tmp 26) rfl h1) rfl (by decide) rfl hI
          · intro a w vs pp hI hp hold hdep
            have h1 := FA.dep (hdep ⟨10, .data⟩ (by simp) rfl (by decide)) (by decide) rfl
            exact wp_stillAp (ex_field _ ⟨p, 0, none⟩ (.tmp 27) 5 _ rfl h1 (field_lgR p w).2.2.2.2) rfl (by decide) rfl hI
          · intro a w vs pp hI hp hold hdep
            have h1 := FA.dep (hdep ⟨11, .data⟩ (by simp) rfl (by decide)) (by decide) rfl
            exact wp_stillAp (ex_load _ ⟨p, 6, none⟩ (.tmp 28) _ rfl h1 (load_in (rf_cells (HKR.out w hI.2.2)).2.2.2.2.2.2.1)) rfl (by decide) rfl hI
          · intro a w vs pp hI hp hold hdep
            exact wp_stillAp (ex_move (.tmp 0) _ rfl (hold 0 (fun j _ => low (by decide)))) rfl (by decide) rfl hI
          · intro a w vs pp hI hp hold hdep
            have h1 := FA.dep (hdep ⟨13, .data⟩ (by simp) rfl (by decide)) (by decide) rfl
            exact wp_stillAp (ex_nil ⟨p, 0, none⟩ (.tmp 30) rfl h1) rfl (by decide) rfl hI
          · intro a w vs pp hI hp hold hdep
            have h1 := FA.dep (hdep ⟨14, .data⟩ (by simp) rfl (by decide)) (by decide) rfl
            exact wp_stillAp (ex_field _ ⟨p, 0, none⟩ (.tmp 31) 3 _ rfl h1 (field_lgR p w).2.2.1) rfl (by decide) rfl hI
          · intro a w vs pp hI hp hold hdep
            have h1 := FA.dep (hdep ⟨15, .data⟩ (by simp) rfl (by decide)) (by decide) rfl
            exact wp_stillAp (ex_load _ ⟨p, 4, none⟩ (.tmp 32) _ rfl h1 (load_in (rf_cells (HKR.out w hI.2.2)).2.2.2.2.1)) rfl (by decide) rfl hI
          · intro a w vs pp hI hp hold hdep
            exact wp_stillAp (ex_move (.tmp 0) _ rfl (hold 0 (fun j _ => low (by decide)))) rfl (by decide) rfl hI
          · intro a w vs pp hI hp hold hdep
            have h1 := FA.dep (hdep ⟨17, .data⟩ (by simp) rfl (by decide)) (by decide) rfl
            exact wp_stillAp (ex_nil ⟨p, 0, none⟩ (.tmp 34) rfl h1) rfl (by decide) rfl hI
          · intro a w vs pp hI hp hold hdep
            have h1 := FA.dep (hdep ⟨18, .data⟩ (by simp) rfl (by decide)) (by decide) rfl
            exact wp_stillAp (ex_field _ ⟨p, 0, none⟩ (.tmp 35) 4 _ rfl h1 (field_lgR p w).2.2.2.1) rfl (by decide) rfl hI
          · intro a w vs pp hI hp hold hdep
            have h1 := FA.dep (hdep ⟨19, .data⟩ (by simp) rfl (by decide)) (by decide) rfl
            exact wp_stillAp (ex_load _ ⟨p, 5, none⟩ (.tmp 36) _ rfl h1 (load_in (rf_cells (HKR.out w hI.2.2)).2.2.2.2.2.1)) rfl (by decide) rfl hI
          · intro a w vs pp hI hp hold hdep
            exact wp_stillAp (ex_move (.tmp 1) _ rfl (hold 1 (fun j _ => low (by decide)))) rfl (by decide) rfl hI
          · intro a w vs pp hI hp hold hdep
            have h1 := FA.dep (hdep ⟨16, .data⟩ (by simp) rfl (by decide)) (by decide) rfl
            have h2 := FA.dep (hdep ⟨20, .data⟩ (by simp) rfl (by decide)) (by decide) rfl
            have h3 := FA.dep (hdep ⟨21, .data⟩ (by simp) rfl (by decide)) (by decide) rfl
            obtain rfl := hI.1 hp
            refine wp_call 54 _ _ rfl (enters_of Tryd.func54 (by kernel_rfl) rfl) #[.int .i64 (lg : Int), .int .i64 (lf : Int), .slice ao rn rc] (by simp only [List.map_toArray, List.map_cons, List.map_nil]; rw [show a.eval (.tmp 33) = _ from h1, show a.eval (.tmp 37) = _ from h2, show a.eval (.tmp 38) = _ from h3]) ?_
            refine HFR.out.mono ?_
            rintro _ w1 ⟨xa, xn, xc, rfl, hxo, hxb⟩
            exact ⟨_, rfl, _, rfl, ⟨xa, xn, xc, rfl, hxo⟩, ⟨fun e => by simp at e, fun _ => hxb, Keeps.of hxb⟩, ⟨hxb.os, hxb.tape, hxb.output, hxb.size, fun k hk _ => hxb.block k hk⟩, fun _ => ⟨hxb.os, hxb.tape, hxb.output, hxb.size, hxb.block⟩⟩
          · intro a w vs pp hI hp hold hdep
            have h1 := FA.dep (hdep ⟨8, .data⟩ (by simp) rfl (by decide)) (by decide) rfl
            have h2 := FA.dep (hdep ⟨12, .data⟩ (by simp) rfl (by decide)) (by decide) rfl
            have h3 := hdep ⟨22, .data⟩ (by simp) rfl (by decide)
            obtain ⟨xa, xm, xc, e3, hxo⟩ := h3.2
            have h4 : a.eval (.tmp 39) = .slice xa xm xc := h3.1.trans e3
            exact wp_val (ex_build _ _ #[(0, .int .i64 (lc : Int)), (1, .int .i64 (ls : Int)), (2, .slice xa xm xc)] (.agg #[.int .i64 (lc : Int), .int .i64 (ls : Int), .slice xa xm xc]) rfl (by simp only [List.map_toArray, List.map_cons, List.map_nil]; rw [show a.eval (.tmp 25) = _ from h1, show a.eval (.tmp 29) = _ from h2, h4]) (build_wr _ _ _ _ _ w)) ⟨_, rfl, ⟨xa, xm, xc, rfl, hxo⟩, hI.still (by decide) (by decide), RA.same⟩
          · intro a w vs pp hI hp hold hdep
            have h3 := hdep ⟨23, .data⟩ (by simp) rfl (by decide)
            obtain ⟨xa, xm, xc, e3, hxo⟩ := h3.2
            have h4 : a.eval (.tmp 40) = .agg #[.int .i64 (lc : Int), .int .i64 (ls : Int), .slice xa xm xc] := h3.1.trans e3
            have hbA : Below w.heap.size w (w.alloc (.cells #[.int .i64 (lc : Int), .int .i64 (ls : Int), .slice xa xm xc] 89)) := (Below.refl _ _).alloc (Nat.le_refl _) _
            refine wp_val (ex_bsR _ _ _ #[(0, .agg #[.int .i64 (lc : Int), .int .i64 (ls : Int), .slice xa xm xc])] _ rfl (by simp only [List.map_toArray, List.map_cons, List.map_nil]; rw [h4]) (build1W _ _ _ _ _ w)) ⟨_, rfl, ⟨xa, xm, xc, w.heap.size, rfl, hxo.below hbA, hI.2.2.size, heap_alloc_new w _⟩, ⟨fun e => ?_, fun e => ?_, hI.2.2.trans (Keeps.of hbA)⟩, ⟨Keeps.of hbA, fun _ => hbA⟩⟩
            · have e' := hI.1 (by simpa using e)
              exact (HBIG.out w xa xm xc hxo (by rw [e'])).elim
            · have h5 := hI.2.1 (by simpa using e)
              exact h5.trans (hbA.mono h5.size)
          · intro a w vs pp hI hp hold hdep
            have h1 := FA.dep (hdep ⟨4, .data⟩ (by simp) rfl (by decide)) (by decide) rfl
            have h3 := hdep ⟨24, .data⟩ (by simp) rfl (by decide)
            obtain ⟨xa, xm, xc, k, e3, hxo, hk1, hk2⟩ := h3.2
            have h4 : a.eval (.tmp 41) = .slice (some ⟨k, 0, none⟩) 1 1 := h3.1.trans e3
            have hb := hI.2.1 hp
            refine wp_append_lies w (.tmp 21) (.tmp 41) 84 rfl B 89 i0 (.agg #[.int .i64 0, .int .i64 0, .slice none 0 0]) 3 40 (by kernel_rfl) HI.out hz0 hz1 hz2 rfl (by decide) (.slice aw n cw) n (X.flatMap wc) h1 (HOWN.out w hb) ⟨k, 0, none⟩ 1 1 [.int .i64 (lc : Int), .int .i64 (ls : Int), .slice xa xm xc] h4 (by rfl) (World.news_of_block hk2) (by simp [Value.oneCell']) (by decide) hC3 hC (Nat.le_trans HB.out hb.size) w.heap.size rfl ?_
            intro g6 cap6 w6 hown6 hgrow hat6 hlt6
            have hkg : Keeps (fun k => (Value.slice aw n cw).ownBlock = some k) w w6 := Keeps.grown hgrow (fun k e => e)
            have hxl := fun k hk' => World.ownsRow.lt hxo k hk'
            refine ⟨_, rfl, ⟨xa, xm, xc, g6, cap6, rfl, hxo.keeps hkg (fun k' hk' e => ?_), hown6, ?_, fun k' hk' e => ?_⟩, ⟨fun e => ?_, fun e => by simp at e, hI.2.2.trans hkg⟩, ⟨hkg, fun e => absurd rfl e⟩⟩
            · have h5 := (hxl k' hk').1
              have h6 := HVW.out k' e
              omega
            · rcases hat6 with e | e
              · exact .inl e
              · exact .inr (by rw [e]; exact hb.size)
            · have h5 := hxl k' hk'
              rcases hat6 with e' | e'
              · have h6 := HVW.out g6 e'
                omega
              · omega
            · have e' := hI.1 (by simpa using e)
              exact (HBIG.out w xa xm xc hxo (by rw [e'])).elim
          · intro a w vs pp hI hp hold hdep
            have h1 := FA.dep (hdep ⟨0, .data⟩ (by simp) rfl (by decide)) (by decide) rfl
            exact wp_stillAp (ex_nil ⟨p, 0, none⟩ (.tmp 17) rfl h1) rfl (by decide) rfl hI
          · intro a w vs pp hI hp hold hdep
            have h1 := FA.dep (hdep ⟨26, .data⟩ (by simp) rfl (by decide)) (by decide) rfl
            exact wp_stillAp (ex_field _ ⟨p, 0, none⟩ (.tmp 43) 1 _ rfl h1 (field_lgR p w).1) rfl (by decide) rfl hI
        · intro vs pp w hI hp hF
          obtain ⟨xa, xm, xc, g6, cap6, e25, ho, how, hat, hxg⟩ := hF 25 (by decide)
          have e27 : vs 27 = .pointer (some ⟨p, 2, none⟩) := (Option.some.inj ((FA.val (by decide) (by decide) (by decide) (by decide)).1 (hF 27 (by decide)))).symm
          have HE2 := hid (HFIN.out w xa xm xc g6 cap6 hI.2.2 ho how hat hxg)
          obtain ⟨-, -, k2, k3, k4, k5, k6, kf⟩ := rf_cells (HKR.out w hI.2.2)
          have hpw : p < w.heap.size := Nat.lt_of_lt_of_le hp0 hI.2.2.size
          generalize vs 0 = y0
          generalize vs 1 = y1
          generalize vs 2 = y2
          generalize vs 3 = y3
          generalize vs 4 = y4
          generalize vs 5 = y5
          generalize vs 6 = y6
          generalize vs 7 = y7
          generalize vs 8 = y8
          generalize vs 9 = y9
          generalize vs 10 = y10
          generalize vs 11 = y11
          generalize vs 12 = y12
          generalize vs 13 = y13
          generalize vs 14 = y14
          generalize vs 15 = y15
          generalize vs 16 = y16
          generalize vs 17 = y17
          generalize vs 18 = y18
          generalize vs 19 = y19
          generalize vs 20 = y20
          generalize vs 21 = y21
          generalize vs 22 = y22
          generalize vs 23 = y23
          generalize vs 24 = y24
          generalize vs 26 = y26
          simp only [List.drop_succ_cons, List.drop_zero, puts, List.range, List.range.loop, List.foldr, if_true, Act.put, e25, e27, Nat.reduceAdd, List.setIfInBounds_toArray, List.set_cons_succ, List.set_cons_zero]
          clear e25 e27 hF hp ho how hat hxg hI HFIN HKR HOWN HBIG c0 c1 c2 c3 c4 c5 c6 cf
          go_wp2_with fail
          go_ret
          rw [HE.out.1, HE.out.2]
          exact ⟨rfl, HE2.out⟩
end Go.Proofs.YteoebmpfdcbbmacDoor

namespace Go.Proofs.YteoebmpfdcbbmacDoor
open Go.ChangeShapes Go.WideShapes Go.ChangeAt Go.RowKit Jn N
set_option maxHeartbeats 4000000
set_option maxRecDepth 100000

theorem crash_all : ∀ (xs : List Wr) (d : Dk), okW d xs → crash d (dirt xs) xs = play d xs
  | [], d, _ => by simp [crash, play]
  | x :: xs, d, h => by
    have h1 : dirt (x :: xs) = x.bs.length + dirt xs := by simp [dirt]
    have h2 := h.2.2.1
    unfold crash play
    rw [if_neg (by omega), show min (dirt (x :: xs)) x.bs.length = x.bs.length by omega, show dirt (x :: xs) - x.bs.length = dirt xs by omega]
    exact crash_all xs _ h.2.2.2.2.2

/-- All writes got down. -/
theorem RfX.got {B : Nat} {u W U : World} {p : Nat} {l : Lg} {C F : Nat → Prop} {va vb vw xa xb : Value} {X : List Wv} (h : RfX B u p l C va vb vw X) (hok : l.Ok) (f1 : F p) (f4 : ∀ k, F k → k < u.heap.size) (hB : B ≤ u.heap.size)
    (hb : Below u.heap.size u W) (ha : OwnB W u.heap.size xa l.syn.a) (hb' : OwnB W u.heap.size xb l.syn.b) (hk : Keeps (At1 p) W U) (hrow : U.heap[p]? = some (rfRow xa xb (.slice none 0 0) l.cur l.gen l.fr l.size)) : LeftR B u U F p l.syn := by
  have hlp := (Array.getElem?_eq_some_iff.1 h.row).1
  have hs := hok.syn
  have hsz := hb.size
  have hsU := hk.size
  have hla := fun k hk' => World.ownsRow.lt ha k hk'
  have hlb := fun k hk' => World.ownsRow.lt hb' k hk'
  have haU : OwnB U u.heap.size xa l.syn.a := ha.keeps hk (fun k hk' e => by have := (hla k hk').1; unfold At1 at e; omega)
  have hbU : OwnB U u.heap.size xb l.syn.b := hb'.keeps hk (fun k hk' e => by have := (hlb k hk').1; unfold At1 at e; omega)
  have hC : ∀ k, xa.ownBlock = some k ∨ xb.ownBlock = some k → u.heap.size ≤ k ∧ k < U.heap.size := fun k e => by
    rcases e with e | e
    · have := hla k e; omega
    · have := hlb k e; omega
  refine ⟨⟨fun k => xa.ownBlock = some k ∨ xb.ownBlock = some k, xa, xb, .slice none 0 0, [], ⟨hrow, h.lp, haU.frz hs.ba (fun k e => .inl e), hbU.frz hs.bb (fun k e => .inr e), ⟨rfl, .inl ⟨rfl, rfl⟩⟩, rfl, fun x hx => by simp at hx, fun k hc => ?_⟩, .inl f1, fun k hc => .inr (hC k hc), fun k hv => by simp [Value.ownBlock] at hv, fun k hk' => ?_⟩, (Keeps.of hb).trans (hk.mono (fun k _ e => by unfold At1 at e; exact e ▸ f1))⟩
  · have := hC k hc
    exact ⟨this.2, by omega, by simp [Value.ownBlock], by omega⟩
  · rcases hk' with hk' | hk'
    · have := f4 k hk'; omega
    · exact hk'.2

theorem syncR_any (B : Nat) (F : Nat → Prop) (p : Nat) (l : Lg) (u : World) (h : RefF B F u p l) (hok : l.Ok) (hl : l.ws.length ≤ 3000000000000) (hB : B ≤ u.heap.size) :
    Calls Tryd.prog 31 #[.pointer (some ⟨p, 0, none⟩)] u fun e w' => e = .returned (.tuple #[]) ∧ LeftR B u w' F p l.syn := by
  have hd : dirt l.ws ≤ 4611686018427387904 := by have := okW.le hok.ws; omega
  have HDI := hid (dirtyR_any B p l u h.at hd)
  obtain ⟨d, HD⟩ : ∃ d, Hid (d = dirt l.ws) := ⟨_, rfl⟩
  rw [← HD.out] at HDI
  have HCR : Hid (Calls Tryd.prog 34 #[.pointer (some ⟨p, 0, none⟩), .int .i64 (d : Int)] u fun e w' => ∃ aa na ca ab nb cb, e = .returned (.agg #[.slice aa na ca, .slice ab nb cb]) ∧ OwnB w' u.heap.size (.slice aa na ca) l.syn.a ∧ OwnB w' u.heap.size (.slice ab nb cb) l.syn.b ∧ Below u.heap.size u w') := by
    refine (crashR_any B p l (d : Int) u h.at hok (by rw [HD.out]; omega)).mono ?_
    rintro e w' ⟨xa, xb, rfl, ⟨aa, na, ca, rfl⟩, ⟨ab, nb, cb, rfl⟩, h1, h2, h3⟩
    rw [Int.toNat_natCast, HD.out, crash_all _ _ hok.ws] at h1 h2
    exact ⟨aa, na, ca, ab, nb, cb, rfl, h1, h2, h3⟩
  obtain ⟨C, va, vb, vw, X, hX, f1, f2, f3, f4⟩ := h
  have hp := (Array.getElem?_eq_some_iff.1 hX.row).1
  obtain ⟨lc, hlc⟩ : ∃ lc, lc = l.cur := ⟨_, rfl⟩
  obtain ⟨lg, hlg⟩ : ∃ lg, lg = l.gen := ⟨_, rfl⟩
  obtain ⟨lf, hlf⟩ : ∃ lf, lf = l.fr := ⟨_, rfl⟩
  obtain ⟨ls, hls⟩ : ∃ ls, ls = l.size := ⟨_, rfl⟩
  have HRO : Hid (∀ w1, Below u.heap.size u w1 → w1.heap[p]? = some (rfRow va vb vw lc lg lf ls)) := fun w1 hb => by
    rw [hlc, hlg, hlf, hls]; exact below_keeps hb hX.row hp
  have HFIN : Hid (∀ (w1 : World) (xa xb : Value), OwnB w1 u.heap.size xa l.syn.a → OwnB w1 u.heap.size xb l.syn.b → Below u.heap.size u w1 → LeftR B u (((w1.setCell ⟨p, 0, none⟩ xa).setCell ⟨p, 1, none⟩ xb).setCell ⟨p, 2, none⟩ (.slice none 0 0)) F p l.syn) := fun w1 xa xb h1 h2 hb => by
    have hr := HRO.out w1 hb
    unfold rfRow at hr
    have hrF := set_cells (i := 2) (v := .slice none 0 0) (set_cells (i := 1) (v := xb) (set_cells (i := 0) (v := xa) hr))
    refine hX.got hok f1 f4 hB hb h1 h2 ((((Keeps.refl (At1 p) w1).set ⟨p, 0, none⟩ rfl _).set ⟨p, 1, none⟩ rfl _).set ⟨p, 2, none⟩ rfl _) (hrF.trans ?_)
    rw [hlc, hlg, hlf, hls]
    rfl
  clear hX f1 f2 f3 f4 hok hd hlc hlg hlf hls
  go_enter Tryd.func31, Tryd.ntmps31
  go_wp2_with fail
  refine HDI.out.mono ?_
  rintro _ w0 ⟨rfl, rfl⟩
  go_wp2_with fail
  refine HCR.out.mono ?_
  rintro _ w1 ⟨aa, na, ca, ab, nb, cb, rfl, h1, h2, h3⟩
  have HLF := hid (HFIN.out w1 _ _ h1 h2 h3)
  obtain ⟨k0, k1, k2, k3, k4, k5, k6, kf⟩ := rf_cells (HRO.out w1 h3)
  have hpw : p < w1.heap.size := Nat.lt_of_lt_of_le hp h3.size
  clear h1 h2 h3
  go_wp2_with fail
  exact bodyPost_end (results_none Tryd.results31 _ _ _) rfl ⟨rfl, HLF.out⟩
end Go.Proofs.YteoebmpfdcbbmacDoor

namespace Go.Proofs.YteoebmpfdcbbmacDoor
open Go.ChangeShapes Go.WideShapes Go.ChangeAt Go.RowKit Jn N
set_option maxHeartbeats 16000000
set_option maxRecDepth 100000

theorem bs_app (A C : List Nat) : bs (A ++ C) = bs A ++ bs C := by simp [bs]
theorem bs_length (A : List Nat) : (bs A).length = A.length := by simp [bs]
theorem bs_one (A : List Nat) : ∀ y ∈ bs A, y.oneCell' = true := by
  intro y hy
  simp only [bs, List.mem_map] at hy
  obtain ⟨x, -, rfl⟩ := hy
  rfl
/-- A frame that was made: its cells. -/
theorem OwnB.news {w : World} {B : Nat} {v : Value} {L : List Nat} (h : OwnB w B v L) (hl : 0 < L.length) : ∃ g m c, v = .slice (some ⟨g, 0, none⟩) m c ∧ Hid (m = L.length) ∧ B ≤ g ∧ g < w.heap.size ∧ Hid (∀ j y, (bs L)[j]? = some y → w.cell? ((⟨g, 0, none⟩ : Addr).add j) = some y) := by
  obtain ⟨a, m, c, rfl, hm, -, -⟩ := h.sl
  have h' : w.ownsRow B 5 1 (.slice a m c) m (bs L) := by rw [hm]; rw [hm] at h; exact h
  obtain ⟨g, rfl, h1, h2, -, -⟩ := row_cell h' (List.getElem?_eq_getElem (l := bs L) (i := 0) (by rw [bs_length]; exact hl))
  refine ⟨g, m, c, rfl, hm, h1, h2, fun j y hy => ?_⟩
  obtain ⟨g', e, -, -, -, h3⟩ := row_cell h' hy
  simp at e
  subst e
  rw [show (⟨g, 0, none⟩ : Addr).add j = ⟨g, j, none⟩ by unfold Addr.add; split <;> simp_all]
  exact h3

theorem rewriteR_any (B : Nat) (F : Nat → Prop) (p : Nat) (l : Lg) (v : Value) (rs : List (List Nat)) (u : World) (h : RefF B F u p l) (hok : l.Ok) (hv : ∀ u', Keeps (fun k => B ≤ k) u u' → SeesBB u' v rs) (hrl : rs.length ≤ 8796093022208) (hl : l.ws.length + 1 ≤ 3000000000000) (hB : B ≤ u.heap.size) :
    Calls Tryd.prog 29 #[.pointer (some ⟨p, 0, none⟩), v] u fun e w' => e = .returned (.int .i64 ((rewE rs : Nat) : Int)) ∧ LeftR B u w' F p (rewL l rs) := by
  have HSAME := hid h.same
  have hv0 := hv u (Keeps.refl _ _)
  have HV0 := hid hv0
  have HVK := hid hv
  obtain ⟨C, va, vb, vw, X, hX, f1, f2, f3, f4⟩ := h
  obtain ⟨ao, n, cap, rfl, HN, hn1, hn2⟩ := hv0.shape
  unfold maxLen at hn2
  have hn3 : n ≤ 8796093022208 := by have := HN.out; omega
  have hp := (Array.getElem?_eq_some_iff.1 hX.row).1
  have hpB := hX.lp
  obtain ⟨lc, hlc⟩ : ∃ lc, lc = l.cur := ⟨_, rfl⟩
  obtain ⟨lg, hlg⟩ : ∃ lg, lg = l.gen := ⟨_, rfl⟩
  obtain ⟨lf, hlf⟩ : ∃ lf, lf = l.fr := ⟨_, rfl⟩
  obtain ⟨ls, hls⟩ : ∃ ls, ls = l.size := ⟨_, rfl⟩
  obtain ⟨gg, hgg⟩ : ∃ gg, gg = (lg + 1) % 4294967296 := ⟨_, rfl⟩
  obtain ⟨nc, hnc⟩ : ∃ nc, nc = 1 - lc := ⟨_, rfl⟩
  have hgl : lg < 4294967296 := by rw [hlg]; exact hok.gen
  have hcl : lc < 2 := by rw [hlc]; exact hok.cur
  have HGG : Hid (gg = (l.gen + 1) % 4294967296) := by unfold Hid; rw [hgg, hlg]
  have HNC : Hid (nc = 1 - l.cur) := by unfold Hid; rw [hnc, hlc]
  have hggb : gg < 4294967296 := by omega
  have g1 : Int.tmod ((lg : Int) + 1) 4294967296 = (gg : Int) := by rw [Int.tmod_eq_emod_of_nonneg (by omega)]; omega
  have g2 : (1 : Int) - (lc : Int) = (nc : Int) := by omega
  obtain ⟨aw, cw, hvw, hcw1, hcw2⟩ := row_shape hX.w
  obtain ⟨nw, hnw⟩ : ∃ nw, nw = X.length := ⟨_, rfl⟩
  rw [← hnw] at hvw hcw1
  subst hvw
  have hnb : nw + 1 ≤ 3000000000000 := by have h9 := congrArg List.length hX.wr; rw [List.length_map] at h9; omega
  have hrow : u.heap[p]? = some (rfRow va vb (.slice aw nw cw) lc lg lf ls) := by rw [hlc, hlg, hlf, hls]; exact hX.row
  obtain ⟨c0, c1, c2, c3, c4, c5, c6, cf⟩ := rf_cells hrow
  obtain ⟨u1, HU1⟩ : ∃ u1, Hid (u1 = u.setCell ⟨p, 4, none⟩ (.int .i64 (gg : Int))) := ⟨_, rfl⟩
  have hk1 : Keeps (At1 p) u u1 := by rw [HU1.out]; exact (Keeps.refl (At1 p) u).set ⟨p, 4, none⟩ rfl _
  have hs1 : u1.heap.size = u.heap.size := by rw [HU1.out]; simp [World.setCell]
  obtain ⟨us, HUS⟩ : ∃ us, Hid (us = u.heap.size) := ⟨_, rfl⟩
  have hpus : p < us := by rw [HUS.out]; exact hp
  have HS1 : Hid (u1.heap.size = us) := hs1.trans HUS.out.symm
  have hr1 : u1.heap[p]? = some (rfRow va vb (.slice aw nw cw) lc gg lf ls) := by
    rw [HU1.out]
    have hr := hrow
    unfold rfRow at hr ⊢
    exact set_cells hr
  have HR1 : Hid (∀ W, Below us u1 W → W.heap[p]? = some (rfRow va vb (.slice aw nw cw) lc gg lf ls)) := fun W hb => below_keeps hb hr1 hpus
  have hv1 := hv u1 (hk1.mono (fun k _ e => by unfold At1 at e; omega))
  have HV1 := hid hv1
  have hvw : ∀ k, (Value.slice aw nw cw).ownBlock = some k → k < us := fun k e => by rw [HUS.out]; exact f4 k (f3 k e)
  have HVW := hid hvw
  have hr0 := hrow
  unfold rfRow at hr0
  have hnp : (Value.slice aw nw cw).ownBlock ≠ some p := row_ne hX.w hr0 (by decide)
  have HNP := hid hnp
  have HX0 := hid hX
  have HBy : Hid (∀ r ∈ rs, ∀ y ∈ r, y < 256) := fun r hr y hy => by
    obtain ⟨i, hi⟩ := List.mem_iff_getElem?.1 hr
    obtain ⟨_, _, x, r', _, _, _, hx, HX⟩ := HV0.out.at i (by have := (List.getElem?_eq_some_iff.1 hi).1; have := HN.out; omega)
    have e : r' = r := by have h1 := HX.out; rw [hi] at h1; exact (Option.some.inj h1).symm
    rw [← e] at hy
    exact hx.bytes y hy
  -- what it leaves
  have HFIN : Hid (∀ (wr w6 : World) (a : Option Addr) (m c g6 cap6 : Nat), Hid (m = 16 + baseL rs) → OwnB wr us (.slice a m c) (gener gg rs) → Below us u1 wr → w6.ownsRow B 89 3 (.slice (some ⟨g6, 0, none⟩) (nw + 1) cap6) (nw + 1) (X.flatMap wc ++ [.int .i64 (nc : Int), .int .i64 0, .slice a m c]) → ∀ U3 W, U3 = ((wr.setCell ⟨p, 3, none⟩ (.int .i64 (nc : Int))).setCell ⟨p, 5, none⟩ (.int .i64 (n : Int))).setCell ⟨p, 6, none⟩ (.int .i64 (m : Int)) → Below U3.heap.size U3 W → W.grownBy w6 (Value.ownBlock (.slice aw nw cw)) → (Value.ownBlock (.slice aw nw cw) = some g6 ∨ wr.heap.size ≤ g6) →
      LeftR B u (w6.setCell ⟨p, 2, none⟩ (.slice (some ⟨g6, 0, none⟩) (nw + 1) cap6)) F p (l.rew rs)) := by
    intro wr w6 a m c g6 cap6 hm hoh hb how U3 W hU3 hbW hg hat
    have hk3 : Keeps (At1 p) wr U3 := by rw [hU3]; exact (((Keeps.refl (At1 p) wr).set ⟨p, 3, none⟩ rfl _).set ⟨p, 5, none⟩ rfl _).set ⟨p, 6, none⟩ rfl _
    have hs3 : U3.heap.size = wr.heap.size := by rw [hU3]; simp [World.setCell]
    have hkg : Keeps (fun k => (Value.slice aw nw cw).ownBlock = some k) W w6 := Keeps.grown hg (fun k e => e)
    have hbs := hb.size
    have hxl := fun k hk' => World.ownsRow.lt hoh k hk'
    have hr3 : U3.heap[p]? = some (rfRow va vb (.slice aw nw cw) nc gg n m) := by
      have hr := HR1.out wr hb
      unfold rfRow at hr ⊢
      rw [hU3]
      exact set_cells (set_cells (set_cells hr))
    have hp3 := (Array.getElem?_eq_some_iff.1 hr3).1
    have hr6 : w6.heap[p]? = some (rfRow va vb (.slice aw nw cw) nc gg n m) := (hkg.block p (Nat.lt_of_lt_of_le hp3 hbW.size) HNP.out).trans ((hbW.block p hp3).trans hr3)
    have hk6 : Keeps (fun k => k = p ∨ (Value.slice aw nw cw).ownBlock = some k) u w6 := by
      have hb' : Below u1.heap.size u1 wr := by rw [HS1.out]; exact hb
      exact ((((hk1.mono (fun k _ e => .inl e)).trans (Keeps.of hb')).trans (hk3.mono (fun k _ e => .inl e))).trans (Keeps.of hbW)).trans (hkg.mono (fun k _ e => .inr e))
    have hx6 : OwnB w6 us (.slice a m c) (gener gg rs) := ((hoh.keeps hk3 (fun k hk' e => by have := (hxl k hk').1; unfold At1 at e; omega)).below hbW).keeps hkg (fun k hk' e => by have := (hxl k hk').1; have := HVW.out k e; omega)
    rw [HUS.out] at hx6
    unfold rfRow at hr6
    have hrF := set_cells (i := 2) (v := .slice (some ⟨g6, 0, none⟩) (nw + 1) cap6) hr6
    refine HX0.out.push2 (w6 := w6) (ar := nc) (pl := 0) (xh := .slice a m c) (bs := gener gg rs) (n6 := nw + 1) (cap6 := cap6) f1 f2 f3 f4 hB hk6 hx6 (gener_bytes HBy.out) ?_ (hat.imp id (fun e => by have := HUS.out; omega)) (fun k hk' e => ?_) ((Keeps.refl (At1 p) w6).set ⟨p, 2, none⟩ rfl _) (hrF.trans ?_) rfl rfl ?_
    · rw [List.length_append, List.flatMap_append, ← hnw]
      exact how
    · have h1 := hxl k hk'
      rcases hat with e' | e'
      · have := HVW.out g6 e'; omega
      · omega
    · show some (Obj.cells #[va, vb, .slice (some ⟨g6, 0, none⟩) (nw + 1) cap6, .int .i64 (nc : Int), .int .i64 (gg : Int), .int .i64 (n : Int), .int .i64 (m : Int)] 86 (0, 0)) = some (rfRow va vb (.slice (some ⟨g6, 0, none⟩) (nw + 1) cap6) (1 - l.cur) ((l.gen + 1) % 4294967296) rs.length (16 + baseL rs))
      unfold rfRow
      rw [← HNC.out, ← HGG.out, ← HN.out, ← hm.out]
    · show l.ws ++ [⟨1 - l.cur, 0, gener ((l.gen + 1) % 4294967296) rs⟩] = _
      rw [← HNC.out, ← HGG.out]
  have HOWN : Hid (∀ W, Keeps (fun k => k = p ∨ us ≤ k) u W → W.ownsRow B 89 3 (.slice aw nw cw) nw (X.flatMap wc)) := fun W hk => by
    have h1 := HX0.out.w
    rw [← hnw] at h1
    exact row_keeps h1 hk (fun k hk' e => by
      have h2 := HVW.out k hk'
      rcases e with e | e
      · exact HNP.out (by rw [hk', e])
      · omega)
  have HK1 := hid hk1
  clear hX f1 f2 f3 f4 hok hv hv0 hv1 hlc hlg hlf hls hnw hrow hr0 hr1 hk1 hnp hgg hnc HVK HGG HNC HX0
  go_enter Tryd.func29, Tryd.ntmps29
  go_wp2_with fail
  go_loop [5, 6] (fun b i => ∃ k q : Nat, b = .int .i64 (q : Int) ∧ i = .int .i64 (k : Int) ∧ k ≤ n ∧ Hid (q = baseL (rs.take k)) ∧ q ≤ 65548 * k ∧ Hid (∀ r ∈ rs.take k, r.length ≤ 65536)) (fun _ i => n - (intOf i).toNat)
  case atStart => exact ⟨0, 0, rfl, rfl, Nat.zero_le _, rfl, Nat.le_refl _, fun r hr => by simp at hr⟩
  case round =>
    obtain ⟨k, q, rfl, rfl, hk, HQ, hq, HS⟩ := hrel
    by_cases hlt : k < n
    · obtain ⟨gr, off, x, r, rfl, hgr, hc, hx, HX⟩ := HV0.out.at k hlt
      obtain ⟨ax, nx, cx, rfl, HNX, hx1, hx2⟩ := hx.shape
      unfold maxLen at hx2
      by_cases hb : 65536 < nx
      · have HE : Hid (rewE rs = 2 ∧ rewL l rs = l) := by
          have : rewE rs = 2 := by
            unfold rewE
            rw [if_pos (List.any_eq_true.2 ⟨r, List.mem_of_getElem? HX.out, by simp; have := HNX.out; omega⟩)]
          exact ⟨this, by unfold rewL; rw [this]; rfl⟩
        clear hx HX
        go_wp2_with fail
        go_ret
        rw [HE.out.1, HE.out.2]
        exact ⟨rfl, HSAME.out⟩
      · have HS2 : Hid ((∀ r ∈ rs.take (k + 1), r.length ≤ 65536) ∧ q + 12 + nx = baseL (rs.take (k + 1))) := by
          rw [Hid, take_snoc HX.out]
          refine ⟨fun r' hr' => ?_, ?_⟩
          · rcases List.mem_append.1 hr' with h | h
            · exact HS.out r' h
            · simp at h; rw [h, ← HNX.out]; omega
          · rw [baseL_append, ← HQ.out, HNX.out]; simp [baseL]; omega
        clear hx HX
        go_wp2_with fail
        go_round
        case rel => exact ⟨k + 1, q + 12 + nx, by go_num, by go_num, by omega, HS2.out.2, by omega, HS2.out.1⟩
        case measure => simp [intOf]; omega
    · have hkn : rs.take k = rs := List.take_of_length_le (by have := HN.out; omega)
      have HQ2 : Hid (q = baseL rs) := by have := HQ.out; rw [hkn] at this; exact this
      have HS2 : Hid (∀ r ∈ rs, r.length ≤ 65536) := by have := HS.out; rw [hkn] at this; exact this
      have HAN : Hid (rs.any (fun r => decide (65536 < r.length)) = false) := by
        unfold Hid
        rw [List.any_eq_false]
        intro r hr
        have := HS2.out r hr
        simp; omega
      clear hkn HQ HS
      by_cases hfull : 1048576 < 16 + q
      · have HE : Hid (rewE rs = 4 ∧ rewL l rs = l) := by
          have : rewE rs = 4 := by
            unfold rewE
            rw [HAN.out, if_neg (by decide), if_pos (by rw [← HQ2.out]; exact hfull)]
          exact ⟨this, by unfold rewL; rw [this]; rfl⟩
        have q1 : (1048576 : Int) < 16 + (q : Int) := by omega
        go_wp2_with fail
        go_ret
        rw [HE.out.1, HE.out.2]
        exact ⟨rfl, HSAME.out⟩
      · have HE : Hid (rewE rs = 0 ∧ rewL l rs = l.rew rs) := by
          have : rewE rs = 0 := by
            unfold rewE
            rw [HAN.out, if_neg (by decide), if_neg (by rw [← HQ2.out]; exact hfull)]
          exact ⟨this, by unfold rewL; rw [if_pos this]⟩
        have q1 : ¬ (1048576 : Int) < 16 + (q : Int) := by omega
        have HHD : Hid (Calls Tryd.prog 43 #[.int .i64 (gg : Int), .int .i64 (q : Int)] u1 fun e w' => ∃ a m c, e = .returned (.slice a m c) ∧ Hid (OwnB w' us (.slice a m c) (head gg q)) ∧ Hid (Below us u1 w')) := by
          refine (headR_any gg q u1 hggb (by omega)).mono ?_
          rintro e w' ⟨v', rfl, h1, h2⟩
          obtain ⟨a, m, c, rfl, -⟩ := h1.sl
          rw [HS1.out] at h1 h2
          exact ⟨a, m, c, rfl, h1, h2⟩
        obtain ⟨-, -, -, -, d4, -, -, -⟩ := rf_cells (HR1.out u1 (Below.refl _ _))
        have hnq : 12 * n ≤ q := by
          have h1 : ∀ L : List (List Nat), 12 * L.length ≤ baseL L := fun L => by
            induction L with
            | nil => simp [baseL]
            | cons r L ih => simp [baseL] at ih ⊢; omega
          have := h1 rs
          have := HN.out
          have := HQ2.out
          omega
        clear hk hq
        go_wp2_with fail
        rw [← HU1.out]
        refine HHD.out.mono ?_
        rintro _ w2 ⟨a2, m2, e2, rfl, HO2, HB2⟩
        clear c0 c1 c2 c3 c4 c5 c6 cf d4 HHD
        go_wp2_with fail
        go_loopw [7, 8] (fun b i wr => ∃ (j : Nat) (a : Option Addr) (m c : Nat), b = .slice a m c ∧ i = .int .i64 (j : Int) ∧ j ≤ n ∧ Hid (OwnB wr us (.slice a m c) (head gg q ++ frames gg 0 (rs.take j))) ∧ Hid (Below us u1 wr)) (fun _ i _ => n - (intOf i).toNat)
        case atStart => exact ⟨0, a2, m2, e2, rfl, rfl, Nat.zero_le _, by rw [show head gg q ++ frames gg 0 (rs.take 0) = head gg q by simp [frames]]; exact HO2, HB2⟩
        case round =>
          obtain ⟨j, a, m, c, rfl, rfl, hj, HO, HBr⟩ := hrel
          obtain ⟨L, HL⟩ : ∃ L, Hid (L = head gg q ++ frames gg 0 (rs.take j)) := ⟨_, rfl⟩
          rw [← HL.out] at HO
          have HML : Hid (m = L.length) := by
            obtain ⟨a', m', c', e, h, -⟩ := HO.out.sl
            simp at e
            obtain ⟨-, rfl, -⟩ := e
            exact h
          have hmb : m ≤ 16 + q := by
            rw [HML.out, HL.out, List.length_append, head_len, frames_len]
            have := baseL_take rs j
            have := HQ2.out
            omega
          have husr : us ≤ wr.heap.size := by have := HBr.out.size; have := HS1.out; omega
          clear HO2 HB2
          by_cases hjn : j < n
          · obtain ⟨gr, off, x, r, rfl, hgr, hc, hx, HX⟩ := HV1.out.at j hjn
            obtain ⟨ax, nx, cx, rfl, HNX, hx1, hx2⟩ := hx.shape
            unfold maxLen at hx2
            have HRL : Hid (r.length ≤ 65536) := HS2.out r (List.mem_of_getElem? HX.out)
            have HSW : Hid (∀ W, Below us u1 W → W.cell? ⟨p, 4, none⟩ = some (.int .i64 (gg : Int)) ∧ W.cell? ⟨gr, off + j, none⟩ = some (.slice ax nx cx)) := fun W hb => ⟨(rf_cells (HR1.out W hb)).2.2.2.2.1, (hb.cell (p := ⟨gr, off + j, none⟩) (by show gr < us; rw [← HS1.out]; exact hgr)).trans hc⟩
            have hxr : SeesB wr (.slice ax nx cx) r := hx.below (by rw [HS1.out]; exact HBr.out)
            have HFR : Hid (Calls Tryd.prog 54 #[.int .i64 (gg : Int), .int .i64 (j : Int), .slice ax nx cx] wr.drew fun e w' => ∃ gx mx cy, e = .returned (.slice (some ⟨gx, 0, none⟩) mx cy) ∧ Hid (mx = (frame gg j r).length) ∧ 0 < mx ∧ mx ≤ 70000 ∧ Hid (∀ i y, (bs (frame gg j r))[i]? = some y → w'.cell? ((⟨gx, 0, none⟩ : Addr).add i) = some y) ∧ Hid (Below wr.heap.size wr w')) := by
              refine (frameR_any gg j _ r wr.drew (hxr.below (below_drew (Below.refl _ _))) hggb (by omega) (by have := HRL.out; omega)).mono ?_
              rintro e w' ⟨v', rfl, h1, h2⟩
              obtain ⟨g, m', c', rfl, h3, h4, -, h5⟩ := h1.news (by rw [frame_len]; omega)
              have h6 := h3.out
              rw [frame_len] at h6
              exact ⟨g, m', c', rfl, h3, by omega, by have := HRL.out; omega, h5, (⟨h2.os, h2.tape, h2.output, h2.size, h2.block⟩ : Below wr.heap.size wr w')⟩
            obtain ⟨i5, hi5, hy0, hy1, hy2⟩ := info_parts Tryd.info5
            have HI5 := hid hi5
            have HACC : Hid (∀ W, Below wr.heap.size wr W → W.ownsRow us 5 1 (.slice a m c) m (bs L)) := fun W hb => by
              have h1 := HO.out.below hb
              unfold OwnB at h1
              rw [← HML.out] at h1
              exact h1
            have HNXT : Hid (∀ (w1 w6 : World) (mx g6 cap6 : Nat), Below wr.heap.size wr w1 → mx = (frame gg j r).length → w6.ownsRow us 5 1 (.slice (some ⟨g6, 0, none⟩) (m + mx) cap6) (m + mx) (bs L ++ bs (frame gg j r)) → w1.grownBy w6 (Value.ownBlock (.slice a m c)) → OwnB w6 us (.slice (some ⟨g6, 0, none⟩) (m + mx) cap6) (head gg q ++ frames gg 0 (rs.take (j + 1))) ∧ Below us u1 w6) := by
              intro w1 w6 mx g6 cap6 hb hm ho hg
              have hb2 := HBr.out.trans (hb.mono husr)
              refine ⟨?_, (Keeps.grown (S := fun k => us ≤ k) hg (fun k e => (World.ownsRow.lt HO.out k e).1)).below hb2 (Nat.le_trans husr hb.size) (fun k hk e => by omega)⟩
              have e : head gg q ++ frames gg 0 (rs.take (j + 1)) = L ++ frame gg j r := by
                rw [take_snoc HX.out, frames_append, List.length_take, Nat.min_eq_left (by have := HN.out; omega), HL.out]
                simp [frames]
              unfold OwnB
              rw [e, List.length_append, ← HML.out, ← hm, bs_app]
              exact ho
            have hS0 := HSW.out wr.drew (below_drew HBr.out)
            have HBJ : Hid (∀ w1 : World, Below wr.heap.size wr w1 → us ≤ w1.heap.size) := fun w1 hb => Nat.le_trans husr hb.size
            clear hx hxr HX hc
            go_upto_region 15 with fail
            go_region_held_law (fun W => W.cell? ⟨p, 4, none⟩ = some (.int .i64 (gg : Int)) ∧ W.cell? ⟨gr, off + j, none⟩ = some (.slice ax nx cx)) (assumption)
              (first
                | (go_at_call 54; refine HFR.out.mono ?_; rintro _ w1 ⟨gx, mx, cy, rfl, HMX, hmx1, hmx2, HNW, HB1⟩; have hS1 := HSW.out w1 (HBr.out.trans (HB1.out.mono husr)))
                | (refine step_append_lies _ (by rfl) _ _ _ (by rfl) us 5 i5 (.int .u8 0) 1 1 (by kernel_rfl) HI5.out hy0 hy1 hy2 rfl (by omega) (.slice a m c) m (bs L) (by rfl) (HACC.out w1 HB1.out) ⟨gx, 0, none⟩ mx cy (bs (frame gg j r)) (by rfl) (by rw [bs_length, ← HMX.out]; omega) HNW.out (bs_one _) hmx1 (by unfold maxLen; omega) (by omega) (HBJ.out w1 HB1.out) w1.heap.size rfl ?_; intro g6 cap6 w6 hown6 hgrow hat6 hlt6; have HNE := hid (HNXT.out w1 w6 mx g6 cap6 HB1.out HMX.out hown6 hgrow); have hS6 := HSW.out w6 HNE.out.2)
                | fail)
            all_goals (
              clear hown6 hgrow hat6 hlt6
              go_wp2_with fail
              go_roundw
              case rel => exact ⟨j + 1, some ⟨g6, 0, none⟩, m + mx, cap6, rfl, by go_num, by omega, HNE.out.1, HNE.out.2⟩
              case measure => simp [intOf]; omega)
          · have HG : Hid (L = gener gg rs) := by
              unfold Hid
              rw [HL.out, List.take_of_length_le (by have := HN.out; omega), HQ2.out]
              rfl
            have HMQ : Hid (m = 16 + baseL rs) := by unfold Hid; rw [HML.out, HG.out, gener_len]
            rw [HG.out] at HO
            obtain ⟨-, -, d2, d3, -, d5, d6, df⟩ := rf_cells (HR1.out wr HBr.out)
            have hpr : p < wr.heap.size := by omega
            obtain ⟨U3, HU3⟩ : ∃ U3, Hid (U3 = ((wr.setCell ⟨p, 3, none⟩ (.int .i64 (nc : Int))).setCell ⟨p, 5, none⟩ (.int .i64 (n : Int))).setCell ⟨p, 6, none⟩ (.int .i64 (m : Int))) := ⟨_, rfl⟩
            have HS3 : Hid (U3.heap.size = wr.heap.size) := by unfold Hid; rw [HU3.out]; simp [World.setCell]
            have hr3 : U3.heap[p]? = some (rfRow va vb (.slice aw nw cw) nc gg n m) := by
              have hr := HR1.out wr HBr.out
              unfold rfRow at hr ⊢
              rw [HU3.out]
              exact set_cells (set_cells (set_cells hr))
            obtain ⟨W, HW⟩ : ∃ W, Hid (W = (U3.alloc (.cells #[.int .i64 (nc : Int), .int .i64 0, .slice a m c] 89)).drew) := ⟨_, rfl⟩
            have hbW : Below U3.heap.size U3 W := by
              rw [HW.out]
              have h0 := (Below.refl U3.heap.size U3).alloc (Nat.le_refl _) (.cells #[.int .i64 (nc : Int), .int .i64 0, .slice a m c] 89)
              exact ⟨h0.os, h0.tape, h0.output, h0.size, h0.block⟩
            have HBW := hid hbW
            have HNEW : Hid (∀ (i : Nat) y, [Value.int .i64 (nc : Int), .int .i64 0, .slice a m c][i]? = some y → W.cell? ((⟨U3.heap.size, 0, none⟩ : Addr).add i) = some y) := by
              have h1 : W.heap[U3.heap.size]? = some (.cells #[.int .i64 (nc : Int), .int .i64 0, .slice a m c] 89 (0, 0)) := by rw [HW.out]; exact heap_alloc_new U3 _
              exact World.news_of_block h1
            have HSW : Hid (W.heap.size = U3.heap.size + 1) := by unfold Hid; rw [HW.out]; exact World.size_alloc _ _
            have HOW : Hid (W.ownsRow B 89 3 (.slice aw nw cw) nw (X.flatMap wc)) := by
              refine HOWN.out W ?_
              have hk3 : Keeps (At1 p) wr U3 := by rw [HU3.out]; exact (((Keeps.refl (At1 p) wr).set ⟨p, 3, none⟩ rfl _).set ⟨p, 5, none⟩ rfl _).set ⟨p, 6, none⟩ rfl _
              have hb' : Below u1.heap.size u1 wr := by rw [HS1.out]; exact HBr.out
              exact (((HK1.out.mono (fun k _ e => .inl e)).trans (Keeps.of hb')).trans (hk3.mono (fun k _ e => .inl e))).trans (Keeps.of hbW)
            obtain ⟨i0, hi0, hz0, hz1, hz2⟩ := info_parts infoWR
            have HI := hid hi0
            have hC3 : nw + 1 ≤ maxLen := by unfold maxLen; omega
            have hC : (nw + 1) * 40 ≤ 140737488355328 := by omega
            have hBW : B ≤ W.heap.size := by have := HUS.out; have := HS3.out; have := HSW.out; omega
            have HR6 : Hid (∀ w6 : World, W.grownBy w6 (Value.ownBlock (.slice aw nw cw)) → w6.heap[p]? = some (rfRow va vb (.slice aw nw cw) nc gg n m)) := fun w6 hg => (hg.block p (by have := HS3.out; have := HSW.out; omega) (fun e => HNP.out e.symm)).trans ((hbW.block p (by have := HS3.out; omega)).trans hr3)
            have HLV : Hid (∀ (w6 : World) (g6 cap6 : Nat), w6.ownsRow B 89 3 (.slice (some ⟨g6, 0, none⟩) (nw + 1) cap6) (nw + 1) (X.flatMap wc ++ [.int .i64 (nc : Int), .int .i64 0, .slice a m c]) → W.grownBy w6 (Value.ownBlock (.slice aw nw cw)) → (Value.ownBlock (.slice aw nw cw) = some g6 ∨ g6 = U3.heap.size + 1) → LeftR B u (w6.setCell ⟨p, 2, none⟩ (.slice (some ⟨g6, 0, none⟩) (nw + 1) cap6)) F p (l.rew rs)) := fun w6 g6 cap6 h1 h2 h3 => HFIN.out wr w6 a m c g6 cap6 HMQ HO.out HBr.out h1 U3 W HU3.out HBW.out h2 (h3.imp id (fun e => by have := HS3.out; omega))
            obtain ⟨-, -, k2, k3, -, -, -, kf⟩ := rf_cells hr3
            have hp3 : p < U3.heap.size := by rw [HS3.out]; exact hpr
            clear hr3 hbW hi0 HFIN HOWN
            go_upto_region 19 with fail
            rw [← HU3.out]
            go_region_law (first
              | (rw [← HW.out]; refine step_append_lies _ (by rfl) _ _ _ (by rfl) B 89 i0 (.agg #[.int .i64 0, .int .i64 0, .slice none 0 0]) 3 40 (by kernel_rfl) HI.out hz0 hz1 hz2 rfl (by omega) (.slice aw nw cw) nw (X.flatMap wc) (by rfl) HOW.out ⟨U3.heap.size, 0, none⟩ 1 1 [.int .i64 (nc : Int), .int .i64 0, .slice a m c] (by rfl) (by rfl) HNEW.out (by simp [Value.oneCell']) (by omega) hC3 hC hBW (U3.heap.size + 1) HSW.out ?_; intro g6 cap6 w6 hown6 hgrow hat6 hlt6; obtain ⟨-, -, t2, -, -, -, -, tf⟩ := rf_cells (HR6.out w6 hgrow))
              | fail)
            all_goals (
              have HLF := hid (HLV.out w6 g6 cap6 hown6 hgrow hat6)
              clear hown6 hgrow hat6 hlt6
              go_wp2_with fail
              go_ret
              rw [HE.out.1, HE.out.2]
              exact ⟨rfl, HLF.out⟩)
end Go.Proofs.YteoebmpfdcbbmacDoor

namespace Go.Proofs.YteoebmpfdcbbmacDoor
open Go.ChangeShapes Go.WideShapes Go.ChangeAt Go.RowKit Jn N
set_option maxHeartbeats 16000000
set_option maxRecDepth 100000

theorem opn_facts {A B : List Nat} (hA : ∀ y ∈ A, y < 256) (hB : ∀ y ∈ B, y < 256) (h : opnE A B = false) : (opnL A B).Ok ∧ (opnL A B).a = A ∧ (opnL A B).b = B ∧ (opnL A B).ws.length ≤ 1 := by
  refine ⟨opn_ok hA hB h, ?_, ?_, ?_⟩ <;> unfold opnL <;> (repeat' split) <;> simp [Lg.beg]
def opv (k : Int) (v vs : Value) (z : Int) : Array Value := #[.int .i64 k, v, vs, .int .i64 z]
/-- A pair that holds the same log twice. -/
structure PaS (w u : World) (pp p m : Nat) (S F : Nat → Prop) (B : Nat) (l : Lg) : Prop where
  pr : u.heap[pp]? = some (prRow (some ⟨p, 0, none⟩) (some ⟨m, 0, none⟩))
  jr : Jr w u S p l
  rf : RefF B F u m l
  wB : w.heap.size ≤ B
  Bu : B ≤ u.heap.size
  ap : ∀ k, S k → ¬ F k
  pS : ¬ S pp
  pF : ¬ F pp
  fl : ∀ k, F k → w.heap.size ≤ k
theorem RefF.lt {B : Nat} {F : Nat → Prop} {u : World} {p : Nat} {l : Lg} (h : RefF B F u p l) : ∀ k, F k → k < u.heap.size := by
  obtain ⟨C, va, vb, vw, X, -, -, -, -, h4⟩ := h
  exact h4
theorem PaS.below {w u u' : World} {pp p m : Nat} {S F : Nat → Prop} {B : Nat} {l : Lg} (h : PaS w u pp p m S F B l) (hb : Below u.heap.size u u') : PaS w u' pp p m S F B l :=
  ⟨below_keeps hb h.pr (Array.getElem?_eq_some_iff.1 h.pr).1, h.jr.below hb, h.rf.below hb, h.wB, Nat.le_trans h.Bu hb.size, h.ap, h.pS, h.pF, h.fl⟩
/-- A step on both. -/
theorem PaS.both {w u u1 u1' u2 : World} {pp p m : Nat} {S F : Nat → Prop} {B : Nat} {l l' : Lg} (h : PaS w u pp p m S F B l) (hl : Left u u1 S p l') (hb : Below u1.heap.size u1 u1') (hr : LeftR B u1' u2 F m l') : PaS w u2 pp p m (NewS S u.heap.size u1) (NewS F u1'.heap.size u2) B l' := by
  have hpp := (Array.getElem?_eq_some_iff.1 h.pr).1
  have s1 := hl.kp.size
  have s2 := hb.size
  have s3 := hr.kp.size
  have s0 := h.jr.be.size
  have hSl := h.jr.log.lt
  have hFl := h.rf.lt
  refine ⟨?_, ((h.jr.left hl).below hb).keeps hr.kp (fun k hk => ⟨fun e => ?_, h.fl k hk⟩), hr.rf, h.wB, Nat.le_trans h.Bu (by omega), fun k e e' => ?_, fun e => ?_, fun e => ?_, fun k e => ?_⟩
  · exact (hr.kp.block pp (by omega) h.pF).trans ((hb.block pp (by omega)).trans ((hl.kp.block pp hpp h.pS).trans h.pr))
  · rcases e with e | e
    · exact h.ap k e hk
    · have := hFl k hk; omega
  · rcases e with e | e
    · rcases e' with e' | e'
      · exact h.ap k e e'
      · have := hSl k e; omega
    · rcases e' with e' | e'
      · have := hFl k e'; omega
      · omega
  · rcases e with e | e
    · exact h.pS e
    · omega
  · rcases e with e | e
    · exact h.pF e
    · omega
  · rcases e with e | e
    · exact h.fl k e
    · omega

/-- What a step may touch, and what it leaves as its own. -/
structure Fp (u u' : World) (X X' : Nat → Prop) : Prop where
  kp : Keeps X u u'
  nw : ∀ k, X' k → X k ∨ u.heap.size ≤ k
def Fpo (pp : Nat) (S F : Nat → Prop) (k : Nat) : Prop := k = pp ∨ S k ∨ F k
theorem Fp.ahead {u u0 u' : World} {X X' : Nat → Prop} (h : Fp u0 u' X X') (hb : Below u.heap.size u u0) : Fp u u' X X' := ⟨(Keeps.of hb).trans h.kp, fun k e => (h.nw k e).imp id (Nat.le_trans hb.size)⟩
theorem Fp.of {u u' : World} {X : Nat → Prop} (hb : Below u.heap.size u u') : Fp u u' X X := ⟨Keeps.of hb, fun _ e => .inl e⟩
theorem PaS.fp {w u u1 u1' u2 : World} {pp p m : Nat} {S F : Nat → Prop} {B : Nat} {l l' : Lg} (_h : PaS w u pp p m S F B l) (hl : Left u u1 S p l') (hb : Below u1.heap.size u1 u1') (hr : LeftR B u1' u2 F m l') : Fp u u2 (Fpo pp S F) (Fpo pp (NewS S u.heap.size u1) (NewS F u1'.heap.size u2)) := by
  have s1 := hl.kp.size
  have s2 := hb.size
  refine ⟨(hl.kp.mono fun k _ e => .inr (.inl e)).trans ((Keeps.of hb).trans (hr.kp.mono fun k _ e => .inr (.inr e))), fun k e => ?_⟩
  rcases e with e | e | e
  · exact .inl (.inl e)
  · rcases e with e | e
    · exact .inl (.inr (.inl e))
    · exact .inr e.1
  · rcases e with e | e
    · exact .inl (.inr (.inr e))
    · exact .inr (by omega)

theorem plays_sync {w u : World} {pp p m : Nat} {S F : Nat → Prop} {B : Nat} {l : Lg} (h : PaS w u pp p m S F B l) {v vs : Value} {z : Int} (hv : ∃ a n c, v = .slice a n c) (hvs : ∃ a n c, vs = .slice a n c) (hN : l.ws.length ≤ 3000000000000) :
    Calls Tryd.prog 10 #[.pointer (some ⟨pp, 0, none⟩), .agg (opv 3 v vs z)] u fun e u' => e = .returned (.bool true) ∧ ∃ S' F', PaS w u' pp p m S' F' B l.syn ∧ Fp u u' (Fpo pp S F) (Fpo pp S' F') := by
  obtain ⟨u0, hu0⟩ : ∃ u0, u0 = u.alloc (.cells (opv 3 v vs z) 40) := ⟨_, rfl⟩
  have hb0 : Below u.heap.size u u0 := by rw [hu0]; exact (Below.refl _ _).alloc (Nat.le_refl _) _
  have hr0 : u0.heap[u.heap.size]? = some (.cells (opv 3 v vs z) 40 (0, 0)) := by rw [hu0]; exact heap_alloc_new u _
  unfold opv at hr0 hu0 ⊢
  have H0 := h.below hb0
  obtain ⟨vs1, vs2, vs3, rfl⟩ := hvs
  obtain ⟨av, nv, cv, rfl⟩ := hv
  have HU0 := hid hu0
  have HB0 := hid hb0
  have z0 : u0.cell? ⟨u.heap.size, 0, none⟩ = some (.int .i64 3) := by rw [cell_of_row _ _ _ _ _ _ hr0]; rfl
  have hbl' : u.heap.size < u0.heap.size := (Array.getElem?_eq_some_iff.1 hr0).1
  obtain ⟨b, hbb⟩ : ∃ b, b = u.heap.size := ⟨_, rfl⟩
  have HBB := hid hbb
  rw [← hbb] at z0 hbl'
  have HTS := hid H0
  obtain ⟨q0, q1, -⟩ := pr_cells H0.pr
  have hpl := (Array.getElem?_eq_some_iff.1 H0.pr).1
  have HSY := hid (sync_any S p l u0 H0.jr.log H0.jr.ok hN)
  clear h hu0 hr0 hb0 H0 hbb
  go_enter Tryd.func10, Tryd.ntmps10
  go_upto_region 1 with fail
  rw [← HU0.out, ← HBB.out]
  go_wp2_with fail
  refine HSY.out.mono ?_
  rintro _ u1 ⟨rfl, hL⟩
  have hpr1 := (hL.kp.block pp hpl HTS.out.pS).trans HTS.out.pr
  obtain ⟨s0, s1, -⟩ := pr_cells hpr1
  have hpl1 := (Array.getElem?_eq_some_iff.1 hpr1).1
  have HRS := hid (syncR_any B F m l u1 (HTS.out.rf.keeps hL.kp (fun k e => HTS.out.ap k e)) HTS.out.jr.ok hN (Nat.le_trans HTS.out.Bu hL.kp.size))
  have HL := hid hL
  clear hL hpr1
  go_wp2_with fail
  refine HRS.out.mono ?_
  rintro _ u2 ⟨rfl, hR⟩
  have HF := hid (And.intro (HTS.out.both HL.out (Below.refl _ _) hR) ((HTS.out.fp HL.out (Below.refl _ _) hR).ahead HB0.out))
  clear hR
  go_wp2_with fail
  go_ret
  exact ⟨rfl, _, _, HF.out⟩

theorem plays_app {w u : World} {pp p m : Nat} {S F : Nat → Prop} {B : Nat} {l : Lg} (h : PaS w u pp p m S F B l) (ht : TabN w) {v vs : Value} {r : List Nat} {z : Int} (hv : ∀ u', Keeps (fun k => w.heap.size ≤ k) u u' → SeesB u' v r) (hvs : ∃ a n c, vs = .slice a n c) (hN : l.ws.length + 1 ≤ 3000000000000) :
    Calls Tryd.prog 10 #[.pointer (some ⟨pp, 0, none⟩), .agg (opv 1 v vs z)] u fun e u' => e = .returned (.bool true) ∧ ∃ S' F', PaS w u' pp p m S' F' B (appL l r) ∧ Fp u u' (Fpo pp S F) (Fpo pp S' F') := by
  obtain ⟨u0, hu0⟩ : ∃ u0, u0 = u.alloc (.cells (opv 1 v vs z) 40) := ⟨_, rfl⟩
  have hb0 : Below u.heap.size u u0 := by rw [hu0]; exact (Below.refl _ _).alloc (Nat.le_refl _) _
  have hr0 : u0.heap[u.heap.size]? = some (.cells (opv 1 v vs z) 40 (0, 0)) := by rw [hu0]; exact heap_alloc_new u _
  unfold opv at hr0 hu0 ⊢
  have H0 := (h.below hb0).below (below_drew (Below.refl _ _))
  obtain ⟨vs1, vs2, vs3, rfl⟩ := hvs
  obtain ⟨av, nv, cv, rfl, -, -, -⟩ := (hv u (Keeps.refl _ _)).shape
  have HU0 := hid hu0
  have z0 : u0.cell? ⟨u.heap.size, 0, none⟩ = some (.int .i64 1) := by rw [cell_of_row _ _ _ _ _ _ hr0]; rfl
  have z1 : u0.cell? ⟨u.heap.size, 1, none⟩ = some (.slice av nv cv) := by rw [cell_of_row _ _ _ _ _ _ hr0]; rfl
  have hbl' : u.heap.size < u0.heap.size := (Array.getElem?_eq_some_iff.1 hr0).1
  obtain ⟨q0, q1, -⟩ := pr_cells (h.below hb0).pr
  have hpl := (Array.getElem?_eq_some_iff.1 H0.pr).1
  obtain ⟨ee, HEE⟩ : ∃ ee, Hid (ee = appE l r) := ⟨_, rfl⟩
  have hk0 : Keeps (fun k => w.heap.size ≤ k) u u0.drew := (Keeps.of hb0).trans (Keeps.of (below_drew (Below.refl _ _)))
  have HAP : Hid (Calls Tryd.prog 22 #[.pointer (some ⟨p, 0, none⟩), .slice av nv cv] u0.drew fun e w' => e = .returned (.int .i64 (ee : Int)) ∧ Hid (Left u0.drew w' S p (appL l r))) := by
    rw [HEE.out]
    exact append_any S p l _ r u0.drew H0.jr.log H0.jr.ok (hv _ hk0) hN (ht.below H0.jr.be ht.2) (H0.jr.pos ht)
  have hSu := h.jr.log.lt
  have HM1 : Hid (∀ u1, Left u0.drew u1 S p (appL l r) → u1.heap[pp]? = some (prRow (some ⟨p, 0, none⟩) (some ⟨m, 0, none⟩)) ∧ u1.cell? ⟨u.heap.size, 1, none⟩ = some (.slice av nv cv)) := fun u1 hL => ⟨(hL.kp.block pp hpl H0.pS).trans H0.pr, (World.cell?_of_block (w := u0.drew) (a := ⟨u.heap.size, 1, none⟩) (hL.kp.block u.heap.size hbl' (fun e => by have := hSu _ e; omega))).trans z1⟩
  have HAR : Hid (∀ u1, Left u0.drew u1 S p (appL l r) → Calls Tryd.prog 27 #[.pointer (some ⟨m, 0, none⟩), .slice av nv cv] u1.drew fun e w' => e = .returned (.int .i64 (ee : Int)) ∧ Hid (∃ S' F', PaS w w' pp p m S' F' B (appL l r) ∧ Fp u w' (Fpo pp S F) (Fpo pp S' F'))) := fun u1 hL => by
    have hb1 : Below u1.heap.size u1 u1.drew := below_drew (Below.refl _ _)
    have hkS : Keeps (fun k => w.heap.size ≤ k) u0.drew u1 := hL.kp.mono (fun k _ e => H0.jr.lo k e)
    refine (appendR_any B F m l _ r u1.drew ((H0.rf.keeps hL.kp (fun k e => H0.ap k e)).below hb1) H0.jr.ok (hv _ ((hk0.trans hkS).trans (Keeps.of hb1))) hN (Nat.le_trans H0.Bu hL.kp.size)).mono ?_
    rintro e w' ⟨rfl, hR⟩
    rw [HEE.out]
    exact ⟨rfl, _, _, H0.both hL hb1 hR, (H0.fp hL hb1 hR).ahead (below_drew hb0)⟩
  obtain ⟨b, hbb⟩ : ∃ b, b = u.heap.size := ⟨_, rfl⟩
  have HBB := hid hbb
  rw [← hbb] at z0 z1 hbl' HM1
  clear h hu0 hr0 hb0 H0 hbb hv hk0 hSu ht
  go_enter Tryd.func10, Tryd.ntmps10
  go_upto_region 1 with fail
  rw [← HU0.out, ← HBB.out]
  go_upto_region 5 with fail
  go_region_law (first | (go_simp; go_at_call 22; refine HAP.out.mono ?_; rintro _ u1 ⟨rfl, HL⟩; obtain ⟨s0, s1, -⟩ := pr_cells (HM1.out u1 HL.out).1; have s2 := (HM1.out u1 HL.out).2) | fail)
  all_goals (
    go_upto_region 6 with fail
    go_region_law (first | (go_simp; go_at_call 27; refine (HAR.out u1 HL.out).mono ?_; rintro _ u2 ⟨rfl, HF⟩) | fail)
    all_goals (
      go_wp2_with fail
      go_ret
      exact ⟨rfl, HF.out⟩))
end Go.Proofs.YteoebmpfdcbbmacDoor

namespace Go.Proofs.YteoebmpfdcbbmacDoor
open Go.ChangeShapes Go.WideShapes Go.ChangeAt Go.RowKit Jn N
set_option maxHeartbeats 16000000
set_option maxRecDepth 100000

theorem plays_rew {w u : World} {pp p m : Nat} {S F : Nat → Prop} {B : Nat} {l : Lg} (h : PaS w u pp p m S F B l) (ht : TabN w) {v vs : Value} {rs : List (List Nat)} {z : Int} (hv : ∃ a n c, v = .slice a n c) (hvs : ∀ u', Keeps (fun k => w.heap.size ≤ k) u u' → SeesBB u' vs rs) (hrl : rs.length ≤ 8796093022208) (hN : l.ws.length + 1 ≤ 3000000000000) :
    Calls Tryd.prog 10 #[.pointer (some ⟨pp, 0, none⟩), .agg (opv 2 v vs z)] u fun e u' => e = .returned (.bool true) ∧ ∃ S' F', PaS w u' pp p m S' F' B (rewL l rs) ∧ Fp u u' (Fpo pp S F) (Fpo pp S' F') := by
  obtain ⟨u0, hu0⟩ : ∃ u0, u0 = u.alloc (.cells (opv 2 v vs z) 40) := ⟨_, rfl⟩
  have hb0 : Below u.heap.size u u0 := by rw [hu0]; exact (Below.refl _ _).alloc (Nat.le_refl _) _
  have hr0 : u0.heap[u.heap.size]? = some (.cells (opv 2 v vs z) 40 (0, 0)) := by rw [hu0]; exact heap_alloc_new u _
  unfold opv at hr0 hu0 ⊢
  have H0 := (h.below hb0).below (below_drew (Below.refl _ _))
  obtain ⟨vs1, vs2, vs3, rfl⟩ := hv
  obtain ⟨av, nv, cv, rfl, -, -, -⟩ := (hvs u (Keeps.refl _ _)).shape
  have HU0 := hid hu0
  have z0 : u0.cell? ⟨u.heap.size, 0, none⟩ = some (.int .i64 2) := by rw [cell_of_row _ _ _ _ _ _ hr0]; rfl
  have z1 : u0.cell? ⟨u.heap.size, 2, none⟩ = some (.slice av nv cv) := by rw [cell_of_row _ _ _ _ _ _ hr0]; rfl
  have hbl' : u.heap.size < u0.heap.size := (Array.getElem?_eq_some_iff.1 hr0).1
  obtain ⟨q0, q1, -⟩ := pr_cells (h.below hb0).pr
  have hpl := (Array.getElem?_eq_some_iff.1 H0.pr).1
  obtain ⟨ee, HEE⟩ : ∃ ee, Hid (ee = rewE rs) := ⟨_, rfl⟩
  have hk0 : Keeps (fun k => w.heap.size ≤ k) u u0.drew := (Keeps.of hb0).trans (Keeps.of (below_drew (Below.refl _ _)))
  have HAP : Hid (Calls Tryd.prog 28 #[.pointer (some ⟨p, 0, none⟩), .slice av nv cv] u0.drew fun e w' => e = .returned (.int .i64 (ee : Int)) ∧ Hid (Left u0.drew w' S p (rewL l rs))) := by
    rw [HEE.out]
    exact rewrite_any S p l _ rs u0.drew H0.jr.log H0.jr.ok (hvs _ hk0) hrl hN (ht.below H0.jr.be ht.2)
  have hSu := h.jr.log.lt
  have HM1 : Hid (∀ u1, Left u0.drew u1 S p (rewL l rs) → u1.heap[pp]? = some (prRow (some ⟨p, 0, none⟩) (some ⟨m, 0, none⟩)) ∧ u1.cell? ⟨u.heap.size, 2, none⟩ = some (.slice av nv cv)) := fun u1 hL => ⟨(hL.kp.block pp hpl H0.pS).trans H0.pr, (World.cell?_of_block (w := u0.drew) (a := ⟨u.heap.size, 2, none⟩) (hL.kp.block u.heap.size hbl' (fun e => by have := hSu _ e; omega))).trans z1⟩
  have HAR : Hid (∀ u1, Left u0.drew u1 S p (rewL l rs) → Calls Tryd.prog 29 #[.pointer (some ⟨m, 0, none⟩), .slice av nv cv] u1.drew fun e w' => e = .returned (.int .i64 (ee : Int)) ∧ Hid (∃ S' F', PaS w w' pp p m S' F' B (rewL l rs) ∧ Fp u w' (Fpo pp S F) (Fpo pp S' F'))) := fun u1 hL => by
    have hb1 : Below u1.heap.size u1 u1.drew := below_drew (Below.refl _ _)
    have hkS : Keeps (fun k => w.heap.size ≤ k) u0.drew u1 := hL.kp.mono (fun k _ e => H0.jr.lo k e)
    refine (rewriteR_any B F m l _ rs u1.drew ((H0.rf.keeps hL.kp (fun k e => H0.ap k e)).below hb1) H0.jr.ok (fun u' hk' => hvs _ (((hk0.trans hkS).trans (Keeps.of hb1)).trans (hk'.mono (fun k _ e => Nat.le_trans H0.wB e)))) hrl hN (Nat.le_trans H0.Bu hL.kp.size)).mono ?_
    rintro e w' ⟨rfl, hR⟩
    rw [HEE.out]
    exact ⟨rfl, _, _, H0.both hL hb1 hR, (H0.fp hL hb1 hR).ahead (below_drew hb0)⟩
  obtain ⟨b, hbb⟩ : ∃ b, b = u.heap.size := ⟨_, rfl⟩
  have HBB := hid hbb
  rw [← hbb] at z0 z1 hbl' HM1
  clear h hu0 hr0 hb0 H0 hbb hvs hk0 hSu ht
  go_enter Tryd.func10, Tryd.ntmps10
  go_upto_region 1 with fail
  rw [← HU0.out, ← HBB.out]
  go_upto_region 9 with fail
  go_region_law (first | (go_simp; go_at_call 28; refine HAP.out.mono ?_; rintro _ u1 ⟨rfl, HL⟩; obtain ⟨s0, s1, -⟩ := pr_cells (HM1.out u1 HL.out).1; have s2 := (HM1.out u1 HL.out).2) | fail)
  all_goals (
    go_upto_region 10 with fail
    go_region_law (first | (go_simp; go_at_call 29; refine (HAR.out u1 HL.out).mono ?_; rintro _ u2 ⟨rfl, HF⟩) | fail)
    all_goals (
      go_wp2_with fail
      go_ret
      exact ⟨rfl, HF.out⟩))
end Go.Proofs.YteoebmpfdcbbmacDoor

namespace Go.Proofs.YteoebmpfdcbbmacDoor
open Go.ChangeShapes Go.WideShapes Go.ChangeAt Go.RowKit Jn N
set_option maxHeartbeats 16000000
set_option maxRecDepth 100000

theorem plays_crash {w u : World} {pp p m : Nat} {S F : Nat → Prop} {B : Nat} {l : Lg} (h : PaS w u pp p m S F B l) {v vs : Value} {z : Int} (hv : ∃ a n c, v = .slice a n c) (hvs : ∃ a n c, vs = .slice a n c) (hz : z < 9223372036854775808) (hN : l.ws.length ≤ 3000000000000) :
    Calls Tryd.prog 10 #[.pointer (some ⟨pp, 0, none⟩), .agg (opv 6 v vs z)] u fun e u' => e = .returned (.bool true) ∧ PaS w u' pp p m S F B l ∧ Below u.heap.size u u' := by
  obtain ⟨u0, hu0⟩ : ∃ u0, u0 = u.alloc (.cells (opv 6 v vs z) 40) := ⟨_, rfl⟩
  have hb0 : Below u.heap.size u u0 := by rw [hu0]; exact (Below.refl _ _).alloc (Nat.le_refl _) _
  have hr0 : u0.heap[u.heap.size]? = some (.cells (opv 6 v vs z) 40 (0, 0)) := by rw [hu0]; exact heap_alloc_new u _
  unfold opv at hr0 hu0 ⊢
  have H0 := h.below hb0
  obtain ⟨vs1, vs2, vs3, rfl⟩ := hvs
  obtain ⟨av, nv, cv, rfl⟩ := hv
  have HU0 := hid hu0
  have HB0 := hid hb0
  have z0 : u0.cell? ⟨u.heap.size, 0, none⟩ = some (.int .i64 6) := by rw [cell_of_row _ _ _ _ _ _ hr0]; rfl
  have hbl' : u.heap.size < u0.heap.size := (Array.getElem?_eq_some_iff.1 hr0).1
  obtain ⟨b, hbb⟩ : ∃ b, b = u.heap.size := ⟨_, rfl⟩
  have HBB := hid hbb
  rw [← hbb] at z0 hbl' hr0
  have HTS := hid H0
  obtain ⟨q0, q1, -⟩ := pr_cells H0.pr
  have hpl := (Array.getElem?_eq_some_iff.1 H0.pr).1
  obtain ⟨D, hD⟩ : ∃ D, D = crash (l.a, l.b) z.toNat l.ws := ⟨_, rfl⟩
  have hOk := H0.jr.ok
  have hby := crash_bytes l.ws (l.a, l.b) z.toNat hOk.ba hOk.bb hOk.ws.bytes
  rw [← hD] at hby
  have HBY := hid hby
  have HSK : Hid (∀ W, Below u0.heap.size u0 W → W.cell? ⟨pp, 0, none⟩ = some (.pointer (some ⟨p, 0, none⟩)) ∧ W.cell? ⟨pp, 1, none⟩ = some (.pointer (some ⟨m, 0, none⟩)) ∧ W.cell? ⟨b, 3, none⟩ = some (.int .i64 z)) := fun W hW => by
    obtain ⟨t0, t1, -⟩ := pr_cells (below_keeps hW H0.pr hpl)
    refine ⟨t0, t1, ?_⟩
    rw [cell_of_row _ _ _ _ _ _ (below_keeps hW hr0 hbl')]
    rfl
  have HCN : Hid (∀ W, Below u0.heap.size u0 W → Calls Tryd.prog 25 #[.pointer (some ⟨p, 0, none⟩), .int .i64 z] W fun e w' => ∃ ga na ca gb nb cb, e = .returned (.agg #[.slice (some ⟨ga, 0, none⟩) na ca, .slice (some ⟨gb, 0, none⟩) nb cb]) ∧ SeesB w' (.slice (some ⟨ga, 0, none⟩) na ca) D.1 ∧ SeesB w' (.slice (some ⟨gb, 0, none⟩) nb cb) D.2 ∧ Below u0.heap.size u0 w') := fun W hW => by
    refine (crash_any _ p l z W (H0.jr.below hW).log hOk hN hz).mono ?_
    rintro e w' ⟨ga, na, ca, gb, nb, cb, rfl, hd⟩
    rw [← hD] at hd
    exact ⟨ga, na, ca, gb, nb, cb, rfl, hd.a.sees HBY.out.1, hd.b.sees HBY.out.2, hW.trans (hd.be.mono hW.size)⟩
  have HCM : Hid (∀ W, Below u0.heap.size u0 W → Calls Tryd.prog 34 #[.pointer (some ⟨m, 0, none⟩), .int .i64 z] W fun e w' => ∃ a n c a' n' c', e = .returned (.agg #[.slice a n c, .slice a' n' c']) ∧ SeesB w' (.slice a n c) D.1 ∧ SeesB w' (.slice a' n' c') D.2 ∧ Below W.heap.size W w' ∧ Below u0.heap.size u0 w') := fun W hW => by
    refine (crashR_any B m l z W (H0.rf.below hW).at hOk hz).mono ?_
    rintro e w' ⟨xa, xb, rfl, ⟨a, n, c, rfl⟩, ⟨a', n', c', rfl⟩, o1, o2, hb⟩
    rw [← hD] at o1 o2
    exact ⟨a, n, c, a', n', c', rfl, o1.sees HBY.out.1, o2.sees HBY.out.2, hb, hW.trans (hb.mono hW.size)⟩
  have hbd : Below u0.heap.size u0 u0.drew := below_drew (Below.refl _ _)
  clear h hu0 hr0 hb0 H0 hbb hD hby hOk
  go_enter Tryd.func10, Tryd.ntmps10
  go_upto_region 1 with fail
  rw [← HU0.out, ← HBB.out]
  go_upto_region 19 with fail
  go_region_held (fun W => W.cell? ⟨pp, 0, none⟩ = some (.pointer (some ⟨p, 0, none⟩)) ∧ W.cell? ⟨pp, 1, none⟩ = some (.pointer (some ⟨m, 0, none⟩)) ∧ W.cell? ⟨b, 3, none⟩ = some (.int .i64 z)) (exact HSK.out _ (by assumption))
    (first
      | (go_at_call 25; refine (HCN.out _ hbd).mono ?_; rintro _ w5 ⟨ga, na, ca, gb, nb, cb, rfl, hs5, hs5', hb5⟩; have HSa := hid hs5; have HSb := hid hs5'; have HB5 := hid hb5; clear hs5 hs5')
      | (go_at_call 34; refine (HCM.out _ HB5.out).mono ?_; rintro _ w6 ⟨xa, xn, xc, ya, yn, yc, rfl, hs6, hs6', hb6, hb26⟩; have HSx := hid hs6; have HSy := hid hs6'; have HSa6 := hid (HSa.out.below hb6); have HSb6 := hid (HSb.out.below hb6); have HB26 := hid hb26; clear hs6 hs6' hb6)
      | (go_at_call 33; refine (disks_eq _ _ _ _ _ _ _ HSa6.out HSb6.out HSx.out HSy.out).mono ?_; rintro _ w7 ⟨rfl, hb7⟩; have hb27 := HB26.out.trans (hb7.mono HB26.out.size); have HB27 := hid hb27; clear hb7)
      | fail)
  all_goals (
    go_wp2_with fail
    go_ret
    exact ⟨rfl, HTS.out.below HB27.out, HB0.out.trans (HB27.out.mono HB0.out.size)⟩)

end Go.Proofs.YteoebmpfdcbbmacDoor

namespace Go.Proofs.YteoebmpfdcbbmacDoor
open Go.ChangeShapes Go.WideShapes Go.ChangeAt Go.RowKit Jn N
set_option maxHeartbeats 16000000
set_option maxRecDepth 100000

theorem numbers_any {w u : World} {pp p m : Nat} {S F : Nat → Prop} {B : Nat} {l : Lg} (h : PaS w u pp p m S F B l) {v vs : Value} {kd z : Int} (hv : ∃ a n c, v = .slice a n c) (hvs : ∃ a n c, vs = .slice a n c) (hN : l.ws.length ≤ 3000000000000) :
    Calls Tryd.prog 32 #[.pointer (some ⟨pp, 0, none⟩), .agg (opv kd v vs z)] u fun e u' => e = .returned (.bool true) ∧ Below u.heap.size u u' := by
  obtain ⟨u0, hu0⟩ : ∃ u0, u0 = u.alloc (.cells (opv kd v vs z) 40) := ⟨_, rfl⟩
  have hb0 : Below u.heap.size u u0 := by rw [hu0]; exact (Below.refl _ _).alloc (Nat.le_refl _) _
  have hr0 : u0.heap[u.heap.size]? = some (.cells (opv kd v vs z) 40 (0, 0)) := by rw [hu0]; exact heap_alloc_new u _
  unfold opv at hr0 hu0 ⊢
  have H0 := h.below hb0
  obtain ⟨vs1, vs2, vs3, rfl⟩ := hvs
  obtain ⟨av, nv, cv, rfl⟩ := hv
  have HU0 := hid hu0
  have z0 : u0.cell? ⟨u.heap.size, 0, none⟩ = some (.int .i64 kd) := by rw [cell_of_row _ _ _ _ _ _ hr0]; rfl
  have hbl' : u.heap.size < u0.heap.size := (Array.getElem?_eq_some_iff.1 hr0).1
  obtain ⟨b, hbb⟩ : ∃ b, b = u.heap.size := ⟨_, rfl⟩
  have HBB := hid hbb
  rw [← hbb] at z0 hbl' hr0
  have HTS := hid H0
  obtain ⟨q0, q1, -⟩ := pr_cells H0.pr
  have hpl := (Array.getElem?_eq_some_iff.1 H0.pr).1
  obtain ⟨ls, hls⟩ : ∃ ls, ls = l.size := ⟨_, rfl⟩
  obtain ⟨ds, hds⟩ : ∃ ds, ds = dirt l.ws := ⟨_, rfl⟩
  have hdb : dirt l.ws ≤ 4611686018427387904 := by have := H0.jr.ok.ws.le; omega
  have HSK : Hid (∀ W, Below u0.heap.size u0 W → W.cell? ⟨pp, 0, none⟩ = some (.pointer (some ⟨p, 0, none⟩)) ∧ W.cell? ⟨pp, 1, none⟩ = some (.pointer (some ⟨m, 0, none⟩))) := fun W hW => by
    obtain ⟨t0, t1, -⟩ := pr_cells (below_keeps hW H0.pr hpl)
    exact ⟨t0, t1⟩
  have HZL : Hid (∀ W, Below u0.heap.size u0 W → Calls Tryd.prog 23 #[.pointer (some ⟨p, 0, none⟩)] W fun e w' => e = .returned (.int .i64 (ls : Int)) ∧ w' = W) := fun W hW => by rw [hls]; exact size_any _ p l W (H0.jr.below hW).log
  have HZM : Hid (∀ W, Below u0.heap.size u0 W → Calls Tryd.prog 57 #[.pointer (some ⟨m, 0, none⟩)] W fun e w' => e = .returned (.int .i64 (ls : Int)) ∧ w' = W) := fun W hW => by rw [hls]; exact sizeR_any B m l W (H0.rf.below hW).at
  have HDL : Hid (∀ W, Below u0.heap.size u0 W → Calls Tryd.prog 24 #[.pointer (some ⟨p, 0, none⟩)] W fun e w' => e = .returned (.int .i64 (ds : Int)) ∧ w' = W) := fun W hW => by rw [hds]; exact dirty_any _ p l W (H0.jr.below hW).log
  have HDM : Hid (∀ W, Below u0.heap.size u0 W → Calls Tryd.prog 56 #[.pointer (some ⟨m, 0, none⟩)] W fun e w' => e = .returned (.int .i64 (ds : Int)) ∧ w' = W) := fun W hW => by rw [hds]; exact dirtyR_any B m l W (H0.rf.below hW).at hdb
  have hbd : Below u0.heap.size u0 u0.drew := below_drew (Below.refl _ _)
  have HB0 := hid hb0
  by_cases hk4 : kd = 4
  · subst hk4
    as_aux_lemma =>
      clear h hu0 hr0 hb0 H0 hbb hls hds hdb
      go_enter Tryd.func32, Tryd.ntmps32
      go_upto_region 1 with fail
      rw [← HU0.out, ← HBB.out]
      go_upto_region 2 with fail
      go_region_held (fun W => W.cell? ⟨pp, 0, none⟩ = some (.pointer (some ⟨p, 0, none⟩)) ∧ W.cell? ⟨pp, 1, none⟩ = some (.pointer (some ⟨m, 0, none⟩))) (exact HSK.out _ (by assumption))
        (first
          | (go_at_call 23; refine (HZL.out _ (by assumption)).mono ?_; rintro _ _ ⟨rfl, rfl⟩)
          | (go_at_call 57; refine (HZM.out _ (by assumption)).mono ?_; rintro _ _ ⟨rfl, rfl⟩)
          | fail)
      all_goals (
        go_wp2_with fail
        go_ret
        exact ⟨rfl, HB0.out.trans (hbd.mono HB0.out.size)⟩)
  · as_aux_lemma =>
      have b1 : (kd == 4) = false := by simp [hk4]
      clear h hu0 hr0 hb0 H0 hbb hls hds hdb
      go_enter Tryd.func32, Tryd.ntmps32
      go_upto_region 1 with fail
      rw [← HU0.out, ← HBB.out]
      go_upto_region 3 with fail
      go_region_held (fun W => W.cell? ⟨pp, 0, none⟩ = some (.pointer (some ⟨p, 0, none⟩)) ∧ W.cell? ⟨pp, 1, none⟩ = some (.pointer (some ⟨m, 0, none⟩))) (exact HSK.out _ (by assumption))
        (first
          | (go_at_call 24; refine (HDL.out _ (by assumption)).mono ?_; rintro _ _ ⟨rfl, rfl⟩)
          | (go_at_call 56; refine (HDM.out _ (by assumption)).mono ?_; rintro _ _ ⟨rfl, rfl⟩)
          | fail)
      all_goals (
        go_wp2_with fail
        go_ret
        exact ⟨rfl, HB0.out.trans (hbd.mono HB0.out.size)⟩)

end Go.Proofs.YteoebmpfdcbbmacDoor

namespace Go.Proofs.YteoebmpfdcbbmacDoor
open Go.ChangeShapes Go.WideShapes Go.ChangeAt Go.RowKit Jn N
set_option maxHeartbeats 16000000
set_option maxRecDepth 100000

theorem plays_num4 {w u : World} {pp p m : Nat} {S F : Nat → Prop} {B : Nat} {l : Lg} (h : PaS w u pp p m S F B l) {v vs : Value} {z : Int} (hv : ∃ a n c, v = .slice a n c) (hvs : ∃ a n c, vs = .slice a n c) (hN : l.ws.length ≤ 3000000000000) :
    Calls Tryd.prog 10 #[.pointer (some ⟨pp, 0, none⟩), .agg (opv 4 v vs z)] u fun e u' => e = .returned (.bool true) ∧ PaS w u' pp p m S F B l ∧ Below u.heap.size u u' := by
  obtain ⟨u0, hu0⟩ : ∃ u0, u0 = u.alloc (.cells (opv 4 v vs z) 40) := ⟨_, rfl⟩
  have hb0 : Below u.heap.size u u0 := by rw [hu0]; exact (Below.refl _ _).alloc (Nat.le_refl _) _
  have hr0 : u0.heap[u.heap.size]? = some (.cells (opv 4 v vs z) 40 (0, 0)) := by rw [hu0]; exact heap_alloc_new u _
  unfold opv at hr0 hu0 ⊢
  obtain ⟨vs1, vs2, vs3, rfl⟩ := hvs
  obtain ⟨av, nv, cv, rfl⟩ := hv
  have HU0 := hid hu0
  have z0 : u0.cell? ⟨u.heap.size, 0, none⟩ = some (.int .i64 4) := by rw [cell_of_row _ _ _ _ _ _ hr0]; rfl
  have z1 : u0.cell? ⟨u.heap.size, 1, none⟩ = some (.slice av nv cv) := by rw [cell_of_row _ _ _ _ _ _ hr0]; rfl
  have z2 : u0.cell? ⟨u.heap.size, 2, none⟩ = some (.slice vs1 vs2 vs3) := by rw [cell_of_row _ _ _ _ _ _ hr0]; rfl
  have z3 : u0.cell? ⟨u.heap.size, 3, none⟩ = some (.int .i64 z) := by rw [cell_of_row _ _ _ _ _ _ hr0]; rfl
  have hbl' : u.heap.size < u0.heap.size := (Array.getElem?_eq_some_iff.1 hr0).1
  obtain ⟨b, hbb⟩ : ∃ b, b = u.heap.size := ⟨_, rfl⟩
  have HBB := hid hbb
  rw [← hbb] at z0 z1 z2 z3 hbl' hr0
  have HB0 := hid hb0
  have H0 := h.below hb0
  have HTS := hid H0
  obtain ⟨q0, q1, -⟩ := pr_cells H0.pr
  have hpl := (Array.getElem?_eq_some_iff.1 H0.pr).1
  have HNU : Hid (Calls Tryd.prog 32 #[.pointer (some ⟨pp, 0, none⟩), .agg #[.int .i64 4, .slice av nv cv, .slice vs1 vs2 vs3, .int .i64 z]] u0 fun e u' => e = .returned (.bool true) ∧ Below u0.heap.size u0 u') := numbers_any (kd := 4) (z := z) H0 ⟨av, nv, cv, rfl⟩ ⟨vs1, vs2, vs3, rfl⟩ hN
  clear h hu0 hr0 hb0 H0 hbb
  go_enter Tryd.func10, Tryd.ntmps10
  go_upto_region 1 with fail
  rw [← HU0.out, ← HBB.out]
  go_wp2_with fail
  refine HNU.out.mono ?_
  rintro _ u1 ⟨rfl, hb1⟩
  have HF := hid (And.intro (HTS.out.below hb1) (HB0.out.trans (hb1.mono HB0.out.size)))
  clear hb1
  go_wp2_with fail
  go_ret
  exact ⟨rfl, HF.out⟩

theorem plays_num5 {w u : World} {pp p m : Nat} {S F : Nat → Prop} {B : Nat} {l : Lg} (h : PaS w u pp p m S F B l) {v vs : Value} {z : Int} (hv : ∃ a n c, v = .slice a n c) (hvs : ∃ a n c, vs = .slice a n c) (hN : l.ws.length ≤ 3000000000000) :
    Calls Tryd.prog 10 #[.pointer (some ⟨pp, 0, none⟩), .agg (opv 5 v vs z)] u fun e u' => e = .returned (.bool true) ∧ PaS w u' pp p m S F B l ∧ Below u.heap.size u u' := by
  obtain ⟨u0, hu0⟩ : ∃ u0, u0 = u.alloc (.cells (opv 5 v vs z) 40) := ⟨_, rfl⟩
  have hb0 : Below u.heap.size u u0 := by rw [hu0]; exact (Below.refl _ _).alloc (Nat.le_refl _) _
  have hr0 : u0.heap[u.heap.size]? = some (.cells (opv 5 v vs z) 40 (0, 0)) := by rw [hu0]; exact heap_alloc_new u _
  unfold opv at hr0 hu0 ⊢
  obtain ⟨vs1, vs2, vs3, rfl⟩ := hvs
  obtain ⟨av, nv, cv, rfl⟩ := hv
  have HU0 := hid hu0
  have z0 : u0.cell? ⟨u.heap.size, 0, none⟩ = some (.int .i64 5) := by rw [cell_of_row _ _ _ _ _ _ hr0]; rfl
  have z1 : u0.cell? ⟨u.heap.size, 1, none⟩ = some (.slice av nv cv) := by rw [cell_of_row _ _ _ _ _ _ hr0]; rfl
  have z2 : u0.cell? ⟨u.heap.size, 2, none⟩ = some (.slice vs1 vs2 vs3) := by rw [cell_of_row _ _ _ _ _ _ hr0]; rfl
  have z3 : u0.cell? ⟨u.heap.size, 3, none⟩ = some (.int .i64 z) := by rw [cell_of_row _ _ _ _ _ _ hr0]; rfl
  have hbl' : u.heap.size < u0.heap.size := (Array.getElem?_eq_some_iff.1 hr0).1
  obtain ⟨b, hbb⟩ : ∃ b, b = u.heap.size := ⟨_, rfl⟩
  have HBB := hid hbb
  rw [← hbb] at z0 z1 z2 z3 hbl' hr0
  have HB0 := hid hb0
  have H0 := h.below hb0
  have HTS := hid H0
  obtain ⟨q0, q1, -⟩ := pr_cells H0.pr
  have hpl := (Array.getElem?_eq_some_iff.1 H0.pr).1
  have HNU : Hid (Calls Tryd.prog 32 #[.pointer (some ⟨pp, 0, none⟩), .agg #[.int .i64 5, .slice av nv cv, .slice vs1 vs2 vs3, .int .i64 z]] u0 fun e u' => e = .returned (.bool true) ∧ Below u0.heap.size u0 u') := numbers_any (kd := 5) (z := z) H0 ⟨av, nv, cv, rfl⟩ ⟨vs1, vs2, vs3, rfl⟩ hN
  clear h hu0 hr0 hb0 H0 hbb
  go_enter Tryd.func10, Tryd.ntmps10
  go_upto_region 1 with fail
  rw [← HU0.out, ← HBB.out]
  go_wp2_with fail
  refine HNU.out.mono ?_
  rintro _ u1 ⟨rfl, hb1⟩
  have HF := hid (And.intro (HTS.out.below hb1) (HB0.out.trans (hb1.mono HB0.out.size)))
  clear hb1
  go_wp2_with fail
  go_ret
  exact ⟨rfl, HF.out⟩

theorem plays_other {w u : World} {pp p m : Nat} {S F : Nat → Prop} {B : Nat} {l : Lg} (h : PaS w u pp p m S F B l) {v vs : Value} {kd z : Int} (hv : ∃ a n c, v = .slice a n c) (hvs : ∃ a n c, vs = .slice a n c) (k1 : kd ≠ 1) (k2 : kd ≠ 2) (k3 : kd ≠ 3) (k4 : kd ≠ 4) (k5 : kd ≠ 5) (k6 : kd ≠ 6) (k7 : kd ≠ 7) :
    Calls Tryd.prog 10 #[.pointer (some ⟨pp, 0, none⟩), .agg (opv kd v vs z)] u fun e u' => e = .returned (.bool true) ∧ PaS w u' pp p m S F B l ∧ Below u.heap.size u u' := by
  obtain ⟨u0, hu0⟩ : ∃ u0, u0 = u.alloc (.cells (opv kd v vs z) 40) := ⟨_, rfl⟩
  have hb0 : Below u.heap.size u u0 := by rw [hu0]; exact (Below.refl _ _).alloc (Nat.le_refl _) _
  have hr0 : u0.heap[u.heap.size]? = some (.cells (opv kd v vs z) 40 (0, 0)) := by rw [hu0]; exact heap_alloc_new u _
  unfold opv at hr0 hu0 ⊢
  obtain ⟨vs1, vs2, vs3, rfl⟩ := hvs
  obtain ⟨av, nv, cv, rfl⟩ := hv
  have HU0 := hid hu0
  have z0 : u0.cell? ⟨u.heap.size, 0, none⟩ = some (.int .i64 kd) := by rw [cell_of_row _ _ _ _ _ _ hr0]; rfl
  have z1 : u0.cell? ⟨u.heap.size, 1, none⟩ = some (.slice av nv cv) := by rw [cell_of_row _ _ _ _ _ _ hr0]; rfl
  have z2 : u0.cell? ⟨u.heap.size, 2, none⟩ = some (.slice vs1 vs2 vs3) := by rw [cell_of_row _ _ _ _ _ _ hr0]; rfl
  have z3 : u0.cell? ⟨u.heap.size, 3, none⟩ = some (.int .i64 z) := by rw [cell_of_row _ _ _ _ _ _ hr0]; rfl
  have hbl' : u.heap.size < u0.heap.size := (Array.getElem?_eq_some_iff.1 hr0).1
  obtain ⟨b, hbb⟩ : ∃ b, b = u.heap.size := ⟨_, rfl⟩
  have HBB := hid hbb
  rw [← hbb] at z0 z1 z2 z3 hbl' hr0
  have HB0 := hid hb0
  have H0 := h.below hb0
  have HTS := hid H0
  obtain ⟨q0, q1, -⟩ := pr_cells H0.pr
  have hpl := (Array.getElem?_eq_some_iff.1 H0.pr).1
  have b1 : (kd == 1) = false := by simp [k1]
  have b2 : (kd == 2) = false := by simp [k2]
  have b3 : (kd == 3) = false := by simp [k3]
  have b4 : (kd == 4) = false := by simp [k4]
  have b5 : (kd == 5) = false := by simp [k5]
  have b6 : (kd == 6) = false := by simp [k6]
  have b7 : (kd == 7) = false := by simp [k7]
  clear h hu0 hr0 hb0 H0 hbb k1 k2 k3 k4 k5 k6 k7
  go_enter Tryd.func10, Tryd.ntmps10
  go_upto_region 1 with fail
  rw [← HU0.out, ← HBB.out]
  go_wp2_with fail
  go_ret
  exact ⟨rfl, HTS.out, HB0.out⟩

theorem plays_none {u : World} {pp : Nat} (h : u.heap[pp]? = some (prRow none none)) {v vs : Value} {kd z : Int} (hv : ∃ a n c, v = .slice a n c) (hvs : ∃ a n c, vs = .slice a n c) :
    Calls Tryd.prog 10 #[.pointer (some ⟨pp, 0, none⟩), .agg (opv kd v vs z)] u fun e u' => e = .returned (.bool true) ∧ Below u.heap.size u u' := by
  obtain ⟨u0, hu0⟩ : ∃ u0, u0 = u.alloc (.cells (opv kd v vs z) 40) := ⟨_, rfl⟩
  have hb0 : Below u.heap.size u u0 := by rw [hu0]; exact (Below.refl _ _).alloc (Nat.le_refl _) _
  have hr0 : u0.heap[u.heap.size]? = some (.cells (opv kd v vs z) 40 (0, 0)) := by rw [hu0]; exact heap_alloc_new u _
  unfold opv at hr0 hu0 ⊢
  obtain ⟨vs1, vs2, vs3, rfl⟩ := hvs
  obtain ⟨av, nv, cv, rfl⟩ := hv
  have HU0 := hid hu0
  have z0 : u0.cell? ⟨u.heap.size, 0, none⟩ = some (.int .i64 kd) := by rw [cell_of_row _ _ _ _ _ _ hr0]; rfl
  have z1 : u0.cell? ⟨u.heap.size, 1, none⟩ = some (.slice av nv cv) := by rw [cell_of_row _ _ _ _ _ _ hr0]; rfl
  have z2 : u0.cell? ⟨u.heap.size, 2, none⟩ = some (.slice vs1 vs2 vs3) := by rw [cell_of_row _ _ _ _ _ _ hr0]; rfl
  have z3 : u0.cell? ⟨u.heap.size, 3, none⟩ = some (.int .i64 z) := by rw [cell_of_row _ _ _ _ _ _ hr0]; rfl
  have hbl' : u.heap.size < u0.heap.size := (Array.getElem?_eq_some_iff.1 hr0).1
  obtain ⟨b, hbb⟩ : ∃ b, b = u.heap.size := ⟨_, rfl⟩
  have HBB := hid hbb
  rw [← hbb] at z0 z1 z2 z3 hbl' hr0
  have HB0 := hid hb0
  have hpr := below_keeps hb0 h (Array.getElem?_eq_some_iff.1 h).1
  obtain ⟨q0, q1, -⟩ := pr_cells hpr
  have hpl := (Array.getElem?_eq_some_iff.1 hpr).1
  clear h hu0 hr0 hb0 hbb hpr
  go_enter Tryd.func10, Tryd.ntmps10
  go_upto_region 1 with fail
  rw [← HU0.out, ← HBB.out]
  go_wp2_with fail
  go_ret
  exact ⟨rfl, HB0.out⟩

end Go.Proofs.YteoebmpfdcbbmacDoor

namespace Go.Proofs.YteoebmpfdcbbmacDoor
open Go.ChangeShapes Go.WideShapes Go.ChangeAt Go.RowKit Jn N
set_option maxHeartbeats 16000000
set_option maxRecDepth 100000

/-- What is held behind a reopening. -/
def PaX (w u : World) (pp N : Nat) (X : Nat → Prop) : Prop := (u.heap[pp]? = some (prRow none none) ∧ Below w.heap.size w u ∧ X = At1 pp) ∨ ∃ p m S F B l, PaS w u pp p m S F B l ∧ l.ws.length ≤ N ∧ X = Fpo pp S F
theorem plays_reopen {w u : World} {pp p m : Nat} {S F : Nat → Prop} {B : Nat} {l : Lg} (h : PaS w u pp p m S F B l) (ht : TabN w) (hpw : w.heap.size ≤ pp) {v vs : Value} {z : Int} (hv : ∃ a n c, v = .slice a n c) (hvs : ∃ a n c, vs = .slice a n c) (hz : z < 9223372036854775808) (hN : l.ws.length ≤ 3000000000000) :
    Calls Tryd.prog 10 #[.pointer (some ⟨pp, 0, none⟩), .agg (opv 7 v vs z)] u fun e u' => e = .returned (.bool true) ∧ ∃ X', PaX w u' pp 1 X' ∧ Fp u u' (Fpo pp S F) X' := by
  obtain ⟨u0, hu0⟩ : ∃ u0, u0 = u.alloc (.cells (opv 7 v vs z) 40) := ⟨_, rfl⟩
  have hb0 : Below u.heap.size u u0 := by rw [hu0]; exact (Below.refl _ _).alloc (Nat.le_refl _) _
  have hr0 : u0.heap[u.heap.size]? = some (.cells (opv 7 v vs z) 40 (0, 0)) := by rw [hu0]; exact heap_alloc_new u _
  unfold opv at hr0 hu0 ⊢
  obtain ⟨vs1, vs2, vs3, rfl⟩ := hvs
  obtain ⟨av, nv, cv, rfl⟩ := hv
  have HU0 := hid hu0
  have z0 : u0.cell? ⟨u.heap.size, 0, none⟩ = some (.int .i64 7) := by rw [cell_of_row _ _ _ _ _ _ hr0]; rfl
  have z1 : u0.cell? ⟨u.heap.size, 1, none⟩ = some (.slice av nv cv) := by rw [cell_of_row _ _ _ _ _ _ hr0]; rfl
  have z2 : u0.cell? ⟨u.heap.size, 2, none⟩ = some (.slice vs1 vs2 vs3) := by rw [cell_of_row _ _ _ _ _ _ hr0]; rfl
  have z3 : u0.cell? ⟨u.heap.size, 3, none⟩ = some (.int .i64 z) := by rw [cell_of_row _ _ _ _ _ _ hr0]; rfl
  have hbl' : u.heap.size < u0.heap.size := (Array.getElem?_eq_some_iff.1 hr0).1
  obtain ⟨b, hbb⟩ : ∃ b, b = u.heap.size := ⟨_, rfl⟩
  have HBB := hid hbb
  rw [← hbb] at z0 z1 z2 z3 hbl' hr0
  have HB0 := hid hb0
  have H0 := h.below hb0
  have HTS := hid H0
  obtain ⟨q0, q1, -⟩ := pr_cells H0.pr
  have hpl := (Array.getElem?_eq_some_iff.1 H0.pr).1
  obtain ⟨D, hD⟩ : ∃ D, D = crash (l.a, l.b) z.toNat l.ws := ⟨_, rfl⟩
  have hOk := H0.jr.ok
  have hby := crash_bytes l.ws (l.a, l.b) z.toNat hOk.ba hOk.bb hOk.ws.bytes
  rw [← hD] at hby
  have HBY := hid hby
  have HPB : Hid (∀ W, Below u0.heap.size u0 W → W.heap[pp]? = some (prRow (some ⟨p, 0, none⟩) (some ⟨m, 0, none⟩))) := fun W hW => below_keeps hW H0.pr hpl
  have HSK : Hid (∀ W, Below u0.heap.size u0 W → W.cell? ⟨pp, 0, none⟩ = some (.pointer (some ⟨p, 0, none⟩)) ∧ W.cell? ⟨pp, 1, none⟩ = some (.pointer (some ⟨m, 0, none⟩)) ∧ W.cell? ⟨b, 3, none⟩ = some (.int .i64 z)) := fun W hW => by
    obtain ⟨t0, t1, -⟩ := pr_cells (below_keeps hW H0.pr hpl)
    refine ⟨t0, t1, ?_⟩
    rw [cell_of_row _ _ _ _ _ _ (below_keeps hW hr0 hbl')]
    rfl
  have HCN : Hid (∀ W, Below u0.heap.size u0 W → Calls Tryd.prog 25 #[.pointer (some ⟨p, 0, none⟩), .int .i64 z] W fun e w' => ∃ ga na ca gb nb cb, e = .returned (.agg #[.slice (some ⟨ga, 0, none⟩) na ca, .slice (some ⟨gb, 0, none⟩) nb cb]) ∧ SeesB w' (.slice (some ⟨ga, 0, none⟩) na ca) D.1 ∧ SeesB w' (.slice (some ⟨gb, 0, none⟩) nb cb) D.2 ∧ Below u0.heap.size u0 w') := fun W hW => by
    refine (crash_any _ p l z W (H0.jr.below hW).log hOk hN hz).mono ?_
    rintro e w' ⟨ga, na, ca, gb, nb, cb, rfl, hd⟩
    rw [← hD] at hd
    exact ⟨ga, na, ca, gb, nb, cb, rfl, hd.a.sees HBY.out.1, hd.b.sees HBY.out.2, hW.trans (hd.be.mono hW.size)⟩
  have HCM : Hid (∀ W, Below u0.heap.size u0 W → Calls Tryd.prog 34 #[.pointer (some ⟨m, 0, none⟩), .int .i64 z] W fun e w' => ∃ a n c a' n' c', e = .returned (.agg #[.slice a n c, .slice a' n' c']) ∧ SeesB w' (.slice a n c) D.1 ∧ SeesB w' (.slice a' n' c') D.2 ∧ Below W.heap.size W w' ∧ Below u0.heap.size u0 w') := fun W hW => by
    refine (crashR_any B m l z W (H0.rf.below hW).at hOk hz).mono ?_
    rintro e w' ⟨xa, xb, rfl, ⟨a, n, c, rfl⟩, ⟨a', n', c', rfl⟩, o1, o2, hb⟩
    rw [← hD] at o1 o2
    exact ⟨a, n, c, a', n', c', rfl, o1.sees HBY.out.1, o2.sees HBY.out.2, hb, hW.trans (hb.mono hW.size)⟩
  have HW0 : Hid (Below w.heap.size w u0) := H0.jr.be
  have HPW := hid hpw
  have HTN : Hid (∀ W, Below u0.heap.size u0 W → TabN W) := fun W hW => ht.below (HW0.out.trans (hW.mono HW0.out.size)) ht.2
  have hbd : Below u0.heap.size u0 u0.drew := below_drew (Below.refl _ _)
  have HFC := hid (fun hE => opn_facts HBY.out.1 HBY.out.2 hE)
  clear h hu0 hr0 hb0 H0 hbb hD hby hOk HTS ht hpw
  cases hE : opnE D.1 D.2 with
  | true =>
    as_aux_lemma =>
      have HE := hid hE
      have HOP : Hid (∀ (W : World) (xa xb : Value), SeesB W xa D.1 → SeesB W xb D.2 → Below u0.heap.size u0 W → Calls Tryd.prog 12 #[.agg #[xa, xb]] W fun e w' => e = .returned (.tuple #[.pointer none, .slice none 0 0, .int .i64 120]) ∧ Hid (Below u0.heap.size u0 w')) := fun W xa xb h1 h2 hW => (open_any _ _ _ _ W h1 h2 (HTN.out W hW)).mono fun e w' h => ⟨(h.1 hE).1, hW.trans ((h.1 hE).2.mono hW.size)⟩
      have HOR : Hid (∀ (W : World) (xa xb : Value), SeesB W xa D.1 → SeesB W xb D.2 → Below u0.heap.size u0 W → Calls Tryd.prog 13 #[.agg #[xa, xb]] W fun e w' => e = .returned (.tuple #[.pointer none, .slice none 0 0, .int .i64 120]) ∧ Hid (Below u0.heap.size u0 w')) := fun W xa xb h1 h2 hW => (openR_any _ _ _ _ W h1 h2).mono fun e w' h => ⟨(h.1 hE).1, hW.trans ((h.1 hE).2.mono hW.size)⟩
      clear hE
      go_enter Tryd.func10, Tryd.ntmps10
      go_upto_region 1 with fail
      rw [← HU0.out, ← HBB.out]
      go_upto_region 21 with fail
      go_region_held (fun W => W.cell? ⟨pp, 0, none⟩ = some (.pointer (some ⟨p, 0, none⟩)) ∧ W.cell? ⟨pp, 1, none⟩ = some (.pointer (some ⟨m, 0, none⟩)) ∧ W.cell? ⟨b, 3, none⟩ = some (.int .i64 z)) (exact HSK.out _ (by assumption))
        (first
          | (go_at_call 25; refine (HCN.out _ hbd).mono ?_; rintro _ w5 ⟨ga, na, ca, gb, nb, cb, rfl, hs5, hs5', hb5⟩; have HSa := hid hs5; have HSb := hid hs5'; have HB5 := hid hb5; clear hs5 hs5')
          | (go_at_call 12; refine (HOP.out _ _ _ HSa.out HSb.out HB5.out).mono ?_; rintro _ u1 ⟨rfl, HB1⟩; have hb1 := HB1.out)
          | fail)
      all_goals (
        have hbd1 : Below u0.heap.size u0 u1.drew := below_drew HB1.out
        have HBD1 := hid hbd1
        go_upto_region 22 with fail
        go_region_held (fun W => W.cell? ⟨pp, 0, none⟩ = some (.pointer (some ⟨p, 0, none⟩)) ∧ W.cell? ⟨pp, 1, none⟩ = some (.pointer (some ⟨m, 0, none⟩)) ∧ W.cell? ⟨b, 3, none⟩ = some (.int .i64 z)) (exact HSK.out _ (by assumption))
          (first
            | (go_at_call 34; refine (HCM.out _ HBD1.out).mono ?_; rintro _ w6 ⟨xa, xn, xc, ya, yn, yc, rfl, hs6, hs6', hb6, hb26⟩; have HSx := hid hs6; have HSy := hid hs6'; have HB26 := hid hb26; clear hs6 hs6' hb6)
            | (go_at_call 13; refine (HOR.out _ _ _ HSx.out HSy.out HB26.out).mono ?_; rintro _ u2 ⟨rfl, HB2⟩; have hb2 := HB2.out)
            | fail)
        all_goals (
          have hr2 := HPB.out u2 HB2.out
          obtain ⟨t0, t1, tf⟩ := pr_cells hr2
          have m2 := (Array.getElem?_eq_some_iff.1 hr2).1
          obtain ⟨hP1, hP2⟩ := pr_put hr2 none none
          have hr3 : (u2.setCell ⟨pp, 0, none⟩ (.pointer none)).heap[pp]? = some (prRow none (some ⟨m, 0, none⟩)) := by unfold prRow at hr2 ⊢; exact set_cells hr2
          obtain ⟨s0, s1, sf⟩ := pr_cells hr3
          obtain ⟨u3, hu3⟩ : ∃ u3, u3 = (u2.setCell ⟨pp, 0, none⟩ (.pointer none)).setCell ⟨pp, 1, none⟩ (.pointer none) := ⟨_, rfl⟩
          rw [← hu3] at hP1 hP2
          have HLS := hid (lists_eq _ _ [] u3 (seesBB_nil _) (seesBB_nil _))
          have hbw2 : Below w.heap.size w u2 := HW0.out.trans (HB2.out.mono HW0.out.size)
          have HBW3 : Hid (Below w.heap.size w u3) := hP2.below hbw2 hbw2.size (fun k hk e => by unfold At1 at e; have := HPW.out; omega)
          have HK3 : Hid (Keeps (Fpo pp S F) u u3) := (Keeps.of (HB0.out.trans (HB2.out.mono HB0.out.size))).trans (hP2.mono fun k _ e => .inl e)
          have HP1 := hid hP1
          have HU3 := hid hu3
          clear hr2 hr3 hP1 hP2 hu3 hbw2
          go_upto_region 25 with fail
          rw [← HU3.out]
          go_wp2_with fail
          refine HLS.out.mono ?_
          rintro _ u4 ⟨rfl, hb4⟩
          have HF : Hid (∃ X', PaX w u4 pp 1 X' ∧ Fp u u4 (Fpo pp S F) X') := ⟨_, .inl ⟨below_keeps hb4 HP1.out (Array.getElem?_eq_some_iff.1 HP1.out).1, HBW3.out.trans (hb4.mono HBW3.out.size), rfl⟩, HK3.out.trans (Keeps.of hb4), fun k e => .inl (.inl e)⟩
          clear hb4
          go_wp2_with fail
          go_ret
          exact ⟨rfl, HF.out⟩))
  | false =>
    as_aux_lemma =>
      obtain ⟨-, -, -, hws⟩ := HFC.out hE
      have HWS := hid hws
      obtain ⟨L0, HL0⟩ : ∃ L0, Hid (L0 = opnL D.1 D.2) := ⟨_, rfl⟩
      rw [← HL0.out] at HWS
      have HOP : Hid (∀ (W : World) (xa xb : Value), SeesB W xa D.1 → SeesB W xb D.2 → Below u0.heap.size u0 W → Calls Tryd.prog 12 #[.agg #[xa, xb]] W fun e w' => ∃ p' ao no co S' Bd, e = .returned (.tuple #[.pointer (some ⟨p', 0, none⟩), .slice ao no co, .int .i64 0]) ∧ Hid (Opened W w' S' Bd p' (.slice ao no co) L0 (opnR D.1 D.2)) ∧ Hid (Below u0.heap.size u0 w')) := fun W xa xb h1 h2 hW => by
        rw [HL0.out]
        refine (open_any _ _ _ _ W h1 h2 (HTN.out W hW)).mono fun e w' h => ?_
        obtain ⟨p', v', S', Bd, rfl, hO⟩ := h.2 hE
        obtain ⟨ao, no, co, rfl, -, -, -⟩ := hO.recs.sees.shape
        exact ⟨p', ao, no, co, S', Bd, rfl, hO, hW.trans (hO.be.mono hW.size)⟩
      have HOR : Hid (∀ (W : World) (xa xb : Value), SeesB W xa D.1 → SeesB W xb D.2 → Below u0.heap.size u0 W → Calls Tryd.prog 13 #[.agg #[xa, xb]] W fun e w' => ∃ m' ao no co, e = .returned (.tuple #[.pointer (some ⟨m', 0, none⟩), .slice ao no co, .int .i64 0]) ∧ Hid (RefAt W.heap.size w' m' L0 ∧ SeesBB w' (.slice ao no co) (opnR D.1 D.2) ∧ Below W.heap.size W w') ∧ Hid (Below u0.heap.size u0 w')) := fun W xa xb h1 h2 hW => by
        rw [HL0.out]
        refine (openR_any _ _ _ _ W h1 h2).mono fun e w' h => ?_
        obtain ⟨m', v', rfl, hR, hS, hb⟩ := h.2 hE
        obtain ⟨ao, no, co, rfl, -, -, -⟩ := hS.shape
        exact ⟨m', ao, no, co, rfl, ⟨hR, hS, hb⟩, hW.trans (hb.mono hW.size)⟩
      clear hE hws HL0
      go_enter Tryd.func10, Tryd.ntmps10
      go_upto_region 1 with fail
      rw [← HU0.out, ← HBB.out]
      go_upto_region 21 with fail
      go_region_held (fun W => W.cell? ⟨pp, 0, none⟩ = some (.pointer (some ⟨p, 0, none⟩)) ∧ W.cell? ⟨pp, 1, none⟩ = some (.pointer (some ⟨m, 0, none⟩)) ∧ W.cell? ⟨b, 3, none⟩ = some (.int .i64 z)) (exact HSK.out _ (by assumption))
        (first
          | (go_at_call 25; refine (HCN.out _ hbd).mono ?_; rintro _ w5 ⟨ga, na, ca, gb, nb, cb, rfl, hs5, hs5', hb5⟩; have HSa := hid hs5; have HSb := hid hs5'; have HB5 := hid hb5; clear hs5 hs5')
          | (go_at_call 12; refine (HOP.out _ _ _ HSa.out HSb.out HB5.out).mono ?_; rintro _ u1 ⟨p', ao1, no1, co1, S', Bd, rfl, HO, HB1⟩; have hb1 := HB1.out)
          | fail)
      all_goals (
        have hbd1 : Below u0.heap.size u0 u1.drew := below_drew HB1.out
        have HBD1 := hid hbd1
        go_upto_region 22 with fail
        go_region_held (fun W => W.cell? ⟨pp, 0, none⟩ = some (.pointer (some ⟨p, 0, none⟩)) ∧ W.cell? ⟨pp, 1, none⟩ = some (.pointer (some ⟨m, 0, none⟩)) ∧ W.cell? ⟨b, 3, none⟩ = some (.int .i64 z)) (exact HSK.out _ (by assumption))
          (first
            | (go_at_call 34; refine (HCM.out _ HBD1.out).mono ?_; rintro _ w6 ⟨xa, xn, xc, ya, yn, yc, rfl, hs6, hs6', hb6, hb26⟩; have HSx := hid hs6; have HSy := hid hs6'; have HB26 := hid hb26; have HB6 := hid hb6; clear hs6 hs6' hb6)
            | (go_at_call 13; refine (HOR.out _ _ _ HSx.out HSy.out HB26.out).mono ?_; rintro _ u2 ⟨m', ao2, no2, co2, rfl, HR, HB2⟩; have hb2 := HB2.out)
            | fail)
        all_goals (
          have hr2 := HPB.out u2 HB2.out
          obtain ⟨t0, t1, tf⟩ := pr_cells hr2
          have m2 := (Array.getElem?_eq_some_iff.1 hr2).1
          obtain ⟨hP1, hP2⟩ := pr_put hr2 (some ⟨p', 0, none⟩) (some ⟨m', 0, none⟩)
          have hrc : u2.heap[pp]? = some (.cells #[.pointer (some ⟨p, 0, none⟩), .pointer (some ⟨m, 0, none⟩)] 33 (0, 0)) := hr2
          have hr3 : (u2.setCell ⟨pp, 0, none⟩ (.pointer (some ⟨p', 0, none⟩))).heap[pp]? = some (prRow (some ⟨p', 0, none⟩) (some ⟨m, 0, none⟩)) := by unfold prRow at hr2 ⊢; exact set_cells hr2
          obtain ⟨s0, s1, sf⟩ := pr_cells hr3
          obtain ⟨u3, hu3⟩ : ∃ u3, u3 = (u2.setCell ⟨pp, 0, none⟩ (.pointer (some ⟨p', 0, none⟩))).setCell ⟨pp, 1, none⟩ (.pointer (some ⟨m', 0, none⟩)) := ⟨_, rfl⟩
          rw [← hu3] at hP1 hP2
          have hb12 : Below u1.heap.size u1 u2 := (show Below u1.heap.size u1 w6 from ⟨HB6.out.os, HB6.out.tape, HB6.out.output, HB6.out.size, HB6.out.block⟩).trans (HR.out.2.2.mono HB6.out.size)
          have HLS := hid (lists_eq _ _ (opnR D.1 D.2) u3 ((HO.out.recs.sees.below hb12).passN hrc (pr_int _ _) (pr_sl _ _) hP2) (HR.out.2.1.passN hrc (pr_int _ _) (pr_sl _ _) hP2))
          have hs5 := HB5.out.size
          have hs1 := HO.out.be.size
          have hs6 : u1.heap.size ≤ w6.heap.size := HB6.out.size
          have hs2 := HR.out.2.2.size
          have hwu := HW0.out.size
          have HF3 : Hid (∀ u4, Below u3.heap.size u3 u4 → ∃ X', PaX w u4 pp 1 X' ∧ Fp u u4 (Fpo pp S F) X') := fun u4 h4 => by
            have hs3 := hP2.size
            have hs4 := h4.size
            have hSlt := HO.out.log.lt
            have hJ : Jr w u1 S' p' L0 := (show Jr w5 u1 S' p' L0 from ⟨HO.out.be, HO.out.log, HO.out.ok, HO.out.lo⟩).since (HW0.out.trans (HB5.out.mono HW0.out.size))
            have hR4 : RefAt w6.heap.size u4 m' L0 := (HR.out.1.keepsLow hP2 (by omega)).below h4
            have h0u := HB0.out.size
            have hKP : Keeps (Fpo pp S F) u u4 := ((Keeps.of (HB0.out.trans (HB2.out.mono HB0.out.size))).trans (hP2.mono fun k _ e => .inl e)).trans (Keeps.of h4)
            refine ⟨_, .inr ⟨p', m', S', _, w6.heap.size, L0, ⟨below_keeps h4 hP1 (Array.getElem?_eq_some_iff.1 hP1).1, ?_, hR4.own, by omega, by omega, fun k e e' => ?_, fun e => ?_, fun e => ?_, fun k e => ?_⟩, HWS.out, rfl⟩, hKP, fun k e => ?_⟩
            · exact ((hJ.below hb12).keeps hP2 (fun k e => by unfold At1 at e; exact ⟨fun hS => by have := HO.out.lo k hS; omega, by have := HPW.out; omega⟩)).below h4
            · have := hSlt k e; have := e'.1; omega
            · have := HO.out.lo pp e; omega
            · have := e.1; omega
            · have := e.1; omega
            · rcases e with e | e | e
              · exact .inl (.inl e)
              · exact .inr (by have := HO.out.lo k e; omega)
              · exact .inr (by have := e.1; omega)
          have HU3 := hid hu3
          clear hr2 hr3 hP1 hP2 hu3 hrc hb12 hs5 hs1 hs6 hs2 hwu
          go_upto_region 25 with fail
          rw [← HU3.out]
          go_wp2_with fail
          refine HLS.out.mono ?_
          rintro _ u4 ⟨rfl, hb4⟩
          have HF := hid (HF3.out u4 hb4)
          clear hb4
          go_wp2_with fail
          go_ret
          exact ⟨rfl, HF.out⟩))
end Go.Proofs.YteoebmpfdcbbmacDoor

namespace Go.Proofs.YteoebmpfdcbbmacDoor
open Go.ChangeShapes Go.WideShapes Go.ChangeAt Go.RowKit Jn N
set_option maxHeartbeats 16000000
set_option maxRecDepth 100000

theorem SeesO.below {w w' : World} {v : Value} {S : List Opn} (h : SeesO w v S) (hb : Below w.heap.size w w') : SeesO w' v S := by
  obtain ⟨ao, cap, hv, h1, h2, h3⟩ := h
  refine ⟨ao, cap, hv, h1, h2, fun j hj => ?_⟩
  obtain ⟨g, off, ha, hg, c0, c1, c2, c3⟩ := h3 j hj
  exact ⟨g, off, ha, Nat.lt_of_lt_of_le hg hb.size, (hb.cell (p := ⟨g, _, none⟩) hg).trans c0, (hb.cell (p := ⟨g, _, none⟩) hg).trans c1, (hb.cell (p := ⟨g, _, none⟩) hg).trans c2, (hb.cell (p := ⟨g, _, none⟩) hg).trans c3⟩
theorem SeesO.shape {w : World} {v : Value} {S : List Opn} (h : SeesO w v S) : ∃ a n c, v = .slice a n c ∧ Hid (n = S.length) ∧ n ≤ c ∧ c ≤ maxLen := by
  obtain ⟨ao, cap, hv, h1, h2, _⟩ := h
  exact ⟨ao, _, cap, hv, rfl, h1, h2⟩
theorem SeesO.at {w : World} {ao : Option Addr} {n cap : Nat} {S : List Opn} (h : SeesO w (.slice ao n cap) S) (j : Nat) (hj : j < n) : ∃ (g off : Nat) (o : Opn), ao = some ⟨g, off, none⟩ ∧ g < w.heap.size ∧ w.cell? ⟨g, off + j * 4, none⟩ = some (.int .i64 o.k) ∧ w.cell? ⟨g, off + j * 4 + 1, none⟩ = some o.v ∧ w.cell? ⟨g, off + j * 4 + 2, none⟩ = some o.vs ∧ w.cell? ⟨g, off + j * 4 + 3, none⟩ = some (.int .i64 o.z) ∧ Hid (S[j]? = some o) := by
  obtain ⟨ao', cap', hv, h1, h2, h3⟩ := h
  simp at hv
  obtain ⟨rfl, rfl, rfl⟩ := hv
  obtain ⟨g, off, a, b, c0, c1, c2, c3⟩ := h3 j hj
  exact ⟨g, off, S[j], a, b, c0, c1, c2, c3, List.getElem?_eq_getElem hj⟩
theorem Opn.Ok.below {w w' : World} {o : Opn} (h : o.Ok w) (hb : Below w.heap.size w w') : o.Ok w' := ⟨h.v.below hb, h.vs.below hb, h.lr, h.ls, h.ln, h.z⟩

theorem appL_ws (l : Lg) (r : List Nat) : (appL l r).ws.length ≤ l.ws.length + 1 := by
  unfold appL
  split <;> simp [Lg.app]
theorem rewL_ws (l : Lg) (rs : List (List Nat)) : (rewL l rs).ws.length ≤ l.ws.length + 1 := by
  unfold rewL
  split <;> simp [Lg.rew, Lg.beg]
theorem PaX.be {w u : World} {pp N : Nat} {X : Nat → Prop} (h : PaX w u pp N X) : Below w.heap.size w u := by
  rcases h with ⟨-, h, -⟩ | ⟨p, m, S, F, B, l, h, -, -⟩
  · exact h
  · exact h.jr.be
theorem PaX.keeps {w u u' : World} {pp N : Nat} {X T : Nat → Prop} (h : PaX w u pp N X) (hk : Keeps T u u') (hT : ∀ k, T k → ¬ X k ∧ w.heap.size ≤ k) : PaX w u' pp N X := by
  rcases h with ⟨h1, h, rfl⟩ | ⟨p, m, S, F, B, l, h, hl, rfl⟩
  · exact .inl ⟨(hk.block pp (Array.getElem?_eq_some_iff.1 h1).1 (fun e => (hT pp e).1 rfl)).trans h1, hk.below h h.size (fun k hl e => by have := (hT k e).2; omega), rfl⟩
  · refine .inr ⟨p, m, S, F, B, l, ⟨(hk.block pp (Array.getElem?_eq_some_iff.1 h.pr).1 (fun e => (hT pp e).1 (.inl rfl))).trans h.pr, h.jr.keeps hk (fun k e => ⟨fun hS => (hT k e).1 (.inr (.inl hS)), (hT k e).2⟩), h.rf.keeps hk (fun k e hF => (hT k e).1 (.inr (.inr hF))), h.wB, Nat.le_trans h.Bu hk.size, h.ap, h.pS, h.pF, h.fl⟩, hl, rfl⟩
theorem PaX.below {w u u' : World} {pp N : Nat} {X : Nat → Prop} (h : PaX w u pp N X) (hb : Below u.heap.size u u') : PaX w u' pp N X := h.keeps (T := fun _ => False) (Keeps.of hb) (fun _ e => e.elim)
theorem PaX.lt {w u : World} {pp N : Nat} {X : Nat → Prop} (h : PaX w u pp N X) : ∀ k, X k → k < u.heap.size := by
  rcases h with ⟨h1, -, rfl⟩ | ⟨p, m, S, F, B, l, h, -, rfl⟩
  · intro k e
    cases e
    exact (Array.getElem?_eq_some_iff.1 h1).1
  · intro k e
    rcases e with e | e | e
    · cases e
      exact (Array.getElem?_eq_some_iff.1 h.pr).1
    · exact h.jr.log.lt k e
    · exact h.rf.lt k e
theorem PaX.lo {w u : World} {pp N : Nat} {X : Nat → Prop} (h : PaX w u pp N X) (hpp : w.heap.size ≤ pp) : ∀ k, X k → w.heap.size ≤ k := by
  rcases h with ⟨h1, -, rfl⟩ | ⟨p, m, S, F, B, l, h, -, rfl⟩
  · intro k e
    cases e
    exact hpp
  · intro k e
    rcases e with e | e | e
    · cases e
      exact hpp
    · exact h.jr.lo k e
    · exact h.fl k e
theorem PaX.mono {w u : World} {pp N N' : Nat} {X : Nat → Prop} (h : PaX w u pp N X) (hN : N ≤ N') : PaX w u pp N' X := by
  rcases h with h | ⟨p, m, S, F, B, l, h, hl, e⟩
  · exact .inl h
  · exact .inr ⟨p, m, S, F, B, l, h, Nat.le_trans hl hN, e⟩

theorem plays_anyX {w u : World} {pp N : Nat} {X : Nat → Prop} (h : PaX w u pp N X) (ht : TabN w) (hpw : w.heap.size ≤ pp) {o : Opn} (ho : o.Ok w) (hN : N + 1 ≤ 2500000000000) :
    Calls Tryd.prog 10 #[.pointer (some ⟨pp, 0, none⟩), .agg (opv o.k o.v o.vs o.z)] u fun e u' => e = .returned (.bool true) ∧ ∃ X', PaX w u' pp (N + 1) X' ∧ Fp u u' X X' := by
  have s1 : ∃ a n c, o.v = .slice a n c := by obtain ⟨a, n, c, e, -⟩ := ho.v.shape; exact ⟨a, n, c, e⟩
  have s2 : ∃ a n c, o.vs = .slice a n c := by obtain ⟨a, n, c, e, -⟩ := ho.vs.shape; exact ⟨a, n, c, e⟩
  have hbe := h.be
  have hbk : ∀ u', Keeps (fun k => w.heap.size ≤ k) u u' → Below w.heap.size w u' := fun u' hk => hk.below hbe hbe.size (fun k hk e => by omega)
  rcases h with ⟨h1, h2, rfl⟩ | ⟨p, m, S, F, B, l, h, hl, rfl⟩
  · refine (plays_none h1 s1 s2).mono ?_
    rintro e u' ⟨rfl, hb⟩
    exact ⟨rfl, _, .inl ⟨below_keeps hb h1 (Array.getElem?_eq_some_iff.1 h1).1, h2.trans (hb.mono h2.size), rfl⟩, Fp.of hb⟩
  have hst : ∀ {e : Ending} {u' : World}, e = .returned (.bool true) ∧ PaS w u' pp p m S F B l ∧ Below u.heap.size u u' → e = .returned (.bool true) ∧ ∃ X', PaX w u' pp (N + 1) X' ∧ Fp u u' (Fpo pp S F) X' := fun ⟨h1, h2, h3⟩ => ⟨h1, _, .inr ⟨p, m, S, F, B, l, h2, by omega, rfl⟩, Fp.of h3⟩
  by_cases k1 : o.k = 1
  · rw [k1]
    refine (plays_app h ht (fun u' hk => ho.v.below (hbk u' hk)) s2 (by omega)).mono ?_
    rintro e u' ⟨rfl, S', F', h', hfp⟩
    exact ⟨rfl, _, .inr ⟨p, m, S', F', B, _, h', by have := appL_ws l o.r; omega, rfl⟩, hfp⟩
  by_cases k2 : o.k = 2
  · rw [k2]
    refine (plays_rew h ht s1 (fun u' hk => ho.vs.below (hbk u' hk)) ho.ln (by omega)).mono ?_
    rintro e u' ⟨rfl, S', F', h', hfp⟩
    exact ⟨rfl, _, .inr ⟨p, m, S', F', B, _, h', by have := rewL_ws l o.rs; omega, rfl⟩, hfp⟩
  by_cases k3 : o.k = 3
  · rw [k3]
    refine (plays_sync h s1 s2 (by omega)).mono ?_
    rintro e u' ⟨rfl, S', F', h', hfp⟩
    exact ⟨rfl, _, .inr ⟨p, m, S', F', B, _, h', by simp [Lg.syn], rfl⟩, hfp⟩
  by_cases k4 : o.k = 4
  · rw [k4]
    exact (plays_num4 h s1 s2 (by omega)).mono fun e u' h => hst h
  by_cases k5 : o.k = 5
  · rw [k5]
    exact (plays_num5 h s1 s2 (by omega)).mono fun e u' h => hst h
  by_cases k6 : o.k = 6
  · rw [k6]
    exact (plays_crash h s1 s2 ho.z.2 (by omega)).mono fun e u' h => hst h
  by_cases k7 : o.k = 7
  · rw [k7]
    refine (plays_reopen h ht hpw s1 s2 ho.z.2 (by omega)).mono ?_
    rintro e u' ⟨rfl, X', h', hfp⟩
    exact ⟨rfl, X', h'.mono (by omega), hfp⟩
  exact (plays_other h s1 s2 k1 k2 k3 k4 k5 k6 k7).mono fun e u' h => hst h

/-- A new pair is opened: what it holds, and that nothing else is touched. -/
theorem open_anyX {w u : World} {pp : Nat} (hb : Below w.heap.size w u) (hpw : w.heap.size ≤ pp) (hr : u.heap[pp]? = some (prRow none none)) (ht : TabN w) {va vb : Value} {A B : List Nat} (hva : SeesB u va A) (hvb : SeesB u vb B) :
    Calls Tryd.prog 8 #[.pointer (some ⟨pp, 0, none⟩), .agg #[va, vb]] u fun e u' => e = .returned (.bool true) ∧ ∃ X', PaX w u' pp 1 X' ∧ Fp u u' (At1 pp) X' := by
  have hyA := hva.bytes
  have hyB := hvb.bytes
  have hpl := (Array.getElem?_eq_some_iff.1 hr).1
  refine (pairOpen_any pp _ _ A B w u hb hpw hr hva hvb (ht.below hb ht.2)).mono ?_
  rintro e u3 ⟨rfl, hk3, hpo⟩
  have hb3 : Below w.heap.size w u3 := hk3.below hb hb.size (fun k hk e => by unfold At1 at e; omega)
  refine ⟨rfl, ?_⟩
  rcases hpo with ⟨hE, hrp⟩ | ⟨hE, p, m, S, Bd, hrp, hJ, hSB, hRf, hBd, hSp, hS0, hB0⟩
  · exact ⟨_, .inl ⟨hrp, hb3, rfl⟩, hk3, fun k e => .inl e⟩
  · obtain ⟨-, -, -, hws⟩ := opn_facts hyA hyB hE
    have hBs : Bd ≤ u3.heap.size := by
      obtain ⟨C, va, vb, vw, X, h⟩ := hRf
      have := h.lp
      have := (Array.getElem?_eq_some_iff.1 h.row).1
      omega
    refine ⟨_, .inr ⟨p, m, S, _, Bd, _, ⟨hrp, hJ, hRf.own, by omega, hBs, fun k e e' => ?_, hSp, fun e => ?_, fun k e => ?_⟩, hws, rfl⟩, hk3, fun k e => ?_⟩
    · have := hSB k e; have := e'.1; omega
    · have := e.1; omega
    · have := e.1; omega
    · rcases e with e | e | e
      · exact .inl e
      · exact .inr (hS0 k e)
      · exact .inr (Nat.le_trans hB0 e.1)
/-- A pair, whatever is its own. -/
def PaE (w u : World) (pp N : Nat) : Prop := ∃ X, PaX w u pp N X
theorem PaE.be {w u : World} {pp N : Nat} (h : PaE w u pp N) : Below w.heap.size w u := by
  obtain ⟨X, h⟩ := h
  exact h.be
theorem PaE.below {w u u' : World} {pp N : Nat} (h : PaE w u pp N) (hb : Below u.heap.size u u') : PaE w u' pp N := by
  obtain ⟨X, h⟩ := h
  exact ⟨X, h.below hb⟩
theorem plays_any {w u : World} {pp N : Nat} (h : PaE w u pp N) (ht : TabN w) (hpw : w.heap.size ≤ pp) {o : Opn} (ho : o.Ok w) (hN : N + 1 ≤ 2500000000000) :
    Calls Tryd.prog 10 #[.pointer (some ⟨pp, 0, none⟩), .agg (opv o.k o.v o.vs o.z)] u fun e u' => e = .returned (.bool true) ∧ PaE w u' pp (N + 1) := by
  obtain ⟨X, h⟩ := h
  refine (plays_anyX h ht hpw ho hN).mono ?_
  rintro e u' ⟨rfl, X', h', -⟩
  exact ⟨rfl, X', h'⟩

theorem holds_any (va vb v : Value) (A B : List Nat) (Os : List Opn) (lo hi : Int) (w : World) (hva : SeesB w va A) (hvb : SeesB w vb B) (hv : SeesO w v Os) (hok : ∀ o ∈ Os, o.Ok w) (hl : Os.length * 64 ≤ 140737488351232) (ht : TabN w) :
    Calls Tryd.prog 6 #[.agg #[va, vb], v, .int .i64 lo, .int .i64 hi] w fun e w' => e = .returned (.bool true) ∧ Below w.heap.size w w' := by
  obtain ⟨a1, n1, c1, rfl, -, -, -⟩ := hva.shape
  obtain ⟨a2, n2, c2, rfl, -, -, -⟩ := hvb.shape
  obtain ⟨ao, n, cap, rfl, HN, hn1, hn2⟩ := hv.shape
  unfold maxLen at hn2
  have hn : n ≤ 2199023255488 := by have := HN.out; omega
  obtain ⟨u, hu⟩ : ∃ u, u = w.alloc (.cells #[.slice a1 n1 c1, .slice a2 n2 c2] 24) := ⟨_, rfl⟩
  have hb : Below w.heap.size w u := by rw [hu]; exact (Below.refl _ _).alloc (Nat.le_refl _) _
  have r1 : u.heap[w.heap.size]? = some (dkRow (.slice a1 n1 c1) (.slice a2 n2 c2)) := by rw [hu]; exact heap_alloc_new w _
  have HU := hid hu
  have HB := hid hb
  have HFI := hid (first_any u (ht.below hb ht.2))
  obtain ⟨b, hbb⟩ : ∃ b, b = w.heap.size := ⟨_, rfl⟩
  rw [← hbb] at r1
  have R1 := hid r1
  have H1 := hid hbb
  have hl1 := (Array.getElem?_eq_some_iff.1 r1).1
  have HVA := hid (hva.below hb)
  have HVB := hid (hvb.below hb)
  have HT := hid ht
  have HV := hid hv
  have HOK := hid hok
  have HYA := hid hva.bytes
  have HYB := hid hvb.bytes
  clear hva hvb hv hok ht hu hb r1 hbb hl
  go_enter Tryd.func6, Tryd.ntmps6
  go_upto_region 1 with fail
  rw [← HU.out, ← H1.out]
  go_wp2_with fail
  refine HFI.out.mono ?_
  rintro _ u1 ⟨rfl, hb1⟩
  obtain ⟨u2, hu2⟩ : ∃ u2, u2 = u1.alloc (.cells #[.pointer none, .pointer none] 33) := ⟨_, rfl⟩
  have hb2 : Below u1.heap.size u1 u2 := by rw [hu2]; exact (Below.refl _ _).alloc (Nat.le_refl _) _
  have r2 : u2.heap[u1.heap.size]? = some (prRow none none) := by rw [hu2]; exact heap_alloc_new _ _
  have hb12 : Below u.heap.size u u2 := hb1.trans (hb2.mono hb1.size)
  have hbw2 : Below w.heap.size w u2 := HB.out.trans (hb12.mono HB.out.size)
  have HPO := hid (open_anyX hbw2 (Nat.le_trans HB.out.size hb1.size) r2 HT.out (HVA.out.below hb12) (HVB.out.below hb12))
  have hr1 := below_keeps hb12 R1.out hl1
  obtain ⟨x0, x1, -⟩ := dk_cells hr1
  have m1 := (Array.getElem?_eq_some_iff.1 hr1).1
  obtain ⟨pp, hpp⟩ : ∃ pp, pp = u1.heap.size := ⟨_, rfl⟩
  have HPW : Hid (w.heap.size ≤ pp) := by unfold Hid; rw [hpp]; exact Nat.le_trans HB.out.size hb1.size
  rw [← hpp] at HPO r2
  have HU2 := hid hu2
  have HPP := hid hpp
  have HBW2 := hid hbw2
  clear hb1 hb2 hb12 hbw2 hu2 hpp hr1 r2 HFI
  go_upto_region 4 with fail
  rw [← HU2.out, ← HPP.out]
  go_wp2_with fail
  refine HPO.out.mono ?_
  rintro _ u3 ⟨rfl, X3, hX3, -⟩
  have HS0 : Hid (PaE w u3 pp 1) := ⟨X3, hX3⟩
  clear hX3 HPO x0 x1
  go_wp2_with fail
  go_loopw [10, 11, 12] (fun i _ _ wr => ∃ k : Nat, i = .int .i64 (k : Int) ∧ k ≤ n ∧ Hid (PaE w wr pp (k + 1))) (fun i _ _ _ => n - (intOf i).toNat)
  case atStart => exact ⟨0, rfl, Nat.zero_le _, HS0⟩
  case round =>
    obtain ⟨k, rfl, hk, HS⟩ := hrel
    clear HS0
    by_cases hlt : k < n
    · obtain ⟨g, off, o, rfl, hg, c0, c1, c2, c3, HO⟩ := (HV.out.below HS.out.be).at k hlt
      have HOO := hid (HOK.out o (List.mem_of_getElem? HO.out))
      obtain ⟨u5, hu5⟩ : ∃ u5, u5 = wr.alloc (.cells (opv o.k o.v o.vs o.z) 40) := ⟨_, rfl⟩
      have hb5 : Below wr.heap.size wr u5 := by rw [hu5]; exact (Below.refl _ _).alloc (Nat.le_refl _) _
      have hr5 : u5.heap[wr.heap.size]? = some (.cells (opv o.k o.v o.vs o.z) 40 (0, 0)) := by rw [hu5]; exact heap_alloc_new wr _
      have hTE := plays_any (HS.out.below hb5) HT.out HPW.out HOO.out (by omega)
      unfold opv at hr5 hu5 hTE
      obtain ⟨kd, hkd⟩ : ∃ kd, kd = o.k := ⟨_, rfl⟩
      obtain ⟨zz, hzz⟩ : ∃ zz, zz = o.z := ⟨_, rfl⟩
      obtain ⟨xa, xn, xc, hxa, -, -, -⟩ := HOO.out.v.shape
      obtain ⟨sa, sn, sc, hsa, -, -, -⟩ := HOO.out.vs.shape
      rw [← hkd] at c0 hr5 hu5 hTE
      rw [← hzz] at c3 hr5 hu5 hTE
      rw [hxa] at c1 hr5 hu5 hTE
      rw [hsa] at c2 hr5 hu5 hTE
      have HTE := hid hTE
      have HU5 := hid hu5
      have y0 : u5.cell? ⟨wr.heap.size, 0, none⟩ = some (.int .i64 kd) := by rw [cell_of_row _ _ _ _ _ _ hr5]; rfl
      have y1 : u5.cell? ⟨wr.heap.size, 1, none⟩ = some (.slice xa xn xc) := by rw [cell_of_row _ _ _ _ _ _ hr5]; rfl
      have y2 : u5.cell? ⟨wr.heap.size, 2, none⟩ = some (.slice sa sn sc) := by rw [cell_of_row _ _ _ _ _ _ hr5]; rfl
      have y3 : u5.cell? ⟨wr.heap.size, 3, none⟩ = some (.int .i64 zz) := by rw [cell_of_row _ _ _ _ _ _ hr5]; rfl
      have hbl := (Array.getElem?_eq_some_iff.1 hr5).1
      obtain ⟨b5, hbb⟩ : ∃ b5, b5 = wr.heap.size := ⟨_, rfl⟩
      rw [← hbb] at y0 y1 y2 y3 hbl
      have HBB := hid hbb
      clear hr5 hu5 hkd hzz hxa hsa hb5 hTE hbb HOO HO
      go_upto_region 10 with fail
      rw [← HU5.out, ← HBB.out]
      go_wp2_with fail
      refine HTE.out.mono ?_
      rintro _ u9 ⟨rfl, hT9⟩
      have H9 := hid hT9
      clear hT9
      go_wp2_with fail
      go_roundw
      case rel => exact ⟨k + 1, by go_num, by omega, H9⟩
      case measure => simp [intOf]; omega
    · go_wp2_with fail
      go_ret
      exact ⟨rfl, HS.out.be⟩
theorem all_any (va vb v : Value) (A B : List Nat) (Os : List Opn) (w : World) (hva : SeesB w va A) (hvb : SeesB w vb B) (hv : SeesO w v Os) (hok : ∀ o ∈ Os, o.Ok w) (hl : Os.length * 64 ≤ 140737488351232) (ht : TabN w) :
    Calls Tryd.prog 3 #[.agg #[va, vb], v] w fun e w' => e = .returned (.bool true) ∧ Below w.heap.size w w' := by
  obtain ⟨u, hu⟩ : ∃ u, u = w.alloc (.cells #[va, vb] 24) := ⟨_, rfl⟩
  have hb : Below w.heap.size w u := by rw [hu]; exact (Below.refl _ _).alloc (Nat.le_refl _) _
  have r1 : u.heap[w.heap.size]? = some (dkRow va vb) := by rw [hu]; exact heap_alloc_new w _
  have HH := hid (holds_any va vb v A B Os 1 7 u (hva.below hb) (hvb.below hb) (hv.below hb) (fun o ho => (hok o ho).below hb) hl (ht.below hb ht.2))
  obtain ⟨a1, n1, c1, rfl, -, -, -⟩ := hva.shape
  obtain ⟨a2, n2, c2, rfl, -, -, -⟩ := hvb.shape
  obtain ⟨ao, n, cap, rfl, -, -, -⟩ := hv.shape
  obtain ⟨x0, x1, -⟩ := dk_cells r1
  have hl1 := (Array.getElem?_eq_some_iff.1 r1).1
  have HU := hid hu
  have HB := hid hb
  obtain ⟨b, hbb⟩ : ∃ b, b = w.heap.size := ⟨_, rfl⟩
  rw [← hbb] at x0 x1 hl1
  have H1 := hid hbb
  clear hva hvb hv hok ht hu hb r1 hbb hl
  go_enter Tryd.func3, Tryd.ntmps3
  go_upto_region 1 with fail
  rw [← HU.out, ← H1.out]
  go_wp2_with fail
  refine HH.out.mono ?_
  rintro _ u1 ⟨rfl, hb1⟩
  have HF : Hid (Below w.heap.size w u1) := HB.out.trans (hb1.mono HB.out.size)
  clear hb1
  go_wp2_with fail
  go_ret
  exact ⟨rfl, HF.out⟩

end Go.Proofs.YteoebmpfdcbbmacDoor
