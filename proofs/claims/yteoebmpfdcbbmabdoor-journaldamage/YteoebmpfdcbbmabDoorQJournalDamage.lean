import Derived.Test.YteoebmpfdcbbmabDoorRB
import Derived.Test.YteoebmpfdcbbmabDoorCards
import Derived.Test.YteoebmpfdcbbmabDoorTie
import Derived.Deep.Slices
import Derived.Deep.Strs
import Derived.SizedLaws
import Derived.Deep.DeepHandedRow
import Derived.Lib.LaidTab
import Derived.Stop.LaidErr
import Derived.Deep.CondSized
import Derived.Test.YteoebmpfdcbbmabDoorNF
import Derived.Test.YteoebmpfdcbbmabDoorNB
import Derived.Test.YteoebmpfdcbbmabDoorNA
import Derived.Test.YteoebmpfdcbbmabDoorNH
namespace Go.Proofs.YteoebmpfdcbbmabDoor
open Go.ChangeShapes Go.WideShapes Go.ChangeAt Go.RowKit Jn N
set_option maxRecDepth 100000

theorem own : ownKnob Tryd.prog.godebug = none := by kernel_rfl
theorem laidOut : laidOutB Tryd.prog = true := by kernel_rfl
theorem gN : Tryd.prog.globalNamed "weft/journal.nibbles" = some 0 := by kernel_rfl
theorem gNType : (Tryd.prog.globals[0]?).map (·.type) = some 114 := by kernel_rfl
theorem uN : Tryd.prog.underlying 114 = some (.array 16 63) := by kernel_rfl
theorem cellsN : Tryd.prog.cellsOf 114 = 16 := by kernel_rfl
theorem cells1N : Tryd.prog.cellsOf 63 = 1 := by kernel_rfl
theorem uU : Tryd.prog.underlying 63 = some (.int .u32) := by kernel_rfl
theorem uI : Tryd.prog.underlying 3 = some (.int .i64) := by kernel_rfl
theorem u5 : Tryd.prog.underlying 5 = some (.int .u8) := by kernel_rfl
theorem uB8 : Tryd.prog.underlying 24 = some (.slice 5) := by kernel_rfl
theorem cell1_5 : Tryd.prog.cellsOf 5 = 1 := by kernel_rfl
theorem bytes5 : Tryd.prog.bytesOf 5 = 1 := by kernel_rfl

theorem wf_u8 {a : Int} (h : (Lit.int .u8 a).wf = true) : ∃ n : Nat, a = (n : Int) ∧ n < 256 := by
  have h' : (decide (IntKind.u8.min ≤ a) && decide (a ≤ IntKind.u8.max)) = true := h
  rw [show IntKind.u8.min = 0 from by decide +kernel, show IntKind.u8.max = 255 from by decide +kernel] at h'
  simp at h'
  exact ⟨a.toNat, by omega, by omega⟩
theorem wf_u16 {a : Int} (h : (Lit.int .u16 a).wf = true) : ∃ n : Nat, a = (n : Int) ∧ n < 65536 := by
  have h' : (decide (IntKind.u16.min ≤ a) && decide (a ≤ IntKind.u16.max)) = true := h
  rw [show IntKind.u16.min = 0 from by decide +kernel, show IntKind.u16.max = 65535 from by decide +kernel] at h'
  simp at h'
  exact ⟨a.toNat, by omega, by omega⟩
theorem wf_u32 {a : Int} (h : (Lit.int .u32 a).wf = true) : ∃ n : Nat, a = (n : Int) ∧ n < 4294967296 := by
  have h' : (decide (IntKind.u32.min ≤ a) && decide (a ≤ IntKind.u32.max)) = true := h
  rw [show IntKind.u32.min = 0 from by decide +kernel, show IntKind.u32.max = 4294967295 from by decide +kernel] at h'
  simp at h'
  exact ⟨a.toNat, by omega, by omega⟩
theorem wf_i64 {a : Int} (h : (Lit.int .i64 a).wf = true) : -9223372036854775808 ≤ a ∧ a ≤ 9223372036854775807 := by
  have h' : (decide (IntKind.i64.min ≤ a) && decide (a ≤ IntKind.i64.max)) = true := h
  rw [show IntKind.i64.min = -9223372036854775808 from by decide +kernel, show IntKind.i64.max = 9223372036854775807 from by decide +kernel] at h'
  simpa using h'

theorem spot_none {W : World} {a : Addr} {v : Value} (z0 : W.cell? a = some v) : ∃ g off, a = ⟨g, off, none⟩ ∧ g < W.heap.size := by
  have hlt := World.block_lt_of_cell? W a z0
  obtain ⟨g, off, sp⟩ := a
  cases sp with
  | none => exact ⟨g, off, rfl, hlt⟩
  | some s =>
    exfalso
    simp only [World.cell?] at z0
    split at z0 <;> simp at z0

theorem bulk_one {H : Type} (d : DataW H) : 1 ≤ Rows.uptoBulk d := by
  cases d with
  | lit l => cases l <;> simp [Rows.uptoBulk]
  | nil => simp [Rows.uptoBulk]
  | ptr d => simp [Rows.uptoBulk]
  | slice elems spare => simp [Rows.uptoBulk]
  | agg parts => simp [Rows.uptoBulk]
  | iface t d => simp [Rows.uptoBulk]
  | map entries => simp [Rows.uptoBulk]
  | held h => simp [Rows.uptoBulk]

theorem bulk_part {H : Type} {d : DataW H} {l : List (DataW H)} (h : d ∈ l) : Rows.uptoBulk d ≤ Rows.uptoBulkAll l := by
  induction l with
  | nil => cases h
  | cons x r ih =>
    simp only [Rows.uptoBulkAll]
    rcases List.mem_cons.1 h with rfl | h
    · omega
    · have := ih h; omega

theorem bulk_len {H : Type} (l : List (DataW H)) : l.length ≤ Rows.uptoBulkAll l := by
  induction l with
  | nil => simp
  | cons x r ih => have := bulk_one x; simp only [Rows.uptoBulkAll, List.length_cons]; omega

theorem bulk_flat {H : Type} (D : Nat → DataW H) (F : Nat → List Nat) (l : List Nat) (h : ∀ i ∈ l, (F i).length ≤ Rows.uptoBulk (D i)) : (l.map F).flatten.length ≤ Rows.uptoBulkAll (l.map D) := by
  induction l with
  | nil => simp
  | cons x r ih =>
    have h1 := h x List.mem_cons_self
    have h2 := ih (fun i hi => h i (List.mem_cons_of_mem _ hi))
    simp only [List.map_cons, List.flatten_cons, List.length_append, Rows.uptoBulkAll]
    omega

theorem weights_all {H : Type} {P : Program} {e : TypeId} : ∀ {ds : List (DataW H)} {d : DataW H}, d ∈ ds → ∀ n ∈ d.weights P e, n ∈ DataW.weightsAll P e ds
  | a :: t, d, hd, n, hn => by
    simp only [DataW.weightsAll, List.mem_append]
    rcases List.mem_cons.1 hd with rfl | h
    · exact .inl hn
    · exact .inr (weights_all h n hn)

section
variable {H : Type} {enc : TypeId × Value → H} {W : World}

/-- How long a list is, against what was read of it. -/
structure Fits (x : DataW H) (t : TypeId) (n : Nat) : Prop where
  bulk : n ≤ Rows.uptoBulk x
  room : (∀ k ∈ x.weights Tryd.prog t, k ≤ reachBytes) → n ≤ reachBytes

/-- A list of bytes that came in, within another thing. -/
theorem open_bytes {fuel : Nat} {cs : List Value} {x : DataW H × List MemPlace} (hf : DataW.trod enc Tryd.prog W 0 (fun _ => true) true fuel 24 cs = some x) :
    ∃ v L, cs = [v] ∧ SeesB W v L ∧ Fits x.1 24 L.length ∧ v.oneCell' = true := by
  rcases Go.Deep.open_slice uB8 hf with ⟨h1, hx⟩ | ⟨a, len, cap, m, n, D, Pl, h1, _, hlc, hcm, hm, hxx, hx⟩
  · subst hx
    exact ⟨_, [], h1, sees_nil W, ⟨by simp, fun _ => by simp⟩, rfl⟩
  · simp at hm
    subst hm
    have key : ∀ i, i < len → ∃ y : Nat, y < 256 ∧ W.cell? (a.add i) = some (.int .u8 (y : Int)) := by
      intro i hi
      obtain ⟨cs', k1, k2⟩ := hx i (by omega)
      rw [cell1_5, Nat.mul_one] at k1
      obtain ⟨_, _, hc⟩ := World.cells?_some k1
      obtain ⟨z, e1, _, wf⟩ := DataW.trod_int u5 k2
      obtain ⟨y, rfl, hy⟩ := wf_u8 wf
      refine ⟨y, hy, ?_⟩
      have := hc 0 (by omega)
      rw [e1] at this
      simpa [Addr.add] using this
    have hch : ∃ F : Nat → Nat, ∀ i, i < len → F i < 256 ∧ W.cell? (a.add i) = some (.int .u8 ((F i : Nat) : Int)) := by
      refine ⟨fun i => if h : i < len then (key i h).choose else 0, fun i hi => ?_⟩
      simp only [dif_pos hi]
      exact (key i hi).choose_spec
    obtain ⟨F, hF⟩ := hch
    refine ⟨_, (List.range len).map F, h1, ⟨some a, m, by simp, ⟨by simpa using hlc, fun h => by cases h⟩, hcm, fun j hj => ?_⟩, ?_, rfl⟩
    · have hj' : j < len := by simpa using hj
      obtain ⟨g, off, rfl, hg⟩ : ∃ g off, a = ⟨g, off, none⟩ ∧ g < W.heap.size := by
        have z0 := (hF 0 (by omega)).2
        have e : a.add 0 = a := by simp [Addr.add]
        rw [e] at z0
        exact spot_none z0
      have y0 := (hF j hj').2
      rw [Addr.add_mid] at y0
      exact ⟨g, off, rfl, hg, by rw [y0]; simp, by simpa using (hF j hj').1⟩
    · subst hxx
      refine ⟨?_, fun hw => ?_⟩
      · simp only [List.length_map, List.length_range, Rows.uptoBulk]
        have := bulk_len ((List.range len).map D)
        simp only [List.length_map, List.length_range] at this
        omega
      · have := hw ((((List.range len).map D).length + ((List.range (m - len)).map fun j => D (len + j)).length) * Tryd.prog.bytesOf 5) (by simp [DataW.weights])
        rw [bytes5] at this
        simp only [List.length_map, List.length_range] at this ⊢
        omega

end

theorem tabN {W : World} (h : laidMet Tryd.prog [("weft/journal.nibbles", Rows.laid_weft_journal_nibbles)] W) : TabN W := by
  obtain ⟨ps, ⟨g, t, cs, fuel, p, q, hg, ht, hvar, hd, _, _⟩, _⟩ := h
  obtain rfl := Option.some.inj (gN.symm.trans hg)
  obtain rfl := Option.some.inj (gNType.symm.trans ht)
  obtain ⟨xs, m, _, hx, hl, hxl, hall⟩ := DataW.trod_array uN hd
  rw [cellsN] at hl
  rw [cells1N] at hall
  unfold Rows.laid_weft_journal_nibbles at hx
  match xs, hxl with
  | [(d0, q0), (d1, q1), (d2, q2), (d3, q3), (d4, q4), (d5, q5), (d6, q6), (d7, q7), (d8, q8), (d9, q9), (d10, q10), (d11, q11), (d12, q12), (d13, q13), (d14, q14), (d15, q15)], _ =>
    simp at hx
    obtain ⟨⟨rfl, rfl, rfl, rfl, rfl, rfl, rfl, rfl, rfl, rfl, rfl, rfl, rfl, rfl, rfl, rfl⟩, _⟩ := hx
    obtain ⟨z0, r0, e0, _⟩ := DataW.trod_int uU (hall 0 (by omega))
    obtain ⟨z1, r1, e1, _⟩ := DataW.trod_int uU (hall 1 (by omega))
    obtain ⟨z2, r2, e2, _⟩ := DataW.trod_int uU (hall 2 (by omega))
    obtain ⟨z3, r3, e3, _⟩ := DataW.trod_int uU (hall 3 (by omega))
    obtain ⟨z4, r4, e4, _⟩ := DataW.trod_int uU (hall 4 (by omega))
    obtain ⟨z5, r5, e5, _⟩ := DataW.trod_int uU (hall 5 (by omega))
    obtain ⟨z6, r6, e6, _⟩ := DataW.trod_int uU (hall 6 (by omega))
    obtain ⟨z7, r7, e7, _⟩ := DataW.trod_int uU (hall 7 (by omega))
    obtain ⟨z8, r8, e8, _⟩ := DataW.trod_int uU (hall 8 (by omega))
    obtain ⟨z9, r9, e9, _⟩ := DataW.trod_int uU (hall 9 (by omega))
    obtain ⟨z10, r10, e10, _⟩ := DataW.trod_int uU (hall 10 (by omega))
    obtain ⟨z11, r11, e11, _⟩ := DataW.trod_int uU (hall 11 (by omega))
    obtain ⟨z12, r12, e12, _⟩ := DataW.trod_int uU (hall 12 (by omega))
    obtain ⟨z13, r13, e13, _⟩ := DataW.trod_int uU (hall 13 (by omega))
    obtain ⟨z14, r14, e14, _⟩ := DataW.trod_int uU (hall 14 (by omega))
    obtain ⟨z15, r15, e15, _⟩ := DataW.trod_int uU (hall 15 (by omega))
    simp at e0 e1 e2 e3 e4 e5 e6 e7 e8 e9 e10 e11 e12 e13 e14 e15
    obtain ⟨rfl, -⟩ := e0
    obtain ⟨rfl, -⟩ := e1
    obtain ⟨rfl, -⟩ := e2
    obtain ⟨rfl, -⟩ := e3
    obtain ⟨rfl, -⟩ := e4
    obtain ⟨rfl, -⟩ := e5
    obtain ⟨rfl, -⟩ := e6
    obtain ⟨rfl, -⟩ := e7
    obtain ⟨rfl, -⟩ := e8
    obtain ⟨rfl, -⟩ := e9
    obtain ⟨rfl, -⟩ := e10
    obtain ⟨rfl, -⟩ := e11
    obtain ⟨rfl, -⟩ := e12
    obtain ⟨rfl, -⟩ := e13
    obtain ⟨rfl, -⟩ := e14
    obtain ⟨rfl, -⟩ := e15
    have hcs : cs.toList = (List.range 16).map fun j => Value.int .u32 ((tab j : Nat) : Int) := by
      match hc : cs.toList, hl with
      | [c0, c1, c2, c3, c4, c5, c6, c7, c8, c9, c10, c11, c12, c13, c14, c15], _ =>
        rw [hc] at r0 r1 r2 r3 r4 r5 r6 r7 r8 r9 r10 r11 r12 r13 r14 r15
        simp at r0 r1 r2 r3 r4 r5 r6 r7 r8 r9 r10 r11 r12 r13 r14 r15
        subst r0 r1 r2 r3 r4 r5 r6 r7 r8 r9 r10 r11 r12 r13 r14 r15
        rfl
    have hcell : ∀ j, j < 16 → W.cell? ⟨0, j, none⟩ = some (.int .u32 ((tab j : Nat) : Int)) := by
      intro j hj
      rw [World.var?_cell gN hvar j, ← Array.getElem?_toList, hcs, List.getElem?_map, List.getElem?_range hj]
      rfl
    exact ⟨hcell, World.block_lt_of_cell? W _ (hcell 0 (by omega))⟩

/-- The cells of a table of numbers. -/
def aggCells : DataW Unit → Array Value
  | .agg ds => (ds.map fun d => match d with | .lit (.int k z) => Value.int k z | _ => .bool false).toArray
  | _ => #[]
def put (d : DataW Unit) : Obj → Obj
  | .cells _ t frozen => .cells (aggCells d) t frozen
  | o => o
/-- A world for the witness: the settled one, the table holding what its initialiser lays. -/
noncomputable def laidWorld (os : Os) : World :=
  { World.holding Tryd.prog os ⟨#[], #[], []⟩ with heap := (World.holding Tryd.prog os ⟨#[], #[], []⟩).heap.modify 0 (put Rows.laid_weft_journal_nibbles) }
end Go.Proofs.YteoebmpfdcbbmabDoor

namespace Go.Proofs.YteoebmpfdcbbmabDoor
open Go.ChangeShapes Go.WideShapes Go.ChangeAt Go.RowKit Jn N
set_option maxRecDepth 100000

theorem cell1_B : Tryd.prog.cellsOf 24 = 1 := by kernel_rfl
section
variable {H : Type} {enc : TypeId × Value → H} {W : World}
theorem open_bss {fuel : Nat} {cs : List Value} {x : DataW H × List MemPlace} (hf : DataW.trod enc Tryd.prog W 0 (fun _ => true) true fuel 27 cs = some x) (hw : ∀ k ∈ x.1.weights Tryd.prog 27, k ≤ reachBytes) :
    ∃ v Ls, cs = [v] ∧ SeesBB W v Ls ∧ ∀ L ∈ Ls, L.length ≤ 140737488355328 := by
  rcases Go.Deep.open_slice1 uBB cell1_B hf with ⟨h1, hx⟩ | ⟨a, len, cap, m, n, V, D, Pl, h1, _, hlc, hcm, hm, hxx, hx⟩
  · exact ⟨_, [], h1, ⟨none, 0, rfl, by simp, by unfold maxLen; omega, fun j hj => absurd hj (by simp)⟩, fun L hL => by cases hL⟩
  · simp at hm
    subst hm
    subst hxx
    have key : ∀ i, i < len → ∃ L : List Nat, W.cell? (a.add i) = some (V i) ∧ SeesB W (V i) L ∧ L.length ≤ 140737488355328 := by
      intro i hi
      obtain ⟨k1, k2⟩ := hx i (by omega)
      obtain ⟨v, L, e, hs, hft, -⟩ := open_bytes k2
      simp at e
      subst e
      refine ⟨L, k1, hs, ?_⟩
      have := hft.room (fun k hk => hw k (by
        simp only [DataW.weights, uBB, List.mem_cons, List.mem_append]
        exact .inr (.inl (weights_all (d := D i) (List.mem_map.2 ⟨i, by simpa using hi, rfl⟩) k hk))))
      unfold reachBytes at this
      omega
    by_cases h0 : len = 0
    · subst h0
      exact ⟨_, [], h1, ⟨some a, m, rfl, by simp, hcm, fun j hj => absurd hj (by simp)⟩, fun L hL => by cases hL⟩
    obtain ⟨F, hF⟩ : ∃ F : Nat → List Nat, ∀ i, i < len → W.cell? (a.add i) = some (V i) ∧ SeesB W (V i) (F i) ∧ (F i).length ≤ 140737488355328 := by
      refine ⟨fun i => if h : i < len then (key i h).choose else [], fun i hi => ?_⟩
      simp only [dif_pos hi]
      exact (key i hi).choose_spec
    obtain ⟨g, off, rfl, hg⟩ : ∃ g off, a = ⟨g, off, none⟩ ∧ g < W.heap.size := by
      have z0 := (hF 0 (by omega)).1
      have e : a.add 0 = a := by simp [Addr.add]
      rw [e] at z0
      exact spot_none z0
    refine ⟨_, (List.range len).map F, h1, ⟨some ⟨g, off, none⟩, m, by simp, by simpa using hlc, hcm, fun j hj => ?_⟩, fun L hL => ?_⟩
    · have hj' : j < len := by simpa using hj
      obtain ⟨y0, y1, -⟩ := hF j hj'
      rw [Addr.add_mid] at y0
      exact ⟨g, off, _, rfl, hg, y0, by simpa using y1⟩
    · obtain ⟨i, hi, rfl⟩ := List.mem_map.1 hL
      exact (hF i (by simpa using hi)).2.2
end
end Go.Proofs.YteoebmpfdcbbmabDoor

namespace Go.Proofs.YteoebmpfdcbbmabDoor
open Go.ChangeShapes Go.WideShapes Go.ChangeAt Go.RowKit Jn N
set_option maxRecDepth 100000

theorem bytesB : Tryd.prog.bytesOf 24 = 24 := by kernel_rfl
section
variable {H : Type} {enc : TypeId × Value → H} {W : World}
theorem open_bssL {fuel : Nat} {cs : List Value} {x : DataW H × List MemPlace} (hf : DataW.trod enc Tryd.prog W 0 (fun _ => true) true fuel 27 cs = some x) (hw : ∀ k ∈ x.1.weights Tryd.prog 27, k ≤ reachBytes) :
    ∃ v Ls, cs = [v] ∧ SeesBB W v Ls ∧ (∀ L ∈ Ls, L.length ≤ 140737488355328) ∧ Ls.length ≤ 8796093022208 := by
  rcases Go.Deep.open_slice1 uBB cell1_B hf with ⟨h1, hx⟩ | ⟨a, len, cap, m, n, V, D, Pl, h1, _, hlc, hcm, hm, hxx, hx⟩
  · exact ⟨_, [], h1, ⟨none, 0, rfl, by simp, by unfold maxLen; omega, fun j hj => absurd hj (by simp)⟩, fun L hL => (by cases hL), by simp⟩
  · simp at hm
    subst hm
    subst hxx
    have key : ∀ i, i < len → ∃ L : List Nat, W.cell? (a.add i) = some (V i) ∧ SeesB W (V i) L ∧ L.length ≤ 140737488355328 := by
      intro i hi
      obtain ⟨k1, k2⟩ := hx i (by omega)
      obtain ⟨v, L, e, hs, hft, -⟩ := open_bytes k2
      simp at e
      subst e
      refine ⟨L, k1, hs, ?_⟩
      have := hft.room (fun k hk => hw k (by
        simp only [DataW.weights, uBB, List.mem_cons, List.mem_append]
        exact .inr (.inl (weights_all (d := D i) (List.mem_map.2 ⟨i, by simpa using hi, rfl⟩) k hk))))
      unfold reachBytes at this
      omega
    by_cases h0 : len = 0
    · subst h0
      exact ⟨_, [], h1, ⟨some a, m, rfl, by simp, hcm, fun j hj => absurd hj (by simp)⟩, fun L hL => (by cases hL), by simp⟩
    obtain ⟨F, hF⟩ : ∃ F : Nat → List Nat, ∀ i, i < len → W.cell? (a.add i) = some (V i) ∧ SeesB W (V i) (F i) ∧ (F i).length ≤ 140737488355328 := by
      refine ⟨fun i => if h : i < len then (key i h).choose else [], fun i hi => ?_⟩
      simp only [dif_pos hi]
      exact (key i hi).choose_spec
    obtain ⟨g, off, rfl, hg⟩ : ∃ g off, a = ⟨g, off, none⟩ ∧ g < W.heap.size := by
      have z0 := (hF 0 (by omega)).1
      have e : a.add 0 = a := by simp [Addr.add]
      rw [e] at z0
      exact spot_none z0
    refine ⟨_, (List.range len).map F, h1, ⟨some ⟨g, off, none⟩, m, by simp, by simpa using hlc, hcm, fun j hj => ?_⟩, fun L hL => ?_, ?_⟩
    · have hj' : j < len := by simpa using hj
      obtain ⟨y0, y1, -⟩ := hF j hj'
      rw [Addr.add_mid] at y0
      exact ⟨g, off, _, rfl, hg, y0, by simpa using y1⟩
    · obtain ⟨i, hi, rfl⟩ := List.mem_map.1 hL
      exact (hF i (by simpa using hi)).2.2
    · have := hw ((((List.range len).map D).length + ((List.range (m - len)).map fun j => D (len + j)).length) * Tryd.prog.bytesOf 24) (by simp [DataW.weights])
      rw [bytesB] at this
      simp only [List.length_map, List.length_range] at this ⊢
      unfold reachBytes at this
      omega
end
end Go.Proofs.YteoebmpfdcbbmabDoor

namespace Go.Proofs.YteoebmpfdcbbmabDoor
open Go.ChangeShapes Go.WideShapes Go.ChangeAt Go.RowKit Jn N
set_option maxHeartbeats 1000000
set_option maxRecDepth 100000

/-- A step. -/
structure Opn where
  k : Int
  v : Value
  r : List Nat
  vs : Value
  rs : List (List Nat)
  z : Int
def Opn.cells (q : Opn) : Array Value := #[.int .i64 q.k, q.v, q.vs, .int .i64 q.z]
structure Opn.Ok (w : World) (q : Opn) : Prop where
  v : SeesB w q.v q.r
  vs : SeesBB w q.vs q.rs
  lr : q.r.length ≤ 140737488355328
  ls : ∀ L ∈ q.rs, L.length ≤ 140737488355328
  ln : q.rs.length ≤ 8796093022208
  z : -9223372036854775808 ≤ q.z ∧ q.z < 9223372036854775808
def SeesO (w : World) (v : Value) (S : List Opn) : Prop :=
  ∃ ao cap, v = .slice ao S.length cap ∧ S.length ≤ cap ∧ cap ≤ maxLen ∧
    ∀ j (h : j < S.length), ∃ g off, ao = some ⟨g, off, none⟩ ∧ g < w.heap.size ∧ w.cell? ⟨g, off + j * 4, none⟩ = some (.int .i64 S[j].k) ∧ w.cell? ⟨g, off + j * 4 + 1, none⟩ = some S[j].v ∧ w.cell? ⟨g, off + j * 4 + 2, none⟩ = some S[j].vs ∧ w.cell? ⟨g, off + j * 4 + 3, none⟩ = some (.int .i64 S[j].z)
theorem cellsOp : Tryd.prog.cellsOf 54 = 4 := by kernel_rfl
theorem cellsInt : Tryd.prog.cellsOf 3 = 1 := by kernel_rfl
theorem cellsBs : Tryd.prog.cellsOf 24 = 1 := by kernel_rfl
theorem cellsBB : Tryd.prog.cellsOf 27 = 1 := by kernel_rfl
theorem bytesOp : Tryd.prog.bytesOf 54 = 64 := by kernel_rfl
theorem i64_wf {a : Int} (h : (Lit.int .i64 a).wf = true) : -9223372036854775808 ≤ a ∧ a < 9223372036854775808 := by
  have h' : (decide (IntKind.i64.min ≤ a) && decide (a ≤ IntKind.i64.max)) = true := h
  rw [show IntKind.i64.min = -9223372036854775808 from by decide +kernel, show IntKind.i64.max = 9223372036854775807 from by decide +kernel] at h'
  simp at h'
  omega
theorem add_plain (g off i : Nat) : (⟨g, off, none⟩ : Addr).add i = ⟨g, off + i, none⟩ := by simp [Addr.add]

section
variable {H : Type} {enc : TypeId × Value → H} {W : World}
theorem open_op {fuel : Nat} {cs : List Value} {x : DataW H × List MemPlace} (h : DataW.trod enc Tryd.prog W 0 (fun _ => true) true fuel 54 cs = some x) (hw : ∀ k ∈ x.1.weights Tryd.prog 54, k ≤ reachBytes) :
    ∃ q : Opn, q.Ok W ∧ cs = q.cells.toList := by
  obtain ⟨xs, n, _, rfl, hl, hxl, hff⟩ := DataW.trod_struct Tryd.underlying54 h
  rw [cellsOp] at hl
  match xs, hxl, cs, hl with
  | [y0, y1, y2, y3], _, [v0, v1, v2, v3], _ =>
    have g0 := hff 0 _ rfl
    have g1 := hff 1 _ rfl
    have g2 := hff 2 _ rfl
    have g3 := hff 3 _ rfl
    simp [cellsInt, cellsBs, cellsBB] at g0 g1 g2 g3
    obtain ⟨n0, e0, _, w0⟩ := DataW.trod_int Tryd.underlying3 g0
    obtain ⟨n3, e3, _, w3⟩ := DataW.trod_int Tryd.underlying3 g3
    obtain ⟨b1, L1, e1, hs1, hf1, _⟩ := open_bytes g1
    obtain ⟨b2, L2, e2, hs2, hl2, hn2⟩ := open_bssL g2 (fun k hk => hw k (by
      simp only [DataW.weights, Tryd.underlying54]
      exact DataW.weights_mem_each (j := 2) (t := 27) (d := y2.1) (by simp) rfl _ hk))
    have hr := hf1.room (fun k hk => hw k (by
      simp only [DataW.weights, Tryd.underlying54]
      exact DataW.weights_mem_each (j := 1) (t := 24) (d := y1.1) (by simp) rfl _ hk))
    unfold reachBytes at hr
    simp at e0 e1 e2 e3
    subst e0 e1 e2 e3
    exact ⟨⟨n0, v1, L1, v2, L2, n3⟩, ⟨hs1, hs2, by show L1.length ≤ _; omega, hl2, hn2, i64_wf w3⟩, rfl⟩

theorem open_os {base : Nat} {v : Value} {d : DataW H} {ps : List MemPlace} (hval : Value.okWide Tryd.prog W .any base 22 v) (h : DataW.Trod enc Tryd.prog W 0 (fun _ => true) true 22 v d ps) (hw : ∀ x ∈ d.weights Tryd.prog 22, x ≤ reachBytes) :
    ∃ S : List Opn, SeesO W v S ∧ (∀ q ∈ S, q.Ok W) ∧ S.length * 64 ≤ 140737488351232 := by
  obtain ⟨a0, len, cap, rfl⟩ := okWide_slice Tryd.underlying22 hval
  obtain ⟨fuel, hf⟩ := h
  rcases Go.Deep.open_slice Tryd.underlying22 hf with ⟨h1, _⟩ | ⟨a, len', cap', m, n, D, Pl, h1, _, hlc, hcm, hm, hxx, hx⟩
  · simp [Value.cells] at h1
    obtain ⟨rfl, rfl, rfl⟩ := h1
    exact ⟨[], ⟨none, 0, rfl, by simp, by unfold maxLen; omega, fun j hj => absurd hj (by simp)⟩, (fun o ho => by cases ho), by simp⟩
  · simp [Value.cells] at h1
    obtain ⟨rfl, rfl, rfl⟩ := h1
    simp at hm
    subst hm
    simp only [Prod.mk.injEq] at hxx
    obtain ⟨rfl, _⟩ := hxx
    have hbig : len * 64 ≤ 140737488351232 := by
      have := hw ((((List.range len).map D).length + ((List.range (m - len)).map fun j => D (len + j)).length) * Tryd.prog.bytesOf 54) (by simp [DataW.weights, Tryd.underlying22])
      rw [bytesOp] at this
      simp only [List.length_map, List.length_range] at this
      unfold reachBytes at this
      omega
    have key : ∀ i, i < len → ∃ q : Opn, q.Ok W ∧ ∀ j (hj : j < 4), W.cell? ((a.add (i * 4)).add j) = q.cells[j]? := by
      intro i hi
      obtain ⟨cs', k1, k2⟩ := hx i (by omega)
      rw [cellsOp] at k1
      obtain ⟨_, hlen, hc⟩ := World.cells?_some k1
      obtain ⟨q, hq, hcs⟩ := open_op k2 (fun k hk => hw k (by
        simp only [DataW.weights, Tryd.underlying22, List.mem_cons, List.mem_append]
        exact .inr (.inl (weights_all (d := D i) (List.mem_map.2 ⟨i, by simpa using hi, rfl⟩) k hk))))
      refine ⟨q, hq, fun j hj => ?_⟩
      rw [hc j (by omega), hcs]
      simp
    by_cases h0 : len = 0
    · subst h0
      exact ⟨[], ⟨some a, m, rfl, by simp, hcm, fun j hj => absurd hj (by simp)⟩, (fun o ho => by cases ho), by simp⟩
    obtain ⟨c0, _⟩ := key 0 (by omega)
    obtain ⟨F, hF⟩ : ∃ F : Nat → Opn, ∀ i, i < len → (F i).Ok W ∧ ∀ j (hj : j < 4), W.cell? ((a.add (i * 4)).add j) = (F i).cells[j]? := by
      refine ⟨fun i => if h : i < len then (key i h).choose else c0, fun i hi => ?_⟩
      simp only [dif_pos hi]
      exact (key i hi).choose_spec
    obtain ⟨g, off, rfl, hg⟩ : ∃ g off, a = ⟨g, off, none⟩ ∧ g < W.heap.size := by
      have z0 := (hF 0 (by omega)).2 0 (by omega)
      have e : (a.add (0 * 4)).add 0 = a := by simp [Addr.add]
      rw [e] at z0
      exact spot_none (z0.trans (by rfl))
    refine ⟨(List.range len).map F, ⟨some ⟨g, off, none⟩, m, by simp, by simpa using hlc, hcm, fun j hj => ?_⟩, fun o ho => ?_, by simpa using hbig⟩
    · have hj' : j < len := by simpa using hj
      simp only [List.getElem_map, List.getElem_range]
      have hh := (hF j hj').2
      simp only [add_plain] at hh
      exact ⟨g, off, rfl, hg, hh 0 (by omega), hh 1 (by omega), hh 2 (by omega), hh 3 (by omega)⟩
    · obtain ⟨i, hi, rfl⟩ := List.mem_map.1 ho
      exact (hF i (by simpa using hi)).1
end
end Go.Proofs.YteoebmpfdcbbmabDoor

namespace Go.Proofs.YteoebmpfdcbbmabDoor
open Go.ChangeShapes Go.WideShapes Go.ChangeAt Go.RowKit Jn N
set_option maxHeartbeats 16000000
set_option maxRecDepth 100000

theorem tell_none {w u : World} {S : Nat → Prop} {p : Nat} {l : Lg} {q : Nat} {R : List (List Nat)} {P : Pts} {N : Nat} (h : Tst w u S p l q R P N) {v vs : Value} {kd z : Int} (hv : ∃ a n c, v = .slice a n c) (hvs : ∃ a n c, vs = .slice a n c) (k1 : kd ≠ 1) (k2 : kd ≠ 2) (k3 : kd ≠ 3) :
    Calls Tryd.prog 27 #[.pointer (some ⟨q, 0, none⟩), .pointer (some ⟨p, 0, none⟩), .agg (opv kd v vs z)] u fun e u' => e = .returned (.bool true) ∧ ∃ S' l' R' P', Tst w u' S' p l' q R' P' (N + 1) ∧ Nxt l l' := by
  obtain ⟨u0, hu0⟩ : ∃ u0, u0 = u.alloc (.cells (opv kd v vs z) 54) := ⟨_, rfl⟩
  have hb0 : Below u.heap.size u u0 := by rw [hu0]; exact (Below.refl _ _).alloc (Nat.le_refl _) _
  have hr0 : u0.heap[u.heap.size]? = some (.cells (opv kd v vs z) 54 (0, 0)) := by rw [hu0]; exact heap_alloc_new u _
  unfold opv at hr0 hu0 ⊢
  have H0 := h.below hb0
  obtain ⟨vs1, vs2, vs3, rfl⟩ := hvs
  obtain ⟨av, nv, cv, rfl⟩ := hv
  have HU0 := hid hu0
  have z0 : u0.cell? ⟨u.heap.size, 0, none⟩ = some (.int .i64 kd) := by rw [cell_of_row _ _ _ _ _ _ hr0]; rfl
  have hbl' : u.heap.size < u0.heap.size := (Array.getElem?_eq_some_iff.1 hr0).1
  obtain ⟨b, hbb⟩ : ∃ b, b = u.heap.size := ⟨_, rfl⟩
  have HBB := hid hbb
  rw [← hbb] at z0 hbl'
  have HTS := hid H0
  have b1 : (kd == 1) = false := by simp [k1]
  have b2 : (kd == 2) = false := by simp [k2]
  have b3 : (kd == 3) = false := by simp [k3]
  clear h hu0 hr0 hb0 H0 hbb
  go_enter Tryd.func27, Tryd.ntmps27
  go_upto_region 1 with fail
  rw [← HU0.out, ← HBB.out]
  have hJ := HTS.out.jr
  obtain ⟨ls, HLS⟩ : ∃ ls, ls = l.size := ⟨_, rfl⟩
  obtain ⟨ds, HDS⟩ : ∃ ds, ds = dirt l.ws := ⟨_, rfl⟩
  have HSZ : ∀ t : Beh u0, Hid (Calls Tryd.prog 16 #[.pointer (some ⟨p, 0, none⟩)] t.wd fun e w' => e = .returned (.int .i64 (ls : Int)) ∧ ∃ t' : Beh u0, w' = t'.wd) := fun t => (size_any _ p l t.wd (hJ.log.below t.ok)).mono (fun _ _ ⟨a, b⟩ => ⟨by rw [a, HLS], t, b⟩)
  have HDI : ∀ t : Beh u0, Hid (Calls Tryd.prog 18 #[.pointer (some ⟨p, 0, none⟩)] t.wd fun e w' => e = .returned (.int .i64 (ds : Int)) ∧ ∃ t' : Beh u0, w' = t'.wd) := fun t => (dirty_any _ p l t.wd (hJ.log.below t.ok)).mono (fun _ _ ⟨a, b⟩ => ⟨by rw [a, HDS], t, b⟩)
  have hc3 : ∀ t : Beh u0, t.wd.cell? ⟨q, 3, none⟩ = some (.int .i64 (ls : Int)) := fun t => by
    obtain ⟨C, vG, vP, vR, Gs, X, Gc, h1, -⟩ := HTS.out.below t.ok
    rw [HLS]
    exact (ta_cells h1.row).2.2.2.1
  have hc4 : ∀ t : Beh u0, t.wd.cell? ⟨q, 4, none⟩ = some (.int .i64 (ds : Int)) := fun t => by
    obtain ⟨C, vG, vP, vR, Gs, X, Gc, h1, -⟩ := HTS.out.below t.ok
    rw [HDS]
    exact (ta_cells h1.row).2.2.2.2.1
  clear hJ HLS HDS
  go_upto_region 36 with fail
  refine wp_region_beh (by kernel_rfl) (by kernel_rfl) ?_
  repeat (go_big_quiet_step (first | (go_at_call 16; exact (HSZ _).out) | (go_at_call 18; exact (HDI _).out)))
  refine wpQuiet_nil ?_
  rintro _ ⟨t, rfl⟩
  go_wp2_with fail
  go_ret
  exact ⟨rfl, _, _, _, _, (HTS.out.below t.ok).more (by omega), .inl rfl⟩

theorem tell_sync {w u : World} {S : Nat → Prop} {p : Nat} {l : Lg} {q : Nat} {R : List (List Nat)} {P : Pts} {N : Nat} (h : Tst w u S p l q R P N) {v vs : Value} {z : Int} (hv : ∃ a n c, v = .slice a n c) (hvs : ∃ a n c, vs = .slice a n c) (hN : N + 1 ≤ 2500000000000) :
    Calls Tryd.prog 27 #[.pointer (some ⟨q, 0, none⟩), .pointer (some ⟨p, 0, none⟩), .agg (opv 3 v vs z)] u fun e u' => e = .returned (.bool true) ∧ ∃ S' l' R' P', Tst w u' S' p l' q R' P' (N + 1) ∧ Nxt l l' := by
  obtain ⟨u0, hu0⟩ : ∃ u0, u0 = u.alloc (.cells (opv 3 v vs z) 54) := ⟨_, rfl⟩
  have hb0 : Below u.heap.size u u0 := by rw [hu0]; exact (Below.refl _ _).alloc (Nat.le_refl _) _
  have hr0 : u0.heap[u.heap.size]? = some (.cells (opv 3 v vs z) 54 (0, 0)) := by rw [hu0]; exact heap_alloc_new u _
  unfold opv at hr0 hu0 ⊢
  have H0 := h.below hb0
  obtain ⟨vs1, vs2, vs3, rfl⟩ := hvs
  obtain ⟨av, nv, cv, rfl⟩ := hv
  have HU0 := hid hu0
  have z0 : u0.cell? ⟨u.heap.size, 0, none⟩ = some (.int .i64 3) := by rw [cell_of_row _ _ _ _ _ _ hr0]; rfl
  have hbl' : u.heap.size < u0.heap.size := (Array.getElem?_eq_some_iff.1 hr0).1
  obtain ⟨b, hbb⟩ : ∃ b, b = u.heap.size := ⟨_, rfl⟩
  have HBB := hid hbb
  rw [← hbb] at z0 hbl'
  have HSY := hid (sync_any S p l u0 H0.jr.log H0.jr.ok (by have := h.ws; omega))
  have HH := hid H0
  clear h hu0 hr0 hb0 H0 hbb
  go_enter Tryd.func27, Tryd.ntmps27
  go_upto_region 1 with fail
  rw [← HU0.out, ← HBB.out]
  go_wp2_with fail
  refine HSY.out.mono ?_
  rintro _ u1 ⟨rfl, hl1⟩
  obtain ⟨C, vG, vP, vR, Gs, X, Gc, hX0, hset, hgl, hTl, bX, bG, bW⟩ := HH.out
  have hX1 := hX0.left hl1
  obtain ⟨S1, hS1⟩ : ∃ S1, S1 = NewS S u0.heap.size u1 := ⟨_, rfl⟩
  rw [← hS1] at hX1
  obtain ⟨-, c1, -, -, c4, cf⟩ := ta_cells hX1.row
  have hql := hX1.lt.1
  have HNO := hid (note_some hX1.noPts hgl (by simp) (by omega))
  have HEND : Hid (∀ u2 vG' vP' Gs' X', TaX w u2 S1 p l.syn q C vG' vP' vR Gs' X' Gc R ([] ++ [(0, R)]) l.size 0 → Gs'[Gc.length]? = some vR → Gs'.length = Gc.length + 1 → X'.length = ([] : List Pt3).length + 1 → Tst w u2 S1 p l.syn q R [(0, R)] (N + 1)) := by
    intro u2 vG' vP' Gs' X' h1 h2 h3 h4
    exact ⟨C, vG', vP', vR, Gs', X', Gc, h1, h2, h3, hTl.syn, by rw [h4]; simp, by omega, Nat.zero_le _⟩
  clear hX0 hl1 hX1 hS1 hset hgl hTl bX bG bW HH HSY
  go_wp2_with fail
  refine HNO.out.mono ?_
  rintro _ u2 ⟨rfl, vG', vP', Gs', X', h1, h2, h3, h4⟩
  have HTS := hid (HEND.out u2 _ _ _ _ h1 h2 h3 h4)
  clear h1 h2 h3 h4 HNO HEND
  have hJ := HTS.out.jr
  obtain ⟨ls, HLS⟩ : ∃ ls, ls = l.syn.size := ⟨_, rfl⟩
  obtain ⟨ds, HDS⟩ : ∃ ds, ds = dirt l.syn.ws := ⟨_, rfl⟩
  have HSZ : ∀ t : Beh u2, Hid (Calls Tryd.prog 16 #[.pointer (some ⟨p, 0, none⟩)] t.wd fun e w' => e = .returned (.int .i64 (ls : Int)) ∧ ∃ t' : Beh u2, w' = t'.wd) := fun t => (size_any _ p l.syn t.wd (hJ.log.below t.ok)).mono (fun _ _ ⟨a, b⟩ => ⟨by rw [a, HLS], t, b⟩)
  have HDI : ∀ t : Beh u2, Hid (Calls Tryd.prog 18 #[.pointer (some ⟨p, 0, none⟩)] t.wd fun e w' => e = .returned (.int .i64 (ds : Int)) ∧ ∃ t' : Beh u2, w' = t'.wd) := fun t => (dirty_any _ p l.syn t.wd (hJ.log.below t.ok)).mono (fun _ _ ⟨a, b⟩ => ⟨by rw [a, HDS], t, b⟩)
  have hc3 : ∀ t : Beh u2, t.wd.cell? ⟨q, 3, none⟩ = some (.int .i64 (ls : Int)) := fun t => by
    obtain ⟨C, vG, vP, vR, Gs, X, Gc, h1, -⟩ := HTS.out.below t.ok
    rw [HLS]
    exact (ta_cells h1.row).2.2.2.1
  have hc4 : ∀ t : Beh u2, t.wd.cell? ⟨q, 4, none⟩ = some (.int .i64 (ds : Int)) := fun t => by
    obtain ⟨C, vG, vP, vR, Gs, X, Gc, h1, -⟩ := HTS.out.below t.ok
    rw [HDS]
    exact (ta_cells h1.row).2.2.2.2.1
  clear hJ HLS HDS
  go_upto_region 36 with fail
  refine wp_region_beh (by kernel_rfl) (by kernel_rfl) ?_
  repeat (go_big_quiet_step (first | (go_at_call 16; exact (HSZ _).out) | (go_at_call 18; exact (HDI _).out)))
  refine wpQuiet_nil ?_
  rintro _ ⟨t, rfl⟩
  go_wp2_with fail
  go_ret
  exact ⟨rfl, _, _, _, _, HTS.out.below t.ok, .inr (.inr (.inr rfl))⟩
end Go.Proofs.YteoebmpfdcbbmabDoor

namespace Go.Proofs.YteoebmpfdcbbmabDoor
open Go.ChangeShapes Go.WideShapes Go.ChangeAt Go.RowKit Jn N
set_option maxHeartbeats 4000000
set_option maxRecDepth 100000

theorem note_none {w uB : World} {S : Nat → Prop} {p : Nat} {l : Lg} {q : Nat} {C : Nat → Prop} {vG vP vR : Value} {X : List Pt3} {R : List (List Nat)} {P : Pts} {sz wr : Nat} (hB : TaX w uB S p l q C vG vP vR [] X [] R P sz wr) (bX : X.length + 1 ≤ 4000000000000) :
    Calls Tryd.prog 44 #[.pointer (some ⟨q, 0, none⟩)] uB fun e u' => e = .returned (.tuple #[]) ∧ ∃ vG' vP' Gs' X', TaX w u' S p l q C vG' vP' vR Gs' X' [] R (P ++ [(wr, R)]) sz wr ∧ Gs'[([] : List (List (List Nat))).length]? = some vR ∧ Gs'.length = ([] : List (List (List Nat))).length + 1 ∧ X'.length = X.length + 1 := by
  obtain ⟨aB, cB, rfl, -, -⟩ := row_shape hB.fg
  obtain ⟨b0, b1, b2, b3, b4, bf⟩ := ta_cells hB.row
  have hbB : Below uB.heap.size uB (uB.alloc (.cells #[.slice none 0 0] 27)) := (Below.refl _ _).alloc (Nat.le_refl _) _
  obtain ⟨iG, hiG, hy0, hy1, hy2⟩ := info_parts infoG
  obtain ⟨gA, cA, wA, hapA, hoA, hgA, hatA, hltA⟩ := run_append_lies (P := Tryd.prog) (w := uB.alloc (.cells #[.slice none 0 0] 27)) 56 56 w.heap.size 27 iG _ 1 24 uG hiG hy0 hy1 hy2 rfl (by decide) _ 0 [] (hB.below hbB).fg ⟨uB.heap.size, 0, none⟩ 1 1 [.slice none 0 0] rfl (World.news_of_block (heap_alloc_new _ _)) (by simp [Value.oneCell']) (by decide) (by unfold maxLen; omega) (by omega) ((hB.below hbB).jr.be.size) _ rfl
  have hrA : wA.heap[q]? = some (taRow (.slice aB 0 cB) vP vR sz wr) := (hgA.block q (Nat.lt_of_lt_of_le hB.lt.1 hbB.size) (fun e => hB.ne.1 e.symm)).trans (hB.below hbB).row
  obtain ⟨a0, -, -, -, -, af⟩ := ta_cells hrA
  have hqA := (Array.getElem?_eq_some_iff.1 hrA).1
  have h := hB.gen0 hbB hoA hgA (hatA.imp id (fun e => Nat.le_of_eq e.symm))
  have HAPA := hid hapA
  obtain ⟨u, hu⟩ : ∃ u, u = wA.setCell ⟨q, 0, none⟩ (.slice (some ⟨gA, 0, none⟩) (0 + 1) cA) := ⟨_, rfl⟩
  rw [← hu] at h
  have HU := hid hu
  have hqlB := hB.lt.1
  have hgl : [Value.slice none 0 0].length = ([] : List (List (List Nat))).length + 1 := rfl
  have bG : [Value.slice none 0 0].length ≤ 4000000000000 := by simp
  clear hu hapA hoA hgA hatA hltA hrA hbB hiG hy0 hy1 hy2
  obtain ⟨VG, hVG⟩ : ∃ VG, VG = Value.slice (some ⟨gA, 0, none⟩) (0 + 1) cA := ⟨_, rfl⟩
  rw [← hVG] at h
  clear hVG
  obtain ⟨Gs, hGs⟩ : ∃ Gs : List Value, Gs = [.slice none 0 0] := ⟨_, rfl⟩
  obtain ⟨Gc, hGc⟩ : ∃ Gc : List (List (List Nat)), Gc = [] := ⟨_, rfl⟩
  rw [← hGs] at h hgl bG
  rw [← hGc] at h hgl ⊢
  clear hB
  obtain ⟨k, hk⟩ : ∃ k, k = Gc.length := ⟨_, rfl⟩
  obtain ⟨ag, cg, rfl, hcg1, hcg2⟩ := row_shape h.fg
  obtain ⟨y, hy⟩ : ∃ y, Gs[k]? = some y := ⟨_, List.getElem?_eq_getElem (by omega)⟩
  obtain ⟨g, rfl, hgB, hgl', hgf, hgc⟩ := row_cell h.fg hy
  obtain ⟨ay, ny, cy, rfl⟩ := h.sl _ (List.mem_of_getElem? hy)
  obtain ⟨H0, hset⟩ := h.setGen hgl
  have H1 := H0.below (below_drew (Below.refl _ _))
  rw [← hk] at H1 hset
  clear H0
  obtain ⟨ap, cp, rfl, hcp1, hcp2⟩ := row_shape h.fp
  obtain ⟨ar, nr, cr, rfl, HNR, hcr1, hcr2⟩ := h.fr.sees.shape
  obtain ⟨c0, c1, c2, c3, c4, cf⟩ := ta_cells h.row
  obtain ⟨d0, d1, d2, d3, d4, df⟩ := ta_cells H1.row
  obtain ⟨u1, hu1⟩ : ∃ u1, u1 = (u.setCell ⟨g, k, none⟩ (.slice ar nr cr)).drew := ⟨_, rfl⟩
  rw [← hu1] at H1 d0 d1 d2 d3 d4 df
  have HU1 := hid hu1
  obtain ⟨n, hn⟩ : ∃ n, n = Gs.length := ⟨_, rfl⟩
  rw [← hn] at hgl bG hcg1 c0 d0
  obtain ⟨m, hm⟩ : ∃ m, m = X.length := ⟨_, rfl⟩
  obtain ⟨W, HW⟩ : ∃ W, Hid (W = (u1.alloc (.cells #[.int .i64 (k : Int), .int .i64 (nr : Int), .int .i64 (wr : Int)] 94)).drew) := ⟨_, rfl⟩
  have hbW : Below u1.heap.size u1 W := by rw [HW.out]; exact below_drew ((Below.refl _ _).alloc (Nat.le_refl _) _)
  have HNEW : Hid (∀ (i : Nat) x, [Value.int .i64 (k : Int), .int .i64 (nr : Int), .int .i64 (wr : Int)][i]? = some x → W.cell? ((⟨u1.heap.size, 0, none⟩ : Addr).add i) = some x) := by
    have h1 : W.heap[u1.heap.size]? = some (.cells #[.int .i64 (k : Int), .int .i64 (nr : Int), .int .i64 (wr : Int)] 94 (0, 0)) := by rw [HW.out]; exact heap_alloc_new u1 _
    exact World.news_of_block h1
  have hsW : W.heap.size = u1.heap.size + 1 := by rw [HW.out]; exact World.size_alloc _ _
  obtain ⟨i0, hi0, hz0, hz1, hz2⟩ := info_parts infoPt
  have HI := hid hi0
  have hC3 : m + 1 ≤ maxLen := by unfold maxLen; omega
  have hC : (m + 1) * 24 ≤ 140737488355328 := by omega
  have hC4 : w.heap.size ≤ W.heap.size := (H1.below hbW).jr.be.size
  have HOWN : Hid (W.ownsRow w.heap.size 94 3 (.slice ap m cp) m (X.flatMap ptc)) := by rw [hm]; exact (H1.below hbW).fp
  have hnr : nr = R.length := HNR.out
  have HFIN : Hid (∀ (w6 : World) (g6 cap6 : Nat), w6.ownsRow w.heap.size 94 3 (.slice (some ⟨g6, 0, none⟩) (m + 1) cap6) (m + 1) (X.flatMap ptc ++ [.int .i64 (k : Int), .int .i64 (nr : Int), .int .i64 (wr : Int)]) → W.grownBy w6 (Value.ownBlock (.slice ap m cp)) → (Value.ownBlock (.slice ap m cp) = some g6 ∨ g6 = u1.heap.size + 1) → TaX w (w6.setCell ⟨q, 1, none⟩ (.slice (some ⟨g6, 0, none⟩) (m + 1) cap6)) S p l q C (.slice (some ⟨g, 0, none⟩) n cg) (.slice (some ⟨g6, 0, none⟩) (m + 1) cap6) (.slice ar nr cr) (Gs.set k (.slice ar nr cr)) (X ++ [⟨Gc.length, R.length, wr⟩]) Gc R (P ++ [(wr, R)]) sz wr) := by
    intro w6 g6 cap6 ho6 hg6 hat6
    rw [hn]
    rw [hm] at ho6 hg6 hat6 ⊢
    refine H1.point hbW ?_ hg6 (hat6.imp id (fun e => by omega))
    rw [List.length_append, List.flatMap_append, ← hnr, ← hk]
    exact ho6
  have HROW : Hid (∀ (w6 : World), W.grownBy w6 (Value.ownBlock (.slice ap m cp)) → w6.heap[q]? = some (taRow (.slice (some ⟨g, 0, none⟩) n cg) (.slice ap m cp) (.slice ar nr cr) sz wr)) := fun w6 hg6 => by
    rw [hn]
    rw [hm] at hg6 ⊢
    exact (hg6.block q (Nat.lt_of_lt_of_le H1.lt.1 hbW.size) (fun e => H1.ne.2.1 e.symm)).trans (H1.below hbW).row
  rw [← hm] at c1 d1
  have HSET : Hid ((Gs.set k (.slice ar nr cr))[Gc.length]? = some (.slice ar nr cr)) := by rw [hk] at hset; rw [hk]; exact hset
  have HLEN : Hid ((Gs.set k (.slice ar nr cr)).length = Gc.length + 1) := by unfold Hid; rw [List.length_set]; omega
  have HXL : Hid ((X ++ [(⟨Gc.length, R.length, wr⟩ : Pt3)]).length = X.length + 1) := by unfold Hid; simp
  have hql := h.lt.1
  have hql1 := H1.lt.1
  have hkn : k < n := by omega
  have hnk : (n : Int) - 1 = (k : Int) := by omega
  clear hGs hGc h H1 hset hu1 hn hm hi0 hnr hy hk hgl HNR hbW
  go_enter Tryd.func44, Tryd.ntmps44
  go_upto_region 2 with (at_builtin; refine wpList_append_run _ rfl _ _ 56 56 rfl _ _ rfl rfl HAPA.out ?_)
  rw [← HU.out]
  go_upto_region 3 with fail
  refine wp_region_still_tail 10 (by kernel_rfl) (by kernel_rfl) ?_
  simp only [List.take_succ_cons, List.take_zero, List.drop_succ_cons, List.drop_zero]
  iterate 10 still_step
  refine wpStill_nil ?_
  go_upto_region 4 with fail
  rw [← HU1.out]
  go_region_law (first
    | (rw [← HW.out]; refine step_append_lies _ (by rfl) _ _ _ (by rfl) w.heap.size 94 i0 (.agg #[.int .i64 0, .int .i64 0, .int .i64 0]) 3 24 (by kernel_rfl) HI.out hz0 hz1 hz2 rfl (by omega) (.slice ap m cp) m (X.flatMap ptc) (by rfl) HOWN.out ⟨u1.heap.size, 0, none⟩ 1 1 [.int .i64 (k : Int), .int .i64 (nr : Int), .int .i64 (wr : Int)] (by rfl) (by rfl) HNEW.out (by simp [Value.oneCell']) (by omega) hC3 hC hC4 (u1.heap.size + 1) hsW ?_; intro g6 cap6 w6 hown6 hgrow hat6 hlt6; obtain ⟨-, k1, -, -, -, kf⟩ := ta_cells (HROW.out w6 hgrow))
    | fail)
  all_goals (
    have HE := hid (HFIN.out w6 g6 cap6 hown6 hgrow hat6)
    clear hown6 hgrow hat6 hlt6
    go_wp2_with fail
    exact bodyPost_end (results_none Tryd.results44 _ _ _) rfl ⟨rfl, _, _, _, _, HE.out, HSET.out, HLEN.out, HXL.out⟩)
end Go.Proofs.YteoebmpfdcbbmabDoor

namespace Go.Proofs.YteoebmpfdcbbmabDoor
open Go.ChangeShapes Go.WideShapes Go.ChangeAt Go.RowKit Jn N
set_option maxHeartbeats 4000000
set_option maxRecDepth 100000

theorem own_one {w : World} {B g k : Nat} {T : TypeId} {cs : List Value} (h : w.heap[g]? = some (.cells cs.toArray T (0, 0))) (hB : B ≤ g) (hl : cs.length = k) : w.ownsRow B T k (.slice (some ⟨g, 0, none⟩) 1 1) 1 cs :=
  ⟨by omega, .inr ⟨g, 1, cs.toArray, rfl, hB, h, Nat.le_refl _, by unfold maxLen; omega, by simp [hl], by rw [Nat.one_mul, ← hl]; simp⟩⟩
theorem TaX.start {w u : World} {S : Nat → Prop} {p : Nat} {l : Lg} {q gG gP : Nat} (hJ : Jr w u S p l) (bG : u.heap[gG]? = some (.cells #[.slice none 0 0] 27 (0, 0))) (bq : u.heap[q]? = some (taRow (.slice (some ⟨gG, 0, none⟩) 1 1) (.slice (some ⟨gP, 0, none⟩) 1 1) (.slice none 0 0) 16 16)) (bP : u.heap[gP]? = some (.cells #[.int .i64 0, .int .i64 0, .int .i64 0] 94 (0, 0)))
    (lG : w.heap.size ≤ gG ∧ ¬ S gG) (lP : w.heap.size ≤ gP ∧ ¬ S gP) (lq : w.heap.size ≤ q ∧ ¬ S q) : TaX w u S p l q (fun _ => False) (.slice (some ⟨gG, 0, none⟩) 1 1) (.slice (some ⟨gP, 0, none⟩) 1 1) (.slice none 0 0) [.slice none 0 0] [⟨0, 0, 0⟩] [] [] [(0, [])] 16 16 := by
  refine ⟨hJ, bq, lq.1, own_one (cs := [.slice none 0 0]) bG lG.1 rfl, own_one (cs := [.int .i64 0, .int .i64 0, .int .i64 0]) bP lP.1 rfl, RecsF.nil _ _ _, fun j v L hv hL => by simp at hL, .inl rfl, ?_, ⟨rfl, fun i x pp hx hp => ?_⟩, fun _ e => e.elim, lq.2, fun k e => ?_, fun k e => ?_, fun k e => by simp [Value.ownBlock] at e⟩
  · intro y hy
    simp at hy; subst hy; exact ⟨_, _, _, rfl⟩
  · rcases i with _ | i
    · simp at hx hp
      subst hx hp
      exact ⟨rfl, [], rfl, Nat.le_refl _, rfl⟩
    · simp at hx
  · simp [Value.ownBlock] at e
    subst e; exact lG.2
  · simp [Value.ownBlock] at e
    subst e; exact lP.2
/-- A tale of what was opened. -/
theorem TaX.fresh {w u0 u1 u2 : World} {S : Nat → Prop} {Bd p q : Nat} {l : Lg} {v : Value} {R : List (List Nat)} {sz wr : Nat} (hO : Opened u0 u1 S Bd p v l R) (hw : Below w.heap.size w u0) (hb : Below u1.heap.size u1 u2) (hq : u1.heap.size ≤ q) (hr : u2.heap[q]? = some (taRow (.slice none 0 0) (.slice none 0 0) v sz wr)) :
    ∃ C, TaX w u2 S p l q C (.slice none 0 0) (.slice none 0 0) v [] [] [] R [] sz wr := by
  have hJ0 : Jr u0 u1 S p l := ⟨hO.be, hO.log, hO.ok, hO.lo⟩
  have hJ := (hJ0.since hw).below hb
  obtain ⟨Vs, h1, h2, h3⟩ := hO.recs
  have hSl : ∀ k, S k → k < u1.heap.size := hO.log.lt
  have hlt := fun k hk => World.ownsRow.lt h1 k hk
  refine ⟨fun k => ∃ (i : Nat) (x : Value) (r : List Nat) (g : Nat), Vs[i]? = some x ∧ R[i]? = some r ∧ x = .slice (some ⟨g, 0, none⟩) r.length r.length ∧ Bd ≤ g ∧ Blk u1 g 5 r ∧ k = g, hJ, hr, ?_, World.ownsRow_nil _ _ _ _, World.ownsRow_nil _ _ _ _, ⟨Vs, (h1.mono ?_).below hb, h2, fun i x r hx hr => ?_⟩, fun j v L hv => by simp at hv, .inr ⟨rfl, rfl⟩, fun y hy => by simp at hy, ⟨rfl, fun i x pp hx => by simp at hx⟩, fun k hk => ?_, fun e => ?_, fun k e => by simp [Value.ownBlock] at e, fun k e => by simp [Value.ownBlock] at e, fun k e hS => ?_⟩
  · have := hw.size
    have := hO.be.size
    omega
  · have := hw.size
    have := hO.bd
    omega
  · obtain ⟨g, e, hg, hbk, hy, hl⟩ := h3 i x r hx hr
    refine ⟨?_, fun a n c e' => ⟨i, x, r, g, hx, hr, e, hg, hbk, ?_⟩⟩
    · rw [e]
      exact (hbk.sees rfl hl hy).below hb
    · rw [e] at e'
      simp at e'
      obtain ⟨rfl, -⟩ := e'
      rfl
  · obtain ⟨i, x, r, g, hx, hr, e, hg, hbk, rfl⟩ := hk
    have h9 := hbk.lt
    have h10 := hb.size
    refine ⟨by omega, by omega, by simp [Value.ownBlock], by simp [Value.ownBlock], fun e' => ?_, fun hS => ?_⟩
    · exact h1.ne_of hbk (by decide) e'
    · have := hO.hi _ hS
      omega
  · have := hSl q e
    omega
  · have := (hlt k e).1
    have := hO.hi k hS
    omega
/-- The first point lies at the beginning. -/
theorem TaX.at0 {w u : World} {S : Nat → Prop} {p : Nat} {l : Lg} {q : Nat} {C : Nat → Prop} {vG vR : Value} {gP n c : Nat} {Gs : List Value} {X : List Pt3} {Gc : List (List (List Nat))} {R : List (List Nat)} {a : Nat} {sz wr : Nat} (h : TaX w u S p l q C vG (.slice (some ⟨gP, 0, none⟩) n c) vR Gs X Gc R [(a, R)] sz wr) :
    ∃ X', TaX w (u.setCell ⟨gP, 2, none⟩ (.int .i64 0)) S p l q C vG (.slice (some ⟨gP, 0, none⟩) n c) vR Gs X' Gc R [(0, R)] sz wr ∧ X'.length = 1 := by
  obtain ⟨m1, m2, m3, m4, m5, m6⟩ := h.ne
  obtain ⟨l1, l2, l3, l4⟩ := h.lt
  have hk : Keeps (At1 gP) u (u.setCell ⟨gP, 2, none⟩ (.int .i64 0)) := (Keeps.refl (At1 gP) u).set ⟨gP, 2, none⟩ rfl _
  obtain ⟨hj, hC⟩ := h.own hk (fun k e => .inr (.inr (.inl (by unfold At1 at e; rw [e]; rfl))))
  have hXl : X.length = 1 := by have := h.pk.1; simpa using this
  obtain ⟨x, rfl⟩ : ∃ x, X = [x] := by
    match X, hXl with
    | [x], _ => exact ⟨x, rfl⟩
  have hpq : gP ≠ q := fun e => m2 (by rw [← e]; rfl)
  obtain ⟨s1, L, s2, s3, s4⟩ := h.pk.2 0 x (a, R) rfl rfl
  have hfp := h.fp
  refine ⟨[⟨x.g, x.n, 0⟩], ⟨hj, (hk.block q l1 (fun e => hpq e.symm)).trans h.row, h.lq, row_keeps h.fg hk (fun j hj e => (m4 j hj).1 (by unfold At1 at e; rw [e]; rfl)), ?_, h.fr.keeps hk hC (fun j hj e => (m6 j hj).2 (by unfold At1 at e; rw [e]; rfl)), fun j v L hv hL => (h.cl j v L hv hL).keeps hk hC, h.gl, h.sl, ⟨rfl, fun i y pp hy hp => ?_⟩, fun k hc => ?_, h.sq, h.sg, h.sp, h.sr⟩, rfl⟩
  · rcases hfp.2 with ⟨e, _⟩ | ⟨g', cap', cur, e, hb, hg, hnc, hcm, hcs, ht⟩
    · cases e
    · simp at e
      obtain ⟨rfl, rfl, rfl⟩ := e
      have h2 := heap_setCell_same u gP 2 cur 94 (.int .i64 0) hg
      refine ⟨rfl, .inr ⟨gP, c, _, rfl, hb, h2, hnc, hcm, by simpa using hcs, ?_⟩⟩
      simp only [Array.toList_setIfInBounds, List.take_set]
      have ht' : cur.toList.take (1 * 3) = [x].flatMap ptc := ht
      rw [show ([({ g := x.g, n := x.n, a := 0 } : Pt3)]).length = 1 from rfl, ht']
      rfl
  · rcases i with _ | i
    · simp at hy hp
      subst hy hp
      exact ⟨rfl, L, s2, s3, s4⟩
    · simp at hy
  · obtain ⟨a1, a2⟩ := h.ap k hc
    exact ⟨Nat.lt_of_lt_of_le a1 hk.size, a2⟩

theorem begunT_any (w : World) (ht : TabN w) :
    Calls Tryd.prog 26 #[] w fun e w' => ∃ p q S, e = .returned (.tuple #[.pointer (some ⟨p, 0, none⟩), .pointer (some ⟨q, 0, none⟩)]) ∧ Tst w w' S p (opnL [] []) q [] [(0, [])] 1 := by
  have H1 : Hid (Calls Tryd.prog 11 #[.agg #[.slice none 0 0, .slice none 0 0]] w fun e w' => ∃ p v S Bd, e = .returned (.tuple #[.pointer (some ⟨p, 0, none⟩), v, .int .i64 0]) ∧ Opened w w' S Bd p v (opnL [] []) []) := by
    refine (open_any _ _ [] [] w (sees_nil _) (sees_nil _) ht).mono ?_
    rintro e w' ⟨-, h⟩
    obtain ⟨q1, q2, q3⟩ := opn_nil
    have := h q1
    rw [q3] at this
    exact this
  clear ht
  go_enter Tryd.func26, Tryd.ntmps26
  go_wp2_with fail
  refine H1.out.mono ?_
  rintro _ w1 ⟨p, v, S, Bd, rfl, hO⟩
  have HJ : Hid (Jr w w1 S p (opnL [] [])) := ⟨hO.be, hO.log, hO.ok, hO.lo⟩
  obtain ⟨av, nv, cv, rfl, -⟩ : ∃ a n c, v = .slice a n c ∧ True := by
    obtain ⟨a, n, c, e, -, -, -⟩ := hO.recs.sees.shape
    exact ⟨a, n, c, e, trivial⟩
  clear hO
  go_wp2_with fail
  refine bodyPost_ret (v := .tuple #[.pointer (some ⟨p, 0, none⟩), .pointer (some ⟨w1.heap.size + 1, 0, none⟩)]) (by simp [results, Tryd.results26, go_sem]) rfl ⟨p, _, S, rfl, ?_⟩
  have hS : ∀ k, S k → k < w1.heap.size := HJ.out.log.lt
  have hw1 := HJ.out.be.size
  obtain ⟨o1, ho1⟩ : ∃ o1, o1 = Obj.cells #[Value.slice none 0 0] 27 := ⟨_, rfl⟩
  obtain ⟨o2, ho2⟩ : ∃ o2, o2 = Obj.cells #[Value.slice (some ⟨w1.heap.size, 0, none⟩) 1 1, .slice (some ⟨w1.heap.size + 1 + 1, 0, none⟩) 1 1, .slice none 0 0, .int .i64 16, .int .i64 16] 59 := ⟨_, rfl⟩
  obtain ⟨o3, ho3⟩ : ∃ o3, o3 = Obj.cells #[Value.int .i64 0, .int .i64 0, .int .i64 0] 94 := ⟨_, rfl⟩
  rw [← ho1, ← ho2, ← ho3]
  have z1 : (w1.alloc o1).heap.size = w1.heap.size + 1 := World.size_alloc _ _
  have z2 : ((w1.alloc o1).alloc o2).heap.size = w1.heap.size + 1 + 1 := by rw [World.size_alloc, z1]
  have r1 : (w1.alloc o1).heap[w1.heap.size]? = some o1 := heap_alloc_new w1 _
  have r2 : ((w1.alloc o1).alloc o2).heap[w1.heap.size + 1]? = some o2 := by rw [← z1]; exact heap_alloc_new _ _
  have r3 : (((w1.alloc o1).alloc o2).alloc o3).heap[w1.heap.size + 1 + 1]? = some o3 := by rw [← z2]; exact heap_alloc_new _ _
  have b1 : Below w1.heap.size w1 (w1.alloc o1) := (Below.refl _ _).alloc (Nat.le_refl _) _
  have b2 : Below (w1.alloc o1).heap.size (w1.alloc o1) ((w1.alloc o1).alloc o2) := (Below.refl _ _).alloc (Nat.le_refl _) _
  have b3 : Below ((w1.alloc o1).alloc o2).heap.size ((w1.alloc o1).alloc o2) (((w1.alloc o1).alloc o2).alloc o3) := (Below.refl _ _).alloc (Nat.le_refl _) _
  have r1' : (((w1.alloc o1).alloc o2).alloc o3).heap[w1.heap.size]? = some o1 := (b3.block _ (by omega)).trans ((b2.block _ (by omega)).trans r1)
  have r2' : (((w1.alloc o1).alloc o2).alloc o3).heap[w1.heap.size + 1]? = some o2 := (b3.block _ (by omega)).trans r2
  have hJ := ((HJ.out.below b1).below b2).below b3
  obtain ⟨-, e2, -⟩ := opn_nil
  have hTX := TaX.start hJ (by rw [r1', ho1]) (by rw [r2', ho2]; rfl) (by rw [r3, ho3]) ⟨hw1, fun e => by have := hS _ e; omega⟩ ⟨by omega, fun e => by have := hS _ e; omega⟩ ⟨by omega, fun e => by have := hS _ e; omega⟩
  have e3 : (opnL [] []).size = 16 := by rw [e2]; rfl
  have e4 : dirt (opnL [] []).ws = 16 := by rw [e2]; show dirt [⟨0, 0, gener 1 []⟩] = 16; simp [dirt, gener_len, baseL]
  refine ⟨_, _, _, _, _, _, _, by rw [e3, e4]; exact hTX, rfl, rfl, tl_first, by simp, by simp, ?_⟩
  rw [e2]
  exact Nat.le_refl _
end Go.Proofs.YteoebmpfdcbbmabDoor

namespace Go.Proofs.YteoebmpfdcbbmabDoor
open Go.ChangeShapes Go.WideShapes Go.ChangeAt Go.RowKit Jn N
set_option maxHeartbeats 16000000
set_option maxRecDepth 100000

theorem SeesO.below {w w' : World} {v : Value} {S : List Opn} (h : SeesO w v S) (hb : Below w.heap.size w w') : SeesO w' v S := by
  obtain ⟨ao, cap, hv, h1, h2, h3⟩ := h
  refine ⟨ao, cap, hv, h1, h2, fun j hj => ?_⟩
  obtain ⟨g, off, ha, hg, c0, c1, c2, c3⟩ := h3 j hj
  exact ⟨g, off, ha, Nat.lt_of_lt_of_le hg hb.size, (hb.cell (p := ⟨g, _, none⟩) hg).trans c0, (hb.cell (p := ⟨g, _, none⟩) hg).trans c1, (hb.cell (p := ⟨g, _, none⟩) hg).trans c2, (hb.cell (p := ⟨g, _, none⟩) hg).trans c3⟩
theorem SeesO.shape {w : World} {v : Value} {S : List Opn} (h : SeesO w v S) : ∃ a n c, v = .slice a n c ∧ Hid (n = S.length) ∧ n ≤ c ∧ c ≤ maxLen := by
  obtain ⟨ao, cap, hv, h1, h2, _⟩ := h
  exact ⟨ao, _, cap, hv, rfl, h1, h2⟩
theorem SeesO.at {w : World} {ao : Option Addr} {n cap : Nat} {S : List Opn} (h : SeesO w (.slice ao n cap) S) (j : Nat) (hj : j < n) : ∃ (g off : Nat) (o : Opn), ao = some ⟨g, off, none⟩ ∧ g < w.heap.size ∧ w.cell? ⟨g, off + j * 4, none⟩ = some (.int .i64 o.k) ∧ w.cell? ⟨g, off + j * 4 + 1, none⟩ = some o.v ∧ w.cell? ⟨g, off + j * 4 + 2, none⟩ = some o.vs ∧ w.cell? ⟨g, off + j * 4 + 3, none⟩ = some (.int .i64 o.z) ∧ Hid (S[j]? = some o) := by
  obtain ⟨ao', cap', hv, h1, h2, h3⟩ := h
  simp at hv
  obtain ⟨rfl, rfl, rfl⟩ := hv
  obtain ⟨g, off, a, b, c0, c1, c2, c3⟩ := h3 j hj
  exact ⟨g, off, S[j], a, b, c0, c1, c2, c3, List.getElem?_eq_getElem hj⟩
theorem Opn.Ok.below {w w' : World} {o : Opn} (h : o.Ok w) (hb : Below w.heap.size w w') : o.Ok w' := ⟨h.v.below hb, h.vs.below hb, h.lr, h.ls, h.ln, h.z⟩

theorem Tst.recs {w u : World} {S : Nat → Prop} {p : Nat} {l : Lg} {q : Nat} {R : List (List Nat)} {P : Pts} {N : Nat} (h : Tst w u S p l q R P N) : ∃ v, q < u.heap.size ∧ u.cell? ⟨q, 2, none⟩ = some v ∧ SeesBB u v R := by
  obtain ⟨C, vG, vP, vR, Gs, X, Gc, h1, -⟩ := h
  exact ⟨vR, h1.lt.1, (ta_cells h1.row).2.2.1, h1.fr.sees⟩
end Go.Proofs.YteoebmpfdcbbmabDoor

namespace Jn
set_option maxRecDepth 100000

theorem set_split {L : List Nat} {i : Nat} (y : Nat) (hi : i < L.length) : L.set i y = L.take i ++ y :: L.drop (i + 1) ∧ L = L.take i ++ L[i] :: L.drop (i + 1) :=
  ⟨by rw [List.set_eq_take_append_cons_drop, if_pos hi], by simp⟩
theorem set_bytes {L : List Nat} {i y : Nat} (hL : ∀ x ∈ L, x < 256) (hy : y < 256) : ∀ x ∈ L.set i y, x < 256 := fun x hx => by
  rcases List.mem_or_eq_of_mem_set hx with h | rfl
  · exact hL x h
  · exact hy
theorem crc_set {L : List Nat} {i y : Nat} (hL : ∀ x ∈ L, x < 256) (hi : i < L.length) (hy : y < 256) (hne : L[i] ≠ y) : crc (L.set i y) ≠ crc L := by
  obtain ⟨e1, e2⟩ := set_split y hi
  have hT : ∀ x ∈ L.take i, x < 256 := fun x hx => hL x (List.mem_of_mem_take hx)
  have hD : ∀ x ∈ L.drop (i + 1), x < 256 := fun x hx => hL x (List.mem_of_mem_drop hx)
  have hx : L[i] < 256 := hL _ (List.getElem_mem hi)
  have hs := reg_lt (L.take i) (s := 4294967295) (by decide) hT
  have r1 : reg 4294967295 (L.set i y) = reg (step (reg 4294967295 (L.take i)) y) (L.drop (i + 1)) := by rw [e1, reg_append]; rfl
  have r2 : reg 4294967295 L = reg (step (reg 4294967295 (L.take i)) L[i]) (L.drop (i + 1)) := by
    conv => lhs; rw [e2, reg_append]
    rfl
  have l1 := reg_lt (L.drop (i + 1)) (step_lt hs hy) hD
  have l2 := reg_lt (L.drop (i + 1)) (step_lt hs hx) hD
  intro h
  unfold crc at h
  rw [r1, r2] at h
  have h3 := reg_inj (L.drop (i + 1)) (step_lt hs hy) (step_lt hs hx) hD (by omega)
  exact hne (step_inj' hs hy hx h3).symm
theorem num_set_lt {L : List Nat} {i k y : Nat} (h : i < k) : num (L.set i y) k = num L k := by
  have h1 := num_drop (L.set i y) k 0
  have h2 := num_drop L k 0
  rw [List.drop_set_of_lt h] at h1
  rw [Nat.add_zero] at h1 h2
  rw [← h1, h2]
theorem num_set_ge {L : List Nat} {i k y : Nat} (h : k + 4 ≤ i) : num (L.set i y) k = num L k := by
  rw [← num_take (L.set i y) (k + 4) k (Nat.le_refl _), ← num_take L (k + 4) k (Nat.le_refl _), List.take_set, List.set_eq_of_length_le (by rw [List.length_take]; omega)]
theorem num_set_in {L : List Nat} {i k y : Nat} (hL : ∀ x ∈ L, x < 256) (hy : y < 256) (h1 : k ≤ i) (h2 : i < k + 4) (h3 : k + 4 ≤ L.length) (hne : L[i] ≠ y) : num (L.set i y) k ≠ num L k := by
  intro h
  have e1 := w4_num (set_bytes (i := i) hL hy) k (by rw [List.length_set]; exact h3)
  have e2 := w4_num hL k h3
  rw [h, e2] at e1
  have e3 : ((L.drop k).take 4)[i - k]? = (((L.set i y).drop k).take 4)[i - k]? := by rw [e1]
  rw [List.getElem?_take, List.getElem?_take, if_pos (by omega), if_pos (by omega), List.getElem?_drop, List.getElem?_drop, show k + (i - k) = i by omega, List.getElem?_set_self (by omega), List.getElem?_eq_getElem (by omega)] at e3
  exact hne (Option.some.inj e3)

/-- A frame in which one byte is another one. -/
theorem rd_bad {g base fin i y : Nat} {r rest : List Nat} {recs : List (List Nat)} {met : Bool} (hr : r.length ≤ 65536) (hb : ∀ x ∈ r, x < 256) (hrest : ∀ x ∈ rest, x < 256) (hi : i < (frame g recs.length r).length) (hy : y < 256) (hne : (frame g recs.length r)[i] ≠ y) :
    rd g base ((frame g recs.length r).set i y ++ rest) recs fin met = ⟨1, 0, [], 0⟩ := by
  obtain ⟨n0, n4, n8, hd⟩ := frame_nums (g := g) (k := recs.length) (rest := rest) (show r.length < 4294967296 by omega)
  have hF := frame_bytes (g := g) (k := recs.length) hb
  have hfl := frame_len g recs.length r
  rw [← List.set_append_left i y hi]
  have hLl : (frame g recs.length r ++ rest).length = 12 + r.length + rest.length := by rw [List.length_append, hfl]
  have hLb : ∀ x ∈ frame g recs.length r ++ rest, x < 256 := fun x hx => (List.mem_append.1 hx).elim (hF x) (hrest x)
  have hiL : i < (frame g recs.length r ++ rest).length := by omega
  have hne' : (frame g recs.length r ++ rest)[i]'hiL ≠ y := by rw [List.getElem_append_left hi]; exact hne
  have ht8 : (frame g recs.length r ++ rest).take 8 = w4 r.length ++ w4 (crc r) := by
    unfold frame
    rw [List.append_assoc, List.append_assoc, List.take_append_of_le_length (by rw [List.length_append]; exact Nat.le_refl 8), List.take_of_length_le (by rw [List.length_append]; exact Nat.le_refl 8)]
  generalize frame g recs.length r ++ rest = L at *
  have hl' : (L.set i y).length = 12 + r.length + rest.length := by rw [List.length_set, hLl]
  by_cases h12 : i < 12
  · have hf : fits g recs.length (L.set i y) = false := by
      unfold fits
      by_cases h8 : i < 8
      · have e8 : num (L.set i y) 8 = sel g recs.length r.length (crc r) := by rw [num_set_lt h8, n8]
        have s0 : sel g recs.length (num (L.set i y) 0) (num (L.set i y) 4) = crc ((w4 g ++ w4 recs.length ++ (w4 r.length ++ w4 (crc r))).set (8 + i) y) := by
          unfold sel
          have q0 := w4_num (set_bytes (i := i) hLb hy) 0 (by omega)
          have q4 := w4_num (set_bytes (i := i) hLb hy) 4 (by omega)
          rw [q0, q4, List.append_assoc]
          congr 1
          rw [List.set_append_right _ _ (by show 8 ≤ 8 + i; omega)]
          congr 1
          rw [show 8 + i - (w4 g ++ w4 recs.length).length = i by show 8 + i - 8 = i; omega, ← ht8, ← List.take_set, List.drop_zero]
          rw [← List.take_add]
        have hcr := crc_set (L := w4 g ++ w4 recs.length ++ (w4 r.length ++ w4 (crc r))) (i := 8 + i) (y := y) (by
          intro x hx
          simp only [List.mem_append] at hx
          rcases hx with (hx | hx) | hx | hx <;> exact w4_lt _ x hx) (by show 8 + i < 16; omega) hy (by
          rw [List.getElem_append_right (by show 8 ≤ 8 + i; omega)]
          have e : (w4 r.length ++ w4 (crc r))[i]'(by show i < 8; omega) = L[i]'(by omega) := by
            have : (L.take 8)[i]? = L[i]? := by rw [List.getElem?_take, if_pos h8]
            rw [ht8, List.getElem?_eq_getElem (by show i < 8; omega), List.getElem?_eq_getElem (by omega)] at this
            exact Option.some.inj this
          have e9 : 8 + i - (w4 g ++ w4 recs.length).length = i := by show 8 + i - 8 = i; omega
          simp only [e9]
          rw [e]
          exact hne')
        have : (num (L.set i y) 8 == sel g recs.length (num (L.set i y) 0) (num (L.set i y) 4)) = false := by
          rw [e8, s0]
          unfold sel
          rw [List.append_assoc (w4 g ++ w4 recs.length)]
          simpa using fun h => hcr h.symm
        rw [this, Bool.false_and]
      · have := num_set_in (k := 8) hLb hy (by omega) (by omega) (by omega) hne'
        rw [n8] at this
        have e0 : num (L.set i y) 0 = r.length := by rw [num_set_ge (by omega), n0]
        have e4 : num (L.set i y) 4 = crc r := by rw [num_set_ge (by omega), n4]
        rw [e0, e4]
        have : (num (L.set i y) 8 == sel g recs.length r.length (crc r)) = false := by simpa using this
        rw [this, Bool.false_and]
    rw [rd, dif_neg (by omega), if_pos hf]
  · have e0 : num (L.set i y) 0 = r.length := by rw [num_set_ge (by omega), n0]
    have e4 : num (L.set i y) 4 = crc r := by rw [num_set_ge (by omega), n4]
    have e8 : num (L.set i y) 8 = sel g recs.length r.length (crc r) := by rw [num_set_ge (by omega), n8]
    have hf : fits g recs.length (L.set i y) = true := by unfold fits; rw [e0, e4, e8]; simp [hr]
    have hir : i - 12 < r.length := by omega
    have ed : ((L.set i y).drop 12).take r.length = r.set (i - 12) y := by
      rw [List.drop_set, if_neg (by omega), hd, List.take_set, List.take_left]
    have hrn : r[i - 12] ≠ y := by
      have : (L.drop 12)[i - 12]? = L[i]? := by rw [List.getElem?_drop, show 12 + (i - 12) = i by omega]
      rw [hd, List.getElem?_append_left hir, List.getElem?_eq_getElem hir, List.getElem?_eq_getElem (by omega)] at this
      rw [Option.some.inj this]
      exact hne'
    rw [rd, dif_neg (by omega), if_neg (by rw [hf]; simp), if_neg (by rw [e0]; omega), e0, if_neg (by rw [ed, e4]; exact crc_set hb hir hy hrn)]

theorem frames_bad {g base : Nat} : ∀ (qs : List (List Nat)) (recs : List (List Nat)) (fin j y : Nat) (met : Bool), (∀ r ∈ qs, r.length ≤ 65536) → (∀ r ∈ qs, ∀ x ∈ r, x < 256) → (hj : j < (frames g recs.length qs).length) → y < 256 → (frames g recs.length qs)[j] ≠ y →
    rd g base ((frames g recs.length qs).set j y) recs fin met = ⟨1, 0, [], 0⟩
  | [], recs, fin, j, y, met, _, _, hj, _, _ => by simp [frames] at hj
  | r :: qs, recs, fin, j, y, met, hs, hb, hj, hy, hne => by
    simp only [frames] at hj hne ⊢
    have hfl := frame_len g recs.length r
    have hq : ∀ x ∈ frames g (recs.length + 1) qs, x < 256 := frames_bytes (fun q hq => hb q (by simp [hq]))
    by_cases h : j < (frame g recs.length r).length
    · rw [List.set_append_left _ _ h]
      exact rd_bad (hs r (by simp)) (hb r (by simp)) hq h hy (by rw [List.getElem_append_left h] at hne; exact hne)
    · rw [List.set_append_right _ _ (by omega), rd_frame (hs r (by simp))]
      rw [List.getElem_append_right (by omega)] at hne
      have e : (recs ++ [r]).length = recs.length + 1 := by simp
      have ih := frames_bad (g := g) (base := base) qs (recs ++ [r]) (fin + (12 + r.length)) (j - (frame g recs.length r).length) y (met || fin + (12 + r.length) == base) (fun q hq => hs q (by simp [hq])) (fun q hq => hb q (by simp [hq]))
      rw [e] at ih
      exact ih (by rw [List.length_append] at hj; omega) hy hne

/-- An area in which one byte is another one. -/
theorem area_bad {g : Nat} {bs ms : List (List Nat)} (hg : g < 4294967296) (hb : ∀ r ∈ bs ++ ms, r.length ≤ 65536) (hx : ∀ r ∈ bs ++ ms, ∀ x ∈ r, x < 256) (hlen : 16 + baseL bs + baseL ms ≤ 1048576) {i y : Nat} (hi : i < (gener g bs ++ frames g bs.length ms).length) (hy : y < 256) (hne : (gener g bs ++ frames g bs.length ms)[i] ≠ y) :
    rdA ((gener g bs ++ frames g bs.length ms).set i y) = ⟨1, 0, [], 0⟩ := by
  have e : gener g bs ++ frames g bs.length ms = head g (baseL bs) ++ frames g 0 (bs ++ ms) := by rw [gener, List.append_assoc, frames_append, Nat.zero_add]
  have hl : (head g (baseL bs) ++ frames g 0 (bs ++ ms)).length = 16 + baseL bs + baseL ms := by rw [List.length_append, head_len, frames_len, baseL_append]; omega
  have hB : ∀ x ∈ head g (baseL bs) ++ frames g 0 (bs ++ ms), x < 256 := fun x h => (List.mem_append.1 h).elim (head_bytes _ _ x) (frames_bytes hx x)
  simp only [e] at hi hne ⊢
  by_cases h16 : i < 16
  · obtain ⟨q0, q4, q8, q12, qt, qd⟩ := head_nums (frames g 0 (bs ++ ms)) hg (show baseL bs < 4294967296 by omega)
    generalize head g (baseL bs) ++ frames g 0 (bs ++ ms) = b at *
    have hl' : (b.set i y).length = 16 + baseL bs + baseL ms := by rw [List.length_set, hl]
    have hh : headOk (b.set i y) = false := by
      unfold headOk
      have : (num (b.set i y) 12 == crc ((b.set i y).take 12)) = false := by
        by_cases h12 : i < 12
        · rw [num_set_lt h12, q12, List.take_set, ← qt]
          have hbt : ∀ x ∈ b.take 12, x < 256 := fun x h => hB x (List.mem_of_mem_take h)
          have := crc_set (i := i) (y := y) hbt (by rw [List.length_take]; omega) hy (by rw [List.getElem_take]; exact hne)
          simpa using fun h => this h.symm
        · have h3 := num_set_in (k := 12) hB hy (by omega) (by omega) (by omega) hne
          have e12 : (b.set i y).take 12 = b.take 12 := by rw [List.take_set, List.set_eq_of_length_le (by rw [List.length_take]; omega)]
          rw [e12, qt]
          rw [q12] at h3
          simpa using h3
      rw [this, Bool.and_false, Bool.false_and]
    rw [rdA, if_neg (by omega), if_pos (.inr hh)]
  · have hj : i - 16 < (frames g 0 (bs ++ ms)).length := by rw [List.length_append, head_len] at hi; omega
    rw [List.set_append_right _ _ (by rw [head_len]; omega), head_len]
    obtain ⟨q0, q4, q8, q12, qt, qd⟩ := head_nums ((frames g 0 (bs ++ ms)).set (i - 16) y) hg (show baseL bs < 4294967296 by omega)
    have hl' : (head g (baseL bs) ++ (frames g 0 (bs ++ ms)).set (i - 16) y).length = 16 + baseL bs + baseL ms := by rw [List.length_append, List.length_set, ← List.length_append, hl]
    have hh : headOk (head g (baseL bs) ++ (frames g 0 (bs ++ ms)).set (i - 16) y) = true := by
      unfold headOk
      rw [q0, q12, q8, qt]
      simp
      omega
    rw [rdA, if_neg (by omega), if_neg (by rw [hh, hl']; simp; omega), if_neg (by rw [q8, hl']; omega), q4, q8, qd]
    rw [List.getElem_append_right (by rw [head_len]; omega)] at hne
    exact frames_bad (bs ++ ms) [] 16 (i - 16) y _ hb hx hj hy hne

/-- An area that was written whole. -/
def Exa (b : List Nat) (g : Nat) (qs : List (List Nat)) : Prop := ∃ bs ms, qs = bs ++ ms ∧ b = gener g bs ++ frames g bs.length ms ∧ g < 4294967296 ∧ (∀ r ∈ qs, r.length ≤ 65536) ∧ (∀ r ∈ qs, ∀ x ∈ r, x < 256) ∧ 16 + baseL qs ≤ 1048576
theorem Exa.bad {b : List Nat} {g : Nat} {qs : List (List Nat)} (h : Exa b g qs) {i y : Nat} (hi : i < b.length) (hy : y < 256) (hne : b[i] ≠ y) : (rdA (b.set i y)).st = 1 := by
  obtain ⟨bs, ms, rfl, rfl, h1, h2, h3, h4⟩ := h
  rw [baseL_append] at h4
  rw [area_bad h1 h2 h3 (by omega) hi hy hne]
theorem Exa.len {b : List Nat} {g : Nat} {qs : List (List Nat)} (h : Exa b g qs) : b.length = 16 + baseL qs := by
  obtain ⟨bs, ms, rfl, rfl, -⟩ := h
  rw [List.length_append, gener_len, frames_len, baseL_append]; omega
/-- A journal none of whose writes tore. -/
structure Exl (l : Lg) : Prop where
  lc : l.cur < 2
  w : ∃ qs, Exa (area (play (l.a, l.b) l.ws) l.cur) l.gen qs ∧ l.fr = qs.length ∧ l.size = 16 + baseL qs
  o : (l.cur = 0 ∧ area (play (l.a, l.b) l.ws) (1 - l.cur) = []) ∨ ∃ g qs, Exa (area (play (l.a, l.b) l.ws) (1 - l.cur)) g qs
theorem exl_first : Exl (opnL [] []) := by
  have e0 : rdA [] = ⟨0, 0, [], 0⟩ := rdA_short (by simp)
  have eL : opnL [] [] = ⟨[], [], [⟨0, 0, gener 1 []⟩], 0, 1, 0, 16⟩ := by unfold opnL; rw [e0]; rfl
  rw [eL]
  have ep : play ([], []) [⟨0, 0, gener 1 []⟩] = (gener 1 [], []) := by
    show put1 ([], []) ⟨0, 0, gener 1 []⟩ (gener 1 []).length = _
    unfold put1
    rw [if_pos rfl]
    simp
  refine ⟨by decide, ⟨[], ⟨[], [], rfl, ?_, by decide, by simp, by simp, by simp [baseL]⟩, rfl, rfl⟩, .inl ⟨rfl, ?_⟩⟩
  · show area (play ([], []) [⟨0, 0, gener 1 []⟩]) 0 = _
    rw [ep]; simp [area, frames]
  · show area (play ([], []) [⟨0, 0, gener 1 []⟩]) (1 - 0) = _
    rw [ep]; rfl
theorem Exl.app {l : Lg} (h : Exl l) {r : List Nat} (hr : r.length ≤ 65536) (hb : ∀ x ∈ r, x < 256) (hle : l.size + (12 + r.length) ≤ 1048576) : Exl (l.app r) := by
  obtain ⟨qs, ⟨bs, ms, rfl, e, h1, h2, h3, h4⟩, hf, hs⟩ := h.w
  have hbb := baseL_append bs ms
  have hmo : baseL (ms ++ [r]) = baseL ms + (12 + r.length) := by rw [baseL_append]; simp [baseL]
  have hbo : baseL (bs ++ ms ++ [r]) = baseL (bs ++ ms) + (12 + r.length) := by rw [baseL_append]; simp [baseL]
  have hl : (gener l.gen bs ++ frames l.gen bs.length ms).length = l.size := by rw [List.length_append, gener_len, frames_len, hs, hbb]; omega
  have ep : play ((l.app r).a, (l.app r).b) (l.app r).ws = put1 (play (l.a, l.b) l.ws) ⟨l.cur, l.size, frame l.gen l.fr r⟩ (frame l.gen l.fr r).length := by
    show play (l.a, l.b) (l.ws ++ [_]) = _
    rw [play_append]; rfl
  have hc := h.lc
  refine ⟨h.lc, ⟨bs ++ ms ++ [r], ⟨bs, ms ++ [r], by rw [List.append_assoc], ?_, h1, ?_, ?_, by omega⟩, ?_, ?_⟩, ?_⟩
  · rw [ep]
    show area (put1 _ ⟨l.cur, l.size, frame l.gen l.fr r⟩ _) l.cur = gener l.gen bs ++ frames l.gen bs.length (ms ++ [r])
    have := area_put_same (play (l.a, l.b) l.ws) ⟨l.cur, l.size, frame l.gen l.fr r⟩ (frame l.gen l.fr r).length h.lc
    simp only at this
    rw [this, e, List.take_of_length_le (Nat.le_of_eq hl), List.take_length, frames_append, hf, List.length_append, List.append_assoc]
    simp [frames]
  · intro q hq
    rcases List.mem_append.1 hq with hq | hq
    · exact h2 q hq
    · simp at hq; subst hq; exact hr
  · intro q hq
    rcases List.mem_append.1 hq with hq | hq
    · exact h3 q hq
    · simp at hq; subst hq; exact hb
  · show l.fr + 1 = _
    rw [hf]; simp; omega
  · show l.size + (12 + r.length) = _
    rw [hs, hbo]; omega
  · have eo : area (play ((l.app r).a, (l.app r).b) (l.app r).ws) (1 - (l.app r).cur) = area (play (l.a, l.b) l.ws) (1 - l.cur) := by
      rw [ep]
      exact area_put_other _ _ _ _ h.lc (by show 1 - l.cur < 2; omega) (by show 1 - l.cur ≠ l.cur; omega)
    rw [eo]
    exact h.o
theorem Exl.rew {l : Lg} (h : Exl l) {rs : List (List Nat)} (hr : ∀ r ∈ rs, r.length ≤ 65536) (hb : ∀ r ∈ rs, ∀ x ∈ r, x < 256) (hle : 16 + baseL rs ≤ 1048576) : Exl (l.rew rs) := by
  have hc := h.lc
  have ep : play ((l.rew rs).a, (l.rew rs).b) (l.rew rs).ws = put1 (play (l.a, l.b) l.ws) ⟨1 - l.cur, 0, gener ((l.gen + 1) % 4294967296) rs⟩ (gener ((l.gen + 1) % 4294967296) rs).length := by
    show play (l.a, l.b) (l.ws ++ [_]) = _
    rw [play_append]; rfl
  obtain ⟨qs, hw, -, -⟩ := h.w
  refine ⟨by show 1 - l.cur < 2; omega, ⟨rs, ⟨rs, [], by simp, ?_, by show (l.gen + 1) % 4294967296 < _; omega, hr, hb, hle⟩, rfl, rfl⟩, .inr ⟨l.gen, qs, ?_⟩⟩
  · rw [ep]
    show area (put1 _ ⟨1 - l.cur, 0, gener ((l.gen + 1) % 4294967296) rs⟩ _) (1 - l.cur) = gener ((l.gen + 1) % 4294967296) rs ++ frames ((l.gen + 1) % 4294967296) rs.length []
    have := area_put_same (play (l.a, l.b) l.ws) ⟨1 - l.cur, 0, gener ((l.gen + 1) % 4294967296) rs⟩ (gener ((l.gen + 1) % 4294967296) rs).length (by show 1 - l.cur < 2; omega)
    simp only at this
    rw [this]
    simp [frames]
  · have eo : area (play ((l.rew rs).a, (l.rew rs).b) (l.rew rs).ws) (1 - (l.rew rs).cur) = area (play (l.a, l.b) l.ws) l.cur := by
      rw [ep]
      show area _ (1 - (1 - l.cur)) = _
      rw [show 1 - (1 - l.cur) = l.cur by omega]
      exact area_put_other _ _ _ _ (by show 1 - l.cur < 2; omega) hc (by show l.cur ≠ 1 - l.cur; omega)
    rw [eo]
    exact hw
theorem Exl.syn {l : Lg} (h : Exl l) : Exl l.syn := ⟨h.lc, h.w, h.o⟩
theorem Exl.next {l l' : Lg} (h : Exl l) (hn : Nxt l l') : Exl l' := by
  rcases hn with rfl | ⟨r, h1, h2, h3, rfl⟩ | ⟨rs, h1, h2, h3, rfl⟩ | rfl
  · exact h
  · exact h.app h1 h2 h3
  · exact h.rew h1 h2 h3
  · exact h.syn
/-- What a byte more or less does to a synced disk. -/
theorem Exl.told {l : Lg} (h : Exl l) {A B : List Nat} (hd : play (l.a, l.b) l.ws = (A, B)) :
    16 ≤ A.length ∧ (B.length < 16 → B = []) ∧ (∀ i y, (hi : i < A.length) → y < 256 → A[i] ≠ y → opnE (A.set i y) B = true) ∧ (∀ i y, (hi : i < B.length) → y < 256 → B[i] ≠ y → opnE A (B.set i y) = true) := by
  have key : ∀ j, j < 2 → (j = 1 ∧ area (play (l.a, l.b) l.ws) j = []) ∨ ∃ g qs, Exa (area (play (l.a, l.b) l.ws) j) g qs := fun j hj => by
    have hc := h.lc
    by_cases e : j = l.cur
    · obtain ⟨qs, hw, -, -⟩ := h.w
      rw [e]
      exact .inr ⟨_, _, hw⟩
    · obtain rfl : j = 1 - l.cur := by omega
      rcases h.o with ⟨h0, h1⟩ | h1
      · exact .inl ⟨by omega, h1⟩
      · exact .inr h1
  have kA : ∃ g qs, Exa A g qs := by
    have := key 0 (by decide)
    rw [hd] at this
    rcases this with ⟨h, -⟩ | h
    · cases h
    · exact h
  have kB : B = [] ∨ ∃ g qs, Exa B g qs := by have := key 1 (by decide); rw [hd] at this; exact this.imp (fun h => h.2) id
  refine ⟨?_, fun hl => ?_, fun i y hi hy hne => ?_, fun i y hi hy hne => ?_⟩
  · obtain ⟨g, qs, e⟩ := kA
    have := e.len; omega
  · rcases kB with e | ⟨g, qs, e⟩
    · exact e
    · have := e.len; omega
  · obtain ⟨g, qs, e⟩ := kA
    unfold opnE
    rw [e.bad hi hy hne]
    rfl
  · rcases kB with e | ⟨g, qs, e⟩
    · rw [e] at hi; simp at hi
    · unfold opnE
      rw [e.bad hi hy hne]
      simp
end Jn

namespace Go.Proofs.YteoebmpfdcbbmabDoor
open Go.ChangeShapes Go.WideShapes Go.ChangeAt Go.RowKit Jn N
set_option maxHeartbeats 16000000
set_option maxRecDepth 100000

theorem SeesB.pass {w w' : World} {v : Value} {L : List Nat} {b : Nat} {x y : Value} {T : TypeId} (h : SeesB w v L) (hb : w.heap[b]? = some (.cells #[x, y] T (0, 0))) (hx : ∃ a n c, x = .slice a n c) (hy : ∃ a n c, y = .slice a n c) (hk : Keeps (At1 b) w w') : SeesB w' v L := by
  obtain ⟨ao, cap, hv, h1, h2, h3⟩ := h
  obtain ⟨xa, xn, xc, rfl⟩ := hx
  obtain ⟨ya, yn, yc, rfl⟩ := hy
  refine ⟨ao, cap, hv, h1, h2, fun j hj => ?_⟩
  obtain ⟨g, off, ha, hg, c0, c1⟩ := h3 j hj
  refine ⟨g, off, ha, Nat.lt_of_lt_of_le hg hk.size, ?_, c1⟩
  by_cases e : g = b
  · subst e
    rw [cell_of_row _ _ _ _ _ _ hb] at c0
    rcases hq : off + j with _ | _ | m <;> rw [hq] at c0 <;> simp at c0
  · exact (World.cell?_of_block (w := w) (a := ⟨g, off + j, none⟩) (hk.block g hg e)).trans c0
theorem SeesBB.pass {w w' : World} {v : Value} {L : List (List Nat)} {b B : Nat} {x y : Value} {T : TypeId} {C : Nat → Prop} (h : RecsF w C B v L) (hb : w.heap[b]? = some (.cells #[x, y] T (0, 0))) (hB : b < B) (hx : ∃ a n c, x = .slice a n c) (hy : ∃ a n c, y = .slice a n c) (hk : Keeps (At1 b) w w') : SeesBB w' v L := by
  obtain ⟨Vs, h1, h2, h3⟩ := h
  refine own_seesS (h1.keeps hk (fun k e h => ?_)) h2 (fun i x r hx' hr => (h3 i x r hx' hr).1.pass hb hx hy hk)
  unfold At1 at h
  have := (World.ownsRow.lt h1 k e).1
  omega
/-- What written answers: a synced disk, and its records. -/
def TellC : Prop := ∀ (w u : World) (S : Nat → Prop) (p : Nat) (l : Lg) (q : Nat) (R : List (List Nat)) (P : Pts) (N : Nat), Tst w u S p l q R P N → TabN w → ∀ o : Opn, o.Ok w → N + 1 ≤ 2500000000000 → Calls Tryd.prog 27 #[.pointer (some ⟨q, 0, none⟩), .pointer (some ⟨p, 0, none⟩), .agg (opv o.k o.v o.vs o.z)] u fun e u' => e = .returned (.bool true) ∧ ∃ S' l' R' P', Tst w u' S' p l' q R' P' (N + 1) ∧ Nxt l l'
def Wrt (w w' : World) (va vb vr : Value) : Prop := ∃ A B R, SeesB w' va A ∧ SeesB w' vb B ∧ SeesBB w' vr R ∧ Below w.heap.size w w' ∧ opnE A B = false ∧ opnR A B = R ∧ A.length ≤ 1048576 ∧ B.length ≤ 1048576 ∧ ∃ l, Exl l ∧ play (l.a, l.b) l.ws = (A, B)
theorem written_walk (htell : TellC) (v : Value) (Os : List Opn) (w : World) (hv : SeesO w v Os) (hok : ∀ o ∈ Os, o.Ok w) (hl : Os.length * 64 ≤ 140737488351232) (ht : TabN w) :
    Calls Tryd.prog 10 #[v] w fun e w' => ∃ va vb vr, e = .returned (.tuple #[.agg #[va, vb], vr]) ∧ Wrt w w' va vb vr := by
  have HTELL := hid htell
  clear htell
  obtain ⟨ao, n, cap, rfl, HN, hn1, hn2⟩ := hv.shape
  unfold maxLen at hn2
  have hn : n ≤ 2199023255488 := by have := HN.out; omega
  have HV := hid hv
  have HOK := hid hok
  have HT := hid ht
  obtain ⟨u0, hu0⟩ : ∃ u0, u0 = w.alloc (.cells #[.slice none 0 0, .slice none 0 0] 26) := ⟨_, rfl⟩
  have hb0 : Below w.heap.size w u0 := by rw [hu0]; exact (Below.refl _ _).alloc (Nat.le_refl _) _
  have hr0 : u0.heap[w.heap.size]? = some (.cells #[.slice none 0 0, .slice none 0 0] 26 (0, 0)) := by rw [hu0]; exact heap_alloc_new w _
  have HB0 := hid hb0
  have HR0 := hid hr0
  have HV0 := hid (hv.below hb0)
  have HOK0 : Hid (∀ o ∈ Os, o.Ok u0) := fun o ho => (hok o ho).below hb0
  have HT0 := hid (ht.below hb0 ht.2)
  have HBG := hid (begunT_any u0 HT0.out)
  have HU0 := hid hu0
  have hbl : w.heap.size < u0.heap.size := (Array.getElem?_eq_some_iff.1 hr0).1
  obtain ⟨b, hbb⟩ : ∃ b, b = w.heap.size := ⟨_, rfl⟩
  rw [← hbb] at HR0 hbl
  have HBB := hid hbb
  clear hv hok ht hl hu0 hb0 hr0 hbb
  go_enter Tryd.func10, Tryd.ntmps10
  go_upto_region 1 with fail
  rw [← HU0.out, ← HBB.out]
  go_wp2_with fail
  refine HBG.out.mono ?_
  rintro _ u1 ⟨p, q, S0, rfl, hTs0⟩
  have hEx0 := exl_first
  generalize opnL [] [] = l0 at hTs0 hEx0
  have HS0 := hid hTs0
  have HE0 := hid hEx0
  clear hTs0 HBG hEx0
  go_wp2_with fail
  go_loopw [6] (fun i wr => ∃ (k : Nat) (S : Nat → Prop) (l : Lg) (R : List (List Nat)) (P : Pts), i = .int .i64 (k : Int) ∧ k ≤ n ∧ Hid (Tst u0 wr S p l q R P (k + 1)) ∧ Hid (Exl l)) (fun i _ => n - (intOf i).toNat)
  case atStart => exact ⟨0, S0, l0, _, _, rfl, Nat.zero_le _, HS0, HE0⟩
  case round =>
    obtain ⟨k, S, l, R, P, rfl, hk, HS, HE⟩ := hrel
    clear HS0 HE0
    by_cases hlt : k < n
    · obtain ⟨g, off, o, rfl, hg, c0, c1, c2, c3, HO⟩ := (HV0.out.below HS.out.jr.be).at k hlt
      have HOO := hid (HOK0.out o (List.mem_of_getElem? HO.out))
      have hTE := HTELL.out _ _ _ _ _ _ _ _ _ HS.out HT0.out o HOO.out (by omega)
      unfold opv at hTE
      obtain ⟨kd, hkd⟩ : ∃ kd, kd = o.k := ⟨_, rfl⟩
      obtain ⟨zz, hzz⟩ : ∃ zz, zz = o.z := ⟨_, rfl⟩
      obtain ⟨va, vn, vc, hva, -, -, -⟩ := HOO.out.v.shape
      obtain ⟨sa, sn, sc, hsa, -, -, -⟩ := HOO.out.vs.shape
      rw [← hkd] at c0 hTE
      rw [← hzz] at c3 hTE
      rw [hva] at c1 hTE
      rw [hsa] at c2 hTE
      have HTE := hid hTE
      clear hkd hzz hva hsa hTE HOO HO
      by_cases h1 : 1 ≤ kd
      · by_cases h3 : kd ≤ 3
        · as_aux_lemma =>
            go_wp2_with fail
            refine HTE.out.mono ?_
            rintro _ u9 ⟨rfl, S', l', R', P', hT9, hN9⟩
            have H9 := hid hT9
            have HX9 : Hid (Exl l') := HE.out.next hN9
            clear hT9 hN9
            go_wp2_with fail
            go_roundw
            case rel => exact ⟨k + 1, S', l', R', P', by go_num, by omega, H9, HX9⟩
            case measure => simp [intOf]; omega
        · as_aux_lemma =>
            have H9 := hid (HS.out.more (show k + 1 ≤ k + 1 + 1 by omega))
            go_wp2_with fail
            go_roundw
            case rel => exact ⟨k + 1, S, l, R, P, by go_num, by omega, H9, HE⟩
            case measure => simp [intOf]; omega
      · as_aux_lemma =>
          have H9 := hid (HS.out.more (show k + 1 ≤ k + 1 + 1 by omega))
          go_wp2_with fail
          go_roundw
          case rel => exact ⟨k + 1, S, l, R, P, by go_num, by omega, H9, HE⟩
          case measure => simp [intOf]; omega
    · as_aux_lemma =>
        have HSY := hid (sync_any S p l wr HS.out.jr.log HS.out.jr.ok (by have := HS.out.ws; omega))
        go_wp2_with fail
        refine HSY.out.mono ?_
        rintro _ u2 ⟨rfl, hl2⟩
        obtain ⟨C, vG, vP, vR, Gs, X, Gc, hX0, hset, hgl, hTl, bX, bG, bW⟩ := HS.out
        have hX1 := hX0.left hl2
        have hbU : Below u0.heap.size u0 u2 := hX1.jr.be
        have hr2 : u2.heap[b]? = some (.cells #[.slice none 0 0, .slice none 0 0] 26 (0, 0)) := (hbU.block b hbl).trans HR0.out
        obtain ⟨-, -, c2, -, -, cf⟩ := ta_cells hX1.row
        have hql := hX1.lt.1
        obtain ⟨ar, nr, cr, rfl, HNR, -, -⟩ := hX1.fr.sees.shape
        obtain ⟨D, hD⟩ : ∃ D, D = play (l.a, l.b) l.ws := ⟨_, rfl⟩
        have hcr : Calls Tryd.prog 20 #[.pointer (some ⟨p, 0, none⟩), .int .i64 0] u2.drew fun e w' => ∃ ga na ca gb nb cb, e = .returned (.agg #[.slice (some ⟨ga, 0, none⟩) na ca, .slice (some ⟨gb, 0, none⟩) nb cb]) ∧ Disk2 u2.drew w' ga na ca gb nb cb D := by
          have hX2 := hX1.below (below_drew (Below.refl _ _))
          have := crash_any _ p l.syn 0 u2.drew hX2.jr.log hX2.jr.ok (by show 0 ≤ _; omega) (by decide)
          rw [hD]
          exact this
        have HCR := hid hcr
        have HRO : Hid (∀ w9, Below u2.heap.size u2 w9 → w9.heap[q]? = some (taRow vG vP (.slice ar nr cr) l.size (dirt l.ws)) ∧ w9.heap[b]? = some (.cells #[.slice none 0 0, .slice none 0 0] 26 (0, 0))) := fun w9 hb => ⟨(hX1.below hb).row, (hb.block b (Array.getElem?_eq_some_iff.1 hr2).1).trans hr2⟩
        have hby := play_ok HS.out.jr.ok.ws HS.out.jr.ok.ba HS.out.jr.ok.bb HS.out.jr.ok.la HS.out.jr.ok.lb
        rw [← hD] at hby
        obtain ⟨r1, r2, -, -⟩ := hTl.syn.open 0
        have r1' : opnE D.1 D.2 = false := by rw [hD]; exact r1
        have r2' : opnR D.1 D.2 = R := by rw [hD]; exact r2
        have HFIN : Hid (∀ (w9 : World) (ga na ca gb nb cb : Nat), Disk2 u2.drew w9 ga na ca gb nb cb D → Wrt w ((w9.setCell ⟨b, 0, none⟩ (.slice (some ⟨ga, 0, none⟩) na ca)).setCell ⟨b, 1, none⟩ (.slice (some ⟨gb, 0, none⟩) nb cb)) (.slice (some ⟨ga, 0, none⟩) na ca) (.slice (some ⟨gb, 0, none⟩) nb cb) (.slice ar nr cr)) := by
          intro w9 ga na ca gb nb cb h9
          have hb9 : Below u2.heap.size u2 w9 := ⟨h9.be.os, h9.be.tape, h9.be.output, h9.be.size, h9.be.block⟩
          have hr9 := (HRO.out w9 hb9).2
          have hk : Keeps (At1 b) w9 ((w9.setCell ⟨b, 0, none⟩ (.slice (some ⟨ga, 0, none⟩) na ca)).setCell ⟨b, 1, none⟩ (.slice (some ⟨gb, 0, none⟩) nb cb)) := ((Keeps.refl (At1 b) w9).set ⟨b, 0, none⟩ rfl _).set ⟨b, 1, none⟩ rfl _
          refine ⟨D.1, D.2, R, (h9.a.sees hby.1).pass hr9 ⟨_, _, _, rfl⟩ ⟨_, _, _, rfl⟩ hk, (h9.b.sees hby.2.1).pass hr9 ⟨_, _, _, rfl⟩ ⟨_, _, _, rfl⟩ hk, SeesBB.pass (hX1.below hb9).fr hr9 hbl ⟨_, _, _, rfl⟩ ⟨_, _, _, rfl⟩ hk, ?_, r1', r2', hby.2.2.1, hby.2.2.2, l, HE.out, hD.symm⟩
          have h1 : Below w.heap.size w w9 := HB0.out.trans ((hX1.below hb9).jr.be.mono HB0.out.size)
          exact hk.below h1 h1.size (fun k hk e => by unfold At1 at e; have := HBB.out; omega)
        clear hX0 hX1 hl2 hset hgl hTl bX bG bW HSY hbU hcr hby r1 r2 r1' r2' hD HNR
        have y0 : u2.cell? ⟨b, 0, none⟩ = some (.slice none 0 0) := by rw [cell_of_row _ _ _ _ _ _ hr2]; rfl
        have hbl2 := (Array.getElem?_eq_some_iff.1 hr2).1
        clear hr2
        go_upto_region 8 with fail
        go_region_law (first
          | (go_simp; go_at_call 20; refine HCR.out.mono ?_; rintro _ w9 ⟨ga, na, ca, gb, nb, cb, rfl, hD9⟩; have HD9 := hid hD9; have hb9 : Below u2.heap.size u2 w9 := ⟨hD9.be.os, hD9.be.tape, hD9.be.output, hD9.be.size, hD9.be.block⟩; clear hD9; obtain ⟨-, -, k2, -, -, kf⟩ := ta_cells (HRO.out w9 hb9).1; have hb9r := (HRO.out w9 hb9).2; have m0 : w9.cell? ⟨b, 0, none⟩ = some (.slice none 0 0) := (by rw [cell_of_row _ _ _ _ _ _ hb9r]; rfl); have m1 : w9.cell? ⟨b, 1, none⟩ = some (.slice none 0 0) := (by rw [cell_of_row _ _ _ _ _ _ hb9r]; rfl); have mf : ∀ i, w9.frozen? ⟨b, i, none⟩ = false := fun i => frozen_of_row _ _ _ _ _ hb9r; have hbl9 := (Array.getElem?_eq_some_iff.1 hb9r).1; have HB9R := hid hb9r; clear hb9 hb9r)
          | fail)
        all_goals (
          have HF := hid (HFIN.out w9 ga na ca gb nb cb HD9.out)
          have hrF := set_cells (i := 1) (v := .slice (some ⟨gb, 0, none⟩) nb cb) (set_cells (i := 0) (v := .slice (some ⟨ga, 0, none⟩) na ca) HB9R.out)
          have j0 : ((w9.setCell ⟨b, 0, none⟩ (.slice (some ⟨ga, 0, none⟩) na ca)).setCell ⟨b, 1, none⟩ (.slice (some ⟨gb, 0, none⟩) nb cb)).cell? ⟨b, 0, none⟩ = some (.slice (some ⟨ga, 0, none⟩) na ca) := by rw [cell_of_row _ _ _ _ _ _ hrF]; rfl
          have j1 : ((w9.setCell ⟨b, 0, none⟩ (.slice (some ⟨ga, 0, none⟩) na ca)).setCell ⟨b, 1, none⟩ (.slice (some ⟨gb, 0, none⟩) nb cb)).cell? ⟨b, 1, none⟩ = some (.slice (some ⟨gb, 0, none⟩) nb cb) := by rw [cell_of_row _ _ _ _ _ _ hrF]; rfl
          clear hrF
          go_wp2_with fail
          refine bodyPost_ret (v := .tuple #[.agg #[.slice (some ⟨ga, 0, none⟩) na ca, .slice (some ⟨gb, 0, none⟩) nb cb], .slice ar nr cr]) (by simp [results, Tryd.results10, go_sem, j0, j1]) rfl ⟨_, _, _, rfl, HF.out⟩)
end Go.Proofs.YteoebmpfdcbbmabDoor

namespace Go.Proofs.YteoebmpfdcbbmabDoor
open Go.ChangeShapes Go.WideShapes Go.ChangeAt Go.RowKit Jn N
set_option maxHeartbeats 16000000
set_option maxRecDepth 100000

/-- Two lists of bytes, each in a new block. -/
structure Cln (u W : World) (va vb : Value) (A B : List Nat) : Prop where
  be : Below u.heap.size u W
  a : OwnB W u.heap.size va A
  b : OwnB W u.heap.size vb B
  ne : ∀ k, va.ownBlock = some k → vb.ownBlock ≠ some k
theorem cln_ab {u u1 u2 : World} {va vb : Value} {A B : List Nat} (h1 : OwnB u1 u.heap.size va A) (b1 : Below u.heap.size u u1) (h2 : OwnB u2 u1.heap.size vb B) (b2 : Below u1.heap.size u1 u2) : Cln u u2 va vb A B :=
  ⟨b1.trans (b2.mono b1.size), h1.below b2, h2.mono b1.size, fun k hk e => by
    have h3 := (World.ownsRow.lt h1 k hk).2
    have h4 := (World.ownsRow.lt h2 k e).1
    omega⟩
theorem cln_ba {u u1 u2 : World} {va vb : Value} {A B : List Nat} (h1 : OwnB u1 u.heap.size vb B) (b1 : Below u.heap.size u u1) (h2 : OwnB u2 u1.heap.size va A) (b2 : Below u1.heap.size u1 u2) : Cln u u2 va vb A B :=
  ⟨b1.trans (b2.mono b1.size), h2.mono b1.size, h1.below b2, fun k hk e => by
    have h3 := (World.ownsRow.lt h1 k e).2
    have h4 := (World.ownsRow.lt h2 k hk).1
    omega⟩
theorem clone_at (v : Value) (L : List Nat) (w u : World) (hv : SeesB w v L) (hl : L.length ≤ 1099511627776) (hb : Below w.heap.size w u) :
    Calls Tryd.prog 13 #[v] u fun e w' => ∃ a n c, e = .returned (.slice a n c) ∧ OwnB w' u.heap.size (.slice a n c) L ∧ Below u.heap.size u w' := by
  refine (clone_any v L u (hv.below hb) hl).mono ?_
  rintro e w' ⟨v', rfl, h1, h2⟩
  rcases h1.2 with ⟨rfl, h3⟩ | ⟨g, cap, cur, rfl, h3⟩
  · exact ⟨_, _, _, rfl, h1, h2⟩
  · exact ⟨_, _, _, rfl, h1, h2⟩
theorem Cln.flipB {u W : World} {va : Value} {g n c : Nat} {A B : List Nat} (h : Cln u W va (.slice (some ⟨g, 0, none⟩) n c) A B) (i y : Nat) : OwnB (W.setCell ⟨g, i, none⟩ (.int .u8 (y : Int))).drew u.heap.size va A ∧ OwnB (W.setCell ⟨g, i, none⟩ (.int .u8 (y : Int))).drew u.heap.size (.slice (some ⟨g, 0, none⟩) n c) (B.set i y) ∧ Below u.heap.size u (W.setCell ⟨g, i, none⟩ (.int .u8 (y : Int))).drew := by
  obtain ⟨h1, h2⟩ := h.b.put i y
  have hk : Keeps (At1 g) W (W.setCell ⟨g, i, none⟩ (.int .u8 (y : Int))) := (Keeps.refl (At1 g) W).set ⟨g, i, none⟩ rfl _
  exact ⟨(h.a.keeps hk (fun k hk e => h.ne k hk (by unfold At1 at e; rw [e]; rfl))).below (below_drew (Below.refl _ _)), h1.below (below_drew (Below.refl _ _)), below_drew (h.be.trans h2)⟩
theorem Cln.turn {u W : World} {va vb : Value} {A B : List Nat} (h : Cln u W va vb A B) : Cln u W vb va B A := ⟨h.be, h.b, h.a, fun k hk e => h.ne k e hk⟩
theorem xor_ne {x m : Nat} (hm : m ≠ 0) : x ≠ x ^^^ m := fun e => by
  have h : x ^^^ x = x ^^^ (x ^^^ m) := by rw [← e]
  rw [Nat.xor_self, ← Nat.xor_assoc, Nat.xor_self, Nat.zero_xor] at h
  exact hm h.symm
def WrtC : Prop := ∀ (v : Value) (Os : List Opn) (w : World), SeesO w v Os → (∀ o ∈ Os, o.Ok w) → Os.length * 64 ≤ 140737488351232 → TabN w → Calls Tryd.prog 10 #[v] w fun e w' => ∃ va vb vr, e = .returned (.tuple #[.agg #[va, vb], vr]) ∧ Wrt w w' va vb vr

theorem damage_walk (hwr : WrtC) (v : Value) (Os : List Opn) (sec : Bool) (z : Int) (m : Nat) (w : World) (hv : SeesO w v Os) (hok : ∀ o ∈ Os, o.Ok w) (hl : Os.length * 64 ≤ 140737488351232) (hz : z < 9223372036854775808) (hm : m < 256) (ht : TabN w) :
    Calls Tryd.prog 3 #[v, .bool sec, .int .i64 z, .int .u8 (m : Int)] w fun e w' => e = .returned (.bool true) ∧ Below w.heap.size w w' := by
  obtain ⟨ao, n, cap, rfl, HN, hn1, hn2⟩ := hv.shape
  have HFI := hid (first_any w ht)
  have HFI2 : Hid (∀ u, Below w.heap.size w u → Calls Tryd.prog 9 #[] u fun e w' => e = .returned (.bool true) ∧ Below u.heap.size u w') := fun u hu => first_any u (ht.below hu ht.2)
  have HWR : Hid (∀ u, Below w.heap.size w u → Calls Tryd.prog 10 #[.slice ao n cap] u fun e w' => ∃ va vb vr, e = .returned (.tuple #[.agg #[va, vb], vr]) ∧ Wrt u w' va vb vr) := fun u hu => hwr _ Os u (hv.below hu) (fun o ho => (hok o ho).below hu) hl (ht.below hu ht.2)
  have HT := hid ht
  clear hv hok hl ht hwr
  by_cases hz0 : z < 0
  · as_aux_lemma =>
      go_enter Tryd.func3, Tryd.ntmps3
      go_wp2_with fail
      refine HFI.out.mono ?_
      rintro _ u0 ⟨rfl, hb0⟩
      have HB0 := hid hb0
      have HF2 := hid (HFI2.out u0 hb0)
      clear hb0
      go_wp2_with fail
      refine HF2.out.mono ?_
      rintro _ u1 ⟨rfl, hb1⟩
      have HB1 : Hid (Below w.heap.size w u1) := HB0.out.trans (hb1.mono HB0.out.size)
      clear hb1
      go_wp2_with fail
      go_ret
      exact ⟨rfl, HB1.out⟩
  · by_cases hm0 : m = 0
    · as_aux_lemma =>
        subst hm0
        go_enter Tryd.func3, Tryd.ntmps3
        go_wp2_with fail
        refine HFI.out.mono ?_
        rintro _ u0 ⟨rfl, hb0⟩
        have HB0 := hid hb0
        have HF2 := hid (HFI2.out u0 hb0)
        clear hb0
        go_wp2_with fail
        refine HF2.out.mono ?_
        rintro _ u1 ⟨rfl, hb1⟩
        have HB1 : Hid (Below w.heap.size w u1) := HB0.out.trans (hb1.mono HB0.out.size)
        clear hb1
        go_wp2_with fail
        go_ret
        exact ⟨rfl, HB1.out⟩
    · as_aux_lemma =>
        obtain ⟨zn, hzn⟩ : ∃ zn : Nat, z = (zn : Int) := ⟨z.toNat, by omega⟩
        have HZN := hid hzn
        clear hzn
        have qm : ((m : Int) == 0) = false := by simp; omega
        have qm' : ¬ (m : Int) = 0 := by omega
        go_enter Tryd.func3, Tryd.ntmps3
        go_wp2_with fail
        refine HFI.out.mono ?_
        rintro _ u0 ⟨rfl, hb0⟩
        have HB0 := hid hb0
        have HW0 := hid (HWR.out u0 hb0)
        clear hb0 HFI HFI2 HWR
        go_wp2_with fail
        refine HW0.out.mono ?_
        rintro _ u1 ⟨va, vb, vr, rfl, hW⟩
        obtain ⟨A, B, R, hA, hB, hR, hb1, o1, o2, lA, lB, l, hE, hp⟩ := hW
        obtain ⟨t1, t2, t3, t4⟩ := hE.told hp
        obtain ⟨aa, na, ca, rfl, HNA, -, -⟩ := hA.shape
        obtain ⟨ab, nb, cb, rfl, HNB, -, -⟩ := hB.shape
        obtain ⟨ar, nr, cr, rfl, HNR, -, -⟩ := hR.shape
        have HB1 : Hid (Below w.heap.size w u1) := HB0.out.trans (hb1.mono HB0.out.size)
        obtain ⟨u2, hu2⟩ : ∃ u2, u2 = u1.alloc (.cells #[.slice aa na ca, .slice ab nb cb] 26) := ⟨_, rfl⟩
        have hb2 : Below u1.heap.size u1 u2 := by rw [hu2]; exact (Below.refl _ _).alloc (Nat.le_refl _) _
        have hr2 : u2.heap[u1.heap.size]? = some (.cells #[.slice aa na ca, .slice ab nb cb] 26 (0, 0)) := by rw [hu2]; exact heap_alloc_new u1 _
        have HA2 := hid (hA.below hb2)
        have HBB2 := hid (hB.below hb2)
        have HR2 := hid (hR.below hb2)
        have HB2 : Hid (Below w.heap.size w u2) := HB1.out.trans (hb2.mono HB1.out.size)
        have HOP := open_any _ _ A B u2 HA2.out HBB2.out (HT.out.below HB2.out HT.out.2)
        have HOA : Hid (Calls Tryd.prog 11 #[.agg #[.slice aa na ca, .slice ab nb cb]] u2 fun e w' => ∃ p' v S Bd l', e = .returned (.tuple #[.pointer (some ⟨p', 0, none⟩), v, .int .i64 0]) ∧ Opened u2 w' S Bd p' v l' R) := HOP.mono fun e w' h => by
          obtain ⟨p', v, S, Bd, h1, h2⟩ := h.2 o1
          rw [o2] at h2
          exact ⟨p', v, S, Bd, _, h1, h2⟩
        obtain ⟨b, hbb⟩ : ∃ b, b = u1.heap.size := ⟨_, rfl⟩
        have y0 : u2.cell? ⟨u1.heap.size, 0, none⟩ = some (.slice aa na ca) := by rw [cell_of_row _ _ _ _ _ _ hr2]; rfl
        have y1 : u2.cell? ⟨u1.heap.size, 1, none⟩ = some (.slice ab nb cb) := by rw [cell_of_row _ _ _ _ _ _ hr2]; rfl
        have hbl := (Array.getElem?_eq_some_iff.1 hr2).1
        rw [← hbb] at y0 y1 hbl hr2
        have HU2 := hid hu2
        have HBX := hid hbb
        have HRR := hid hr2
        have T1 := hid t1
        have T2 := hid t2
        have T3 := hid t3
        have T4 := hid t4
        clear hA hB hR hb1 o1 o2 hE hp hu2 hb2 hr2 HOP hbb t1 t2 t3 t4 HNR HW0
        go_upto_region 4 with fail
        rw [← HU2.out, ← HBX.out]
        go_wp2_with fail
        refine HOA.out.mono ?_
        rintro _ u3 ⟨p', vq, S', Bd', l', rfl, hO⟩
        have HB3 := hid hO.be
        have HSV := hid hO.recs.sees
        obtain ⟨aq, nq, cq, rfl, HNQ, -, -⟩ := hO.recs.sees.shape
        have HLS := hid (lists_eq _ _ _ u3 HSV.out (HR2.out.below hO.be))
        clear hO HNQ HSV
        go_wp2_with fail
        refine HLS.out.mono ?_
        rintro _ u4 ⟨rfl, hb4⟩
        have HB24 : Hid (Below u2.heap.size u2 u4) := HB3.out.trans (hb4.mono HB3.out.size)
        have hr4 : u4.heap[b]? = some (.cells #[.slice aa na ca, .slice ab nb cb] 26 (0, 0)) := (HB24.out.block b hbl).trans HRR.out
        have HR4 : Hid (∀ w9, Below u4.heap.size u4 w9 → w9.heap[b]? = some (.cells #[.slice aa na ca, .slice ab nb cb] 26 (0, 0))) := fun w9 hb => (hb.block b (Array.getElem?_eq_some_iff.1 hr4).1).trans hr4
        have m0 : u4.cell? ⟨b, 0, none⟩ = some (.slice aa na ca) := by rw [cell_of_row _ _ _ _ _ _ hr4]; rfl
        have m1 : u4.cell? ⟨b, 1, none⟩ = some (.slice ab nb cb) := by rw [cell_of_row _ _ _ _ _ _ hr4]; rfl
        have hbl4 := (Array.getElem?_eq_some_iff.1 hr4).1
        have HCA : Hid (∀ u, Below u4.heap.size u4 u → Calls Tryd.prog 13 #[.slice aa na ca] u fun e w' => ∃ a n c, e = .returned (.slice a n c) ∧ OwnB w' u.heap.size (.slice a n c) A ∧ Below u.heap.size u w') := fun u hu => clone_at _ A u4 u (HA2.out.below HB24.out) (by omega) hu
        have HCB : Hid (∀ u, Below u4.heap.size u4 u → Calls Tryd.prog 13 #[.slice ab nb cb] u fun e w' => ∃ a n c, e = .returned (.slice a n c) ∧ OwnB w' u.heap.size (.slice a n c) B ∧ Below u.heap.size u w') := fun u hu => clone_at _ B u4 u (HBB2.out.below HB24.out) (by omega) hu
        have HD4 : Hid (Below u4.heap.size u4 u4.drew) := below_drew (Below.refl _ _)
        have HB4 : Hid (Below w.heap.size w u4) := HB2.out.trans (HB24.out.mono HB2.out.size)
        have HBA : Hid (∀ x ∈ A, x < 256) := HA2.out.bytes
        have HBBy : Hid (∀ x ∈ B, x < 256) := HBB2.out.bytes
        clear hb4 hr4 HLS HOA HR2 HRR y0 y1 HB3 HB1 HB0 HB2 HB24 HA2 HBB2
        go_upto_region 7 with fail
        go_region_law (first
          | (have HKK := HBAw; go_simp; go_at_call 13; refine (HCB.out wA HKK.out).mono ?_; rintro _ W9 ⟨aB, nB, cB, rfl, hoB, hbB⟩; have HCL : Hid (Cln u4 W9 (.slice aA nA cA) (.slice aB nB cB) A B) := cln_ab HOA.out HBAw.out hoB hbB; clear hoB hbB HOA HBAw HKK)
          | (go_simp; go_at_call 13; refine (HCA.out u4.drew HD4.out).mono ?_; rintro _ wA ⟨aA, nA, cA, rfl, hoA, hbA⟩; have HOA := hid hoA; have HBAw : Hid (Below u4.heap.size u4 wA) := ⟨hbA.os, hbA.tape, hbA.output, hbA.size, hbA.block⟩; clear hoA hbA; have k0 : wA.cell? ⟨b, 0, none⟩ = some (.slice aa na ca) := (by rw [cell_of_row _ _ _ _ _ _ (HR4.out wA HBAw.out)]; rfl); have k1 : wA.cell? ⟨b, 1, none⟩ = some (.slice ab nb cb) := (by rw [cell_of_row _ _ _ _ _ _ (HR4.out wA HBAw.out)]; rfl))
          | fail)
        all_goals (
          cases sec with
          | true =>
            by_cases h16 : nB < 16
            · have hx0 : nB = B.length := by
                obtain ⟨_, _, hv, _⟩ := (HCL.out.b.sees HBBy.out)
                simp at hv; exact hv.2.1
              obtain rfl : nB = 0 := by rw [hx0, T2.out (by omega)]; rfl
              have HB9 : Hid (Below w.heap.size w W9) := HB4.out.trans (HCL.out.be.mono HB4.out.size)
              clear hx0 HCL HCA HCB HD4 HR4 T1 T2 T3 T4
              go_wp2_with fail
              go_ret
              exact ⟨rfl, HB9.out⟩
            · have hx0 : nB = B.length := by
                obtain ⟨_, _, hv, _⟩ := (HCL.out.b.sees HBBy.out)
                simp at hv; exact hv.2.1
              have hne : B ≠ [] := fun e => by rw [e] at hx0; simp at hx0; omega
              obtain ⟨gB, n', c', e', -, -, -, -, hfz⟩ := HCL.out.b.grip hne
              simp at e'
              obtain ⟨rfl, rfl, rfl⟩ := e'
              obtain ⟨i, hi⟩ : ∃ i, i = zn % nB := ⟨_, rfl⟩
              have hil : i < nB := by rw [hi]; exact Nat.mod_lt _ (by omega)
              have t0 : z.tmod (nB : Int) = (i : Int) := by rw [HZN.out, hi]; rfl
              obtain ⟨gx, ox, x, ex, hgx, hcx, hx256, HXX⟩ := (HCL.out.b.sees HBBy.out).at i hil
              simp at ex
              obtain ⟨rfl, rfl⟩ := ex
              rw [Nat.zero_add] at hcx
              obtain ⟨y, hy⟩ : ∃ y, y = x ^^^ m := ⟨_, rfl⟩
              have hxr : bits .xor .u8 (x : Int) (m : Int) = (y : Int) := by rw [hy]; exact u8_xor_nat x m hx256 hm
              have hy256 : y < 256 := by rw [hy]; exact Nat.xor_lt_two_pow (n := 8) hx256 hm
              have hiX : i < B.length := by omega
              have hneX : B[i] ≠ y := by
                have h1 := HXX.out
                rw [List.getElem?_eq_getElem hiX] at h1
                rw [Option.some.inj h1, hy]
                exact xor_ne hm0
              have hE := T4.out i y hiX hy256 hneX
              obtain ⟨f1, f2, f3⟩ := HCL.out.flipB i y
              obtain ⟨W10, hW10⟩ : ∃ W10, W10 = (W9.setCell ⟨gB, i, none⟩ (.int .u8 (y : Int))).drew := ⟨_, rfl⟩
              rw [← hW10] at f1 f2 f3
              have HBW : Hid (Below w.heap.size w W10) := HB4.out.trans (f3.mono HB4.out.size)
              have HOD : Hid (Calls Tryd.prog 11 #[.agg #[.slice aA nA cA, .slice (some ⟨gB, 0, none⟩) nB cB]] W10 fun e w' => e = .returned (.tuple #[.pointer none, .slice none 0 0, .int .i64 120]) ∧ Below W10.heap.size W10 w') := (open_any _ _ A (B.set i y) W10 (f1.sees HBA.out) (f2.sees (set_bytes HBBy.out hy256)) (HT.out.below HBW.out HT.out.2)).mono fun e w' h => h.1 hE
              have HW10 := hid hW10
              have r1 : ((nB : Int) == 0) = false := by simp; omega
              have r2 : ¬ (nB : Int) = 0 := by omega
              have r6 : ¬ nB = 0 := by omega
              have r3 : (i : Int) < (nB : Int) := by omega
              have r4 : (0 : Int) ≤ (i : Int) := by omega
              have r5 : decide ((i : Int) < 0) = false := by simp
              clear hx0 hne hi hy HXX hE f1 f2 f3 hW10 hneX hiX HCL HCA HCB HD4 HR4 T1 T2 T3 T4
              go_upto_region 11 with fail
              refine wp_region_still_tail 15 (by kernel_rfl) (by kernel_rfl) ?_
              simp only [List.take_succ_cons, List.take_zero, List.drop_succ_cons, List.drop_zero]
              iterate 15 still_step
              refine wpStill_nil ?_
              go_upto_region 15 with fail
              rw [← HW10.out]
              go_wp2_with fail
              refine HOD.out.mono ?_
              rintro _ w11 ⟨rfl, hb11⟩
              have HB11 : Hid (Below w.heap.size w w11) := HBW.out.trans (hb11.mono HBW.out.size)
              clear hb11
              go_wp2_with fail
              go_ret
              exact ⟨rfl, HB11.out⟩
          | false =>
              have hA16 : 16 ≤ nA := by
                obtain ⟨_, _, hv, _⟩ := (HCL.out.a.sees HBA.out)
                simp at hv
                have := T1.out
                omega
              have hx0 : nA = A.length := by
                obtain ⟨_, _, hv, _⟩ := (HCL.out.a.sees HBA.out)
                simp at hv; exact hv.2.1
              have hne : A ≠ [] := fun e => by rw [e] at hx0; simp at hx0; omega
              obtain ⟨gA, n', c', e', -, -, -, -, hfz⟩ := HCL.out.a.grip hne
              simp at e'
              obtain ⟨rfl, rfl, rfl⟩ := e'
              obtain ⟨i, hi⟩ : ∃ i, i = zn % nA := ⟨_, rfl⟩
              have hil : i < nA := by rw [hi]; exact Nat.mod_lt _ (by omega)
              have t0 : z.tmod (nA : Int) = (i : Int) := by rw [HZN.out, hi]; rfl
              obtain ⟨gx, ox, x, ex, hgx, hcx, hx256, HXX⟩ := (HCL.out.a.sees HBA.out).at i hil
              simp at ex
              obtain ⟨rfl, rfl⟩ := ex
              rw [Nat.zero_add] at hcx
              obtain ⟨y, hy⟩ : ∃ y, y = x ^^^ m := ⟨_, rfl⟩
              have hxr : bits .xor .u8 (x : Int) (m : Int) = (y : Int) := by rw [hy]; exact u8_xor_nat x m hx256 hm
              have hy256 : y < 256 := by rw [hy]; exact Nat.xor_lt_two_pow (n := 8) hx256 hm
              have hiX : i < A.length := by omega
              have hneX : A[i] ≠ y := by
                have h1 := HXX.out
                rw [List.getElem?_eq_getElem hiX] at h1
                rw [Option.some.inj h1, hy]
                exact xor_ne hm0
              have hE := T3.out i y hiX hy256 hneX
              obtain ⟨f1, f2, f3⟩ := HCL.out.turn.flipB i y
              obtain ⟨W10, hW10⟩ : ∃ W10, W10 = (W9.setCell ⟨gA, i, none⟩ (.int .u8 (y : Int))).drew := ⟨_, rfl⟩
              rw [← hW10] at f1 f2 f3
              have HBW : Hid (Below w.heap.size w W10) := HB4.out.trans (f3.mono HB4.out.size)
              have HOD : Hid (Calls Tryd.prog 11 #[.agg #[.slice (some ⟨gA, 0, none⟩) nA cA, .slice aB nB cB]] W10 fun e w' => e = .returned (.tuple #[.pointer none, .slice none 0 0, .int .i64 120]) ∧ Below W10.heap.size W10 w') := (open_any _ _ (A.set i y) B W10 (f2.sees (set_bytes HBA.out hy256)) (f1.sees HBBy.out) (HT.out.below HBW.out HT.out.2)).mono fun e w' h => h.1 hE
              have HW10 := hid hW10
              have r1 : ((nA : Int) == 0) = false := by simp; omega
              have r2 : ¬ (nA : Int) = 0 := by omega
              have r6 : ¬ nA = 0 := by omega
              have r3 : (i : Int) < (nA : Int) := by omega
              have r4 : (0 : Int) ≤ (i : Int) := by omega
              have r5 : decide ((i : Int) < 0) = false := by simp
              clear hx0 hne hi hy HXX hE f1 f2 f3 hW10 hneX hiX HCL HCA HCB HD4 HR4 T1 T2 T3 T4
              go_upto_region 14 with fail
              refine wp_region_still_tail 15 (by kernel_rfl) (by kernel_rfl) ?_
              simp only [List.take_succ_cons, List.take_zero, List.drop_succ_cons, List.drop_zero]
              iterate 15 still_step
              refine wpStill_nil ?_
              go_upto_region 15 with fail
              rw [← HW10.out]
              go_wp2_with fail
              refine HOD.out.mono ?_
              rintro _ w11 ⟨rfl, hb11⟩
              have HB11 : Hid (Below w.heap.size w w11) := HBW.out.trans (hb11.mono HBW.out.size)
              clear hb11
              go_wp2_with fail
              go_ret
              exact ⟨rfl, HB11.out⟩)
end Go.Proofs.YteoebmpfdcbbmabDoor

namespace Go.Proofs.YteoebmpfdcbbmabDoor
open Go.ChangeShapes Go.WideShapes Go.ChangeAt Go.RowKit Jn N
set_option maxHeartbeats 4000000
set_option maxRecDepth 100000

theorem tell_any {w u : World} {S : Nat → Prop} {p : Nat} {l : Lg} {q : Nat} {R : List (List Nat)} {P : Pts} {N : Nat} (h : Tst w u S p l q R P N) (ht : TabN w) {o : Opn} (ho : o.Ok w) (hN : N + 1 ≤ 2500000000000) :
    Calls Tryd.prog 27 #[.pointer (some ⟨q, 0, none⟩), .pointer (some ⟨p, 0, none⟩), .agg (opv o.k o.v o.vs o.z)] u fun e u' => e = .returned (.bool true) ∧ ∃ S' l' R' P', Tst w u' S' p l' q R' P' (N + 1) ∧ Nxt l l' := by
  have s1 : ∃ a n c, o.v = .slice a n c := by obtain ⟨a, n, c, e, -⟩ := ho.v.shape; exact ⟨a, n, c, e⟩
  have s2 : ∃ a n c, o.vs = .slice a n c := by obtain ⟨a, n, c, e, -⟩ := ho.vs.shape; exact ⟨a, n, c, e⟩
  by_cases k1 : o.k = 1
  · rw [k1]; exact tell_app h ht ho.v s2 hN ho.lr
  · by_cases k2 : o.k = 2
    · rw [k2]; exact tell_rew h ht s1 ho.vs hN ho.ln
    · by_cases k3 : o.k = 3
      · rw [k3]; exact tell_sync h s1 s2 hN
      · exact tell_none h s1 s2 k1 k2 k3


theorem damage_any (v : Value) (Os : List Opn) (sec : Bool) (z : Int) (m : Nat) (w : World) (hv : SeesO w v Os) (hok : ∀ o ∈ Os, o.Ok w) (hl : Os.length * 64 ≤ 140737488351232) (hz : z < 9223372036854775808) (hm : m < 256) (ht : TabN w) :
    Calls Tryd.prog 3 #[v, .bool sec, .int .i64 z, .int .u8 (m : Int)] w fun e w' => e = .returned (.bool true) ∧ Below w.heap.size w w' :=
  damage_walk (fun v Os w h1 h2 h3 h4 => written_walk (fun _ _ _ _ _ _ _ _ _ h ht _ ho hN => tell_any h ht ho hN) v Os w h1 h2 h3 h4) v Os sec z m w hv hok hl hz hm ht
end Go.Proofs.YteoebmpfdcbbmabDoor

namespace Go.Proofs.YteoebmpfdcbbmabDoor.J.journalDamage
open Go.ChangeShapes Go.WideShapes Go.ChangeAt Go.RowKit Jn N Go.Proofs.YteoebmpfdcbbmabDoor

set_option maxRecDepth 100000 in
theorem contract (H : Type) (enc : TypeId × Value → H) (W : World) (base : Nat) (args : Array Value) (ds gs : List (DataW H)) (before : List MemPlace)
    (hval : ∀ (j : Nat) t v, Tryd.f3.params[j]? = some t → args[j]? = some v → Value.okWide Tryd.prog W .any base t v)
    (hW : DataW.Whole enc Tryd.prog Tryd.f3.params.toList Rows.journalDamageSpec.vars false W args.toList ds gs before) (hsz0 : (DataW.weightsEach Tryd.prog (Tryd.f3.params.toList ++ (OpenSpec.ofChange Rows.journalDamageSpec).bare.plain.varTypes Tryd.prog) (ds ++ gs)).all (· ≤ reachBytes) = true) (hL : laidMetH Tryd.prog Rows.journalDamageRow.laid W) :
    Calls Tryd.prog 3 args W fun e W' => ∃ v, e = .returned v ∧ Rows.journalDamageSpec.post enc Tryd.prog Tryd.f3 false true false false W args v W' := by
  have hsz : (DataW.weightsEach Tryd.prog (Tryd.f3.params.toList ++ Rows.journalDamageSpec.plain.varTypes Tryd.prog) (ds ++ gs)).all (· ≤ reachBytes) = true := hsz0
  have htN := tabN hL
  have hW' := hW
  obtain ⟨p, q, hA0, hV, rfl, hfz, hnd⟩ := hW
  have hA : DataW.TrodAll enc Tryd.prog W 0 (fun _ => true) true Tryd.f3.params.toList args.toList ds p := hA0
  rw [Tryd.params3] at hA hval hsz
  obtain ⟨v0, vs0, d0, ds0, p0, q0, hargs, rfl, rfl, h0, r0⟩ := trodAll_cons hA
  obtain ⟨v1, vs1, d1, ds1, p1, q1, rfl, rfl, rfl, h1, r1⟩ := trodAll_cons r0
  obtain ⟨v2, vs2, d2, ds2, p2, q2, rfl, rfl, rfl, h2, r2⟩ := trodAll_cons r1
  obtain ⟨v3, vs3, d3, ds3, p3, q3, rfl, rfl, rfl, h3, r3⟩ := trodAll_cons r2
  obtain ⟨rfl, rfl, rfl⟩ := trodAll_nil r3
  obtain rfl : args = #[v0, v1, v2, v3] := by cases args; simp_all
  obtain ⟨rfl, rfl⟩ := trodVars_none hV
  clear hA0
  simp only [List.append_nil] at hW'
  have hw0 : ∀ x ∈ d0.weights Tryd.prog 22, x ≤ reachBytes := fun x hx => by
    have := List.all_eq_true.1 hsz x (DataW.weights_mem_each (j := 0) (t := 22) (d := d0) rfl rfl x hx)
    simpa using this
  obtain ⟨S0, hs0, ho0, hn0⟩ := open_os (hval 0 22 v0 rfl rfl) h0 hw0
  obtain ⟨k1, rfl, _⟩ := open_bool Tryd.underlying4 (hval 1 4 v1 rfl rfl) h1
  obtain ⟨k2, rfl, _, _, wk2⟩ := open_int uI (hval 2 3 v2 rfl rfl) h2
  obtain ⟨z3, rfl, _, _, wk3⟩ := open_int u5 (hval 3 5 v3 rfl rfl) h3
  obtain ⟨k3, rfl, hk3⟩ := wf_u8 wk3
  have hlt : ∀ x, x ∈ p0 ∨ x ∈ p1 ∨ x ∈ p2 ∨ x ∈ p3 → x.block < W.heap.size := fun x hx => hW'.lt x (by simpa using hx)
  refine (damage_any v0 S0 k1 k2 k3 W hs0 ho0 hn0 (by have := i64_wf wk2; omega) hk3 htN).mono fun e W' ⟨he, hg⟩ => ?_
  subst he
  exact ⟨_, rfl, _, _, _, [], p0 ++ (p1 ++ (p2 ++ (p3 ++ []))), [], hW', trodAll_cons_mk (shut_bool Tryd.underlying4 _) trodAll_mk0,
    trodAll_cons_mk (Below.trod laidOut (by kernel_rfl) (of_decide_eq_true (by kernel_rfl)) h0 hg (fun x hx => hlt x (.inl hx))) (trodAll_cons_mk (Below.trod laidOut (by kernel_rfl) (of_decide_eq_true (by kernel_rfl)) h1 hg (fun x hx => hlt x (.inr (.inl hx)))) (trodAll_cons_mk (Below.trod laidOut (by kernel_rfl) (of_decide_eq_true (by kernel_rfl)) h2 hg (fun x hx => hlt x (.inr (.inr (.inl hx))))) (trodAll_cons_mk (Below.trod laidOut (by kernel_rfl) (of_decide_eq_true (by kernel_rfl)) h3 hg (fun x hx => hlt x (.inr (.inr (.inr hx))))) trodAll_mk0))), rfl, hg.frame _, fun h => by cases h⟩

theorem laid_met (os : Os) : laidMet Tryd.prog Rows.journalDamageRow.laid ((laidWorld os).forCall (fun _ _ => 0) ⟨#[], #[.slice none 0 0, .bool false, .int .i64 0, .int .u8 0], []⟩).memory :=
  laidMet_of_run' 8 (by kernel_rfl) (by kernel_rfl)
theorem reads (os : Os) {H : Type} (enc : TypeId × Value → H) : ∃ places, DataW.whole enc Tryd.prog ((laidWorld os).forCall (fun _ _ => 0) ⟨#[], #[.slice none 0 0, .bool false, .int .i64 0, .int .u8 0], []⟩).memory Tryd.f3.params.toList Rows.journalDamageSpec.vars false (#[.slice none 0 0, .bool false, .int .i64 0, .int .u8 0] : Array Value).toList 8 = some ([.nil, .lit (.bool false), .lit (.int .i64 0), .lit (.int .u8 0)], [], places) :=
  ⟨[], by kernel_rfl⟩

set_option maxRecDepth 100000 in
theorem lifted (os : Os) (started : os.Started) (H : Type) (enc : TypeId × Value → H) (F : Stop.Interp) :
    ReturnsInHanded {} Tryd.checked os 3 .any ((OpenSpec.ofChange Rows.journalDamageSpec).preRow enc Tryd.prog Tryd.f3 Rows.journalDamageRow.domain false Rows.journalDamageRow.laid) (((OpenSpec.ofChange Rows.journalDamageSpec).at F).post enc Tryd.prog Tryd.f3 false true false false) := by
  obtain ⟨places, hx⟩ := reads os enc
  refine returnsInHanded_of_row (C := Tryd.checked) (s := OpenSpec.ofChange Rows.journalDamageSpec) own started (by kernel_rfl) Tryd.func3
    (witness_row_at (enc := enc) (C := Tryd.checked) false (laidWorld os) #[.slice none 0 0, .bool false, .int .i64 0, .int .u8 0] rfl (by kernel_rfl) (by kernel_rfl) (by kernel_rfl)
      (OpenSpec.preRow_of_cond 8 hx (by kernel_rfl) (fun k hk => by cases hk) (by kernel_rfl) (laid_met os))) ?_
  intro W base args ds gs before hval hW _ _ hsz hL _ _
  exact contract H enc W base args ds gs before hval hW hsz hL

theorem said : Rows.JournalDamageSaid :=
  OpenClaim.holds_of_cond 3 Tryd.f3 rfl rfl rfl rfl rfl rfl rfl ⟨rfl, rfl, rfl, rfl, rfl⟩ rfl rfl rfl rfl rfl (by kernel_rfl) Tryd.func3 (by kernel_rfl)
    (of_decide_eq_true (by kernel_rfl)) (by unfold Func.isWrapper; first | (rw [if_pos (by decide +kernel)]; kernel_rfl) | (rw [if_neg (by decide +kernel)]; exact ⟨rfl, rfl⟩))
    (fun os started H enc _ F => by rw [OpenClaim.pre_eq_preRow]; exact lifted os started H enc F)

/-- No parameter wants a stand-in; the program has looks of its own. -/
theorem plain (f : FuncId) (fn : Func) (hf : Tryd.pinned.checked.prog.funcNamed "weft/weftlaw12.JournalDamage" = some f) (hfn : Tryd.pinned.checked.prog.funcs[f]? = some fn) :
    false = Tryd.pinned.checked.prog.looks [] ∧ ∀ (j : Nat) t, fn.params[j]? = some t → Tryd.pinned.checked.prog.wantsStandIn t = false := by
  obtain rfl : f = 3 := Option.some.inj ((show Tryd.prog.funcNamed "weft/weftlaw12.JournalDamage" = some 3 by kernel_rfl).symm.trans hf) |>.symm
  obtain rfl : fn = Tryd.f3 := (Option.some.inj (Tryd.func3.symm.trans hfn)).symm
  refine ⟨by kernel_rfl, fun j t ht => ?_⟩
  rw [Tryd.params3] at ht
  have h : t = 3 ∨ t = 4 ∨ t = 5 ∨ t = 22 := by
    rcases j with _ | _ | _ | _ | j <;> simp at ht <;> simp [← ht]
  rcases h with rfl | rfl | rfl | rfl
  · exact (show Tryd.prog.wantsStandIn 3 = false by kernel_rfl)
  · exact (show Tryd.prog.wantsStandIn 4 = false by kernel_rfl)
  · exact (show Tryd.prog.wantsStandIn 5 = false by kernel_rfl)
  · exact (show Tryd.prog.wantsStandIn 22 = false by kernel_rfl)

theorem card : Rows.JournalDamageCardSaid :=
  Claim7.holds_tied_plain_at .later [] _ _ _ _ said (fun _ h => by cases h) (by kernel_rfl) (fun _ h => by cases h) journalDamage_row_tie rfl ⟨rfl, rfl⟩ (by kernel_rfl) rfl plain (by kernel_rfl)
end Go.Proofs.YteoebmpfdcbbmabDoor.J.journalDamage
namespace Go.Proofs.YteoebmpfdcbbmabDoor
theorem journalDamage_holds : Rows.JournalDamageCardSaid := J.journalDamage.card
#print axioms journalDamage_holds
end Go.Proofs.YteoebmpfdcbbmabDoor
