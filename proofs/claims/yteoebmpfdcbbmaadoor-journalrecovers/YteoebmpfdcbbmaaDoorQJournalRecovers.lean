import Derived.Test.YteoebmpfdcbbmaaDoorRB
import Derived.Test.YteoebmpfdcbbmaaDoorCards
import Derived.Test.YteoebmpfdcbbmaaDoorTie
import Derived.Deep.Slices
import Derived.Deep.Strs
import Derived.SizedLaws
import Derived.Deep.DeepHandedRow
import Derived.Lib.LaidTab
import Derived.Stop.LaidErr
import Derived.Deep.CondSized
import Derived.Test.YteoebmpfdcbbmaaDoorNF
import Derived.Test.YteoebmpfdcbbmaaDoorNB
import Derived.Test.YteoebmpfdcbbmaaDoorNH
namespace Go.Proofs.YteoebmpfdcbbmaaDoor
open Go.ChangeShapes Go.WideShapes Go.ChangeAt Go.RowKit Jn N
set_option maxRecDepth 100000

theorem own : ownKnob Tryd.prog.godebug = none := by kernel_rfl
theorem laidOut : laidOutB Tryd.prog = true := by kernel_rfl
theorem gN : Tryd.prog.globalNamed "weft/journal.nibbles" = some 0 := by kernel_rfl
theorem gNType : (Tryd.prog.globals[0]?).map (·.type) = some 97 := by kernel_rfl
theorem uN : Tryd.prog.underlying 97 = some (.array 16 47) := by kernel_rfl
theorem cellsN : Tryd.prog.cellsOf 97 = 16 := by kernel_rfl
theorem cells1N : Tryd.prog.cellsOf 47 = 1 := by kernel_rfl
theorem uU : Tryd.prog.underlying 47 = some (.int .u32) := by kernel_rfl
theorem uI : Tryd.prog.underlying 3 = some (.int .i64) := by kernel_rfl
theorem u5 : Tryd.prog.underlying 5 = some (.int .u8) := by kernel_rfl
theorem uB8 : Tryd.prog.underlying 31 = some (.slice 5) := by kernel_rfl
theorem cell1_5 : Tryd.prog.cellsOf 5 = 1 := by kernel_rfl
theorem bytes5 : Tryd.prog.bytesOf 5 = 1 := by kernel_rfl

theorem wf_u8 {a : Int} (h : (Lit.int .u8 a).wf = true) : ∃ n : Nat, a = (n : Int) ∧ n < 256 := by
  have h' : (decide (IntKind.u8.min ≤ a) && decide (a ≤ IntKind.u8.max)) = true := h
  rw [show IntKind.u8.min = 0 from by decide +kernel, show IntKind.u8.max = 255 from by decide +kernel] at h'
  simp at h'
  exact ⟨a.toNat, by omega, by omega⟩
theorem wf_u16 {a : Int} (h : (Lit.int .u16 a).wf = true) : ∃ n : Nat, a = (n : Int) ∧ n < 65536 := by
  have h' : (decide (IntKind.u16.min ≤ a) && decide (a ≤ IntKind.u16.max)) = true := h
  rw [show IntKind.u16.min = 0 from by decide +kernel, show IntKind.u16.max = 65535 from by decide +kernel] at h'
  simp at h'
  exact ⟨a.toNat, by omega, by omega⟩
theorem wf_u32 {a : Int} (h : (Lit.int .u32 a).wf = true) : ∃ n : Nat, a = (n : Int) ∧ n < 4294967296 := by
  have h' : (decide (IntKind.u32.min ≤ a) && decide (a ≤ IntKind.u32.max)) = true := h
  rw [show IntKind.u32.min = 0 from by decide +kernel, show IntKind.u32.max = 4294967295 from by decide +kernel] at h'
  simp at h'
  exact ⟨a.toNat, by omega, by omega⟩
theorem wf_i64 {a : Int} (h : (Lit.int .i64 a).wf = true) : -9223372036854775808 ≤ a ∧ a ≤ 9223372036854775807 := by
  have h' : (decide (IntKind.i64.min ≤ a) && decide (a ≤ IntKind.i64.max)) = true := h
  rw [show IntKind.i64.min = -9223372036854775808 from by decide +kernel, show IntKind.i64.max = 9223372036854775807 from by decide +kernel] at h'
  simpa using h'

theorem spot_none {W : World} {a : Addr} {v : Value} (z0 : W.cell? a = some v) : ∃ g off, a = ⟨g, off, none⟩ ∧ g < W.heap.size := by
  have hlt := World.block_lt_of_cell? W a z0
  obtain ⟨g, off, sp⟩ := a
  cases sp with
  | none => exact ⟨g, off, rfl, hlt⟩
  | some s =>
    exfalso
    simp only [World.cell?] at z0
    split at z0 <;> simp at z0

theorem bulk_one {H : Type} (d : DataW H) : 1 ≤ Rows.uptoBulk d := by
  cases d with
  | lit l => cases l <;> simp [Rows.uptoBulk]
  | nil => simp [Rows.uptoBulk]
  | ptr d => simp [Rows.uptoBulk]
  | slice elems spare => simp [Rows.uptoBulk]
  | agg parts => simp [Rows.uptoBulk]
  | iface t d => simp [Rows.uptoBulk]
  | map entries => simp [Rows.uptoBulk]
  | held h => simp [Rows.uptoBulk]

theorem bulk_part {H : Type} {d : DataW H} {l : List (DataW H)} (h : d ∈ l) : Rows.uptoBulk d ≤ Rows.uptoBulkAll l := by
  induction l with
  | nil => cases h
  | cons x r ih =>
    simp only [Rows.uptoBulkAll]
    rcases List.mem_cons.1 h with rfl | h
    · omega
    · have := ih h; omega

theorem bulk_len {H : Type} (l : List (DataW H)) : l.length ≤ Rows.uptoBulkAll l := by
  induction l with
  | nil => simp
  | cons x r ih => have := bulk_one x; simp only [Rows.uptoBulkAll, List.length_cons]; omega

theorem bulk_flat {H : Type} (D : Nat → DataW H) (F : Nat → List Nat) (l : List Nat) (h : ∀ i ∈ l, (F i).length ≤ Rows.uptoBulk (D i)) : (l.map F).flatten.length ≤ Rows.uptoBulkAll (l.map D) := by
  induction l with
  | nil => simp
  | cons x r ih =>
    have h1 := h x List.mem_cons_self
    have h2 := ih (fun i hi => h i (List.mem_cons_of_mem _ hi))
    simp only [List.map_cons, List.flatten_cons, List.length_append, Rows.uptoBulkAll]
    omega

theorem weights_all {H : Type} {P : Program} {e : TypeId} : ∀ {ds : List (DataW H)} {d : DataW H}, d ∈ ds → ∀ n ∈ d.weights P e, n ∈ DataW.weightsAll P e ds
  | a :: t, d, hd, n, hn => by
    simp only [DataW.weightsAll, List.mem_append]
    rcases List.mem_cons.1 hd with rfl | h
    · exact .inl hn
    · exact .inr (weights_all h n hn)

section
variable {H : Type} {enc : TypeId × Value → H} {W : World}

/-- How long a list is, against what was read of it. -/
structure Fits (x : DataW H) (t : TypeId) (n : Nat) : Prop where
  bulk : n ≤ Rows.uptoBulk x
  room : (∀ k ∈ x.weights Tryd.prog t, k ≤ reachBytes) → n ≤ reachBytes

/-- A list of bytes that came in, within another thing. -/
theorem open_bytes {fuel : Nat} {cs : List Value} {x : DataW H × List MemPlace} (hf : DataW.trod enc Tryd.prog W 0 (fun _ => true) true fuel 31 cs = some x) :
    ∃ v L, cs = [v] ∧ SeesB W v L ∧ Fits x.1 31 L.length ∧ v.oneCell' = true := by
  rcases Go.Deep.open_slice uB8 hf with ⟨h1, hx⟩ | ⟨a, len, cap, m, n, D, Pl, h1, _, hlc, hcm, hm, hxx, hx⟩
  · subst hx
    exact ⟨_, [], h1, sees_nil W, ⟨by simp, fun _ => by simp⟩, rfl⟩
  · simp at hm
    subst hm
    have key : ∀ i, i < len → ∃ y : Nat, y < 256 ∧ W.cell? (a.add i) = some (.int .u8 (y : Int)) := by
      intro i hi
      obtain ⟨cs', k1, k2⟩ := hx i (by omega)
      rw [cell1_5, Nat.mul_one] at k1
      obtain ⟨_, _, hc⟩ := World.cells?_some k1
      obtain ⟨z, e1, _, wf⟩ := DataW.trod_int u5 k2
      obtain ⟨y, rfl, hy⟩ := wf_u8 wf
      refine ⟨y, hy, ?_⟩
      have := hc 0 (by omega)
      rw [e1] at this
      simpa [Addr.add] using this
    have hch : ∃ F : Nat → Nat, ∀ i, i < len → F i < 256 ∧ W.cell? (a.add i) = some (.int .u8 ((F i : Nat) : Int)) := by
      refine ⟨fun i => if h : i < len then (key i h).choose else 0, fun i hi => ?_⟩
      simp only [dif_pos hi]
      exact (key i hi).choose_spec
    obtain ⟨F, hF⟩ := hch
    refine ⟨_, (List.range len).map F, h1, ⟨some a, m, by simp, ⟨by simpa using hlc, fun h => by cases h⟩, hcm, fun j hj => ?_⟩, ?_, rfl⟩
    · have hj' : j < len := by simpa using hj
      obtain ⟨g, off, rfl, hg⟩ : ∃ g off, a = ⟨g, off, none⟩ ∧ g < W.heap.size := by
        have z0 := (hF 0 (by omega)).2
        have e : a.add 0 = a := by simp [Addr.add]
        rw [e] at z0
        exact spot_none z0
      have y0 := (hF j hj').2
      rw [Addr.add_mid] at y0
      exact ⟨g, off, rfl, hg, by rw [y0]; simp, by simpa using (hF j hj').1⟩
    · subst hxx
      refine ⟨?_, fun hw => ?_⟩
      · simp only [List.length_map, List.length_range, Rows.uptoBulk]
        have := bulk_len ((List.range len).map D)
        simp only [List.length_map, List.length_range] at this
        omega
      · have := hw ((((List.range len).map D).length + ((List.range (m - len)).map fun j => D (len + j)).length) * Tryd.prog.bytesOf 5) (by simp [DataW.weights])
        rw [bytes5] at this
        simp only [List.length_map, List.length_range] at this ⊢
        omega

end

theorem tabN {W : World} (h : laidMet Tryd.prog [("weft/journal.nibbles", Rows.laid_weft_journal_nibbles)] W) : TabN W := by
  obtain ⟨ps, ⟨g, t, cs, fuel, p, q, hg, ht, hvar, hd, _, _⟩, _⟩ := h
  obtain rfl := Option.some.inj (gN.symm.trans hg)
  obtain rfl := Option.some.inj (gNType.symm.trans ht)
  obtain ⟨xs, m, _, hx, hl, hxl, hall⟩ := DataW.trod_array uN hd
  rw [cellsN] at hl
  rw [cells1N] at hall
  unfold Rows.laid_weft_journal_nibbles at hx
  match xs, hxl with
  | [(d0, q0), (d1, q1), (d2, q2), (d3, q3), (d4, q4), (d5, q5), (d6, q6), (d7, q7), (d8, q8), (d9, q9), (d10, q10), (d11, q11), (d12, q12), (d13, q13), (d14, q14), (d15, q15)], _ =>
    simp at hx
    obtain ⟨⟨rfl, rfl, rfl, rfl, rfl, rfl, rfl, rfl, rfl, rfl, rfl, rfl, rfl, rfl, rfl, rfl⟩, _⟩ := hx
    obtain ⟨z0, r0, e0, _⟩ := DataW.trod_int uU (hall 0 (by omega))
    obtain ⟨z1, r1, e1, _⟩ := DataW.trod_int uU (hall 1 (by omega))
    obtain ⟨z2, r2, e2, _⟩ := DataW.trod_int uU (hall 2 (by omega))
    obtain ⟨z3, r3, e3, _⟩ := DataW.trod_int uU (hall 3 (by omega))
    obtain ⟨z4, r4, e4, _⟩ := DataW.trod_int uU (hall 4 (by omega))
    obtain ⟨z5, r5, e5, _⟩ := DataW.trod_int uU (hall 5 (by omega))
    obtain ⟨z6, r6, e6, _⟩ := DataW.trod_int uU (hall 6 (by omega))
    obtain ⟨z7, r7, e7, _⟩ := DataW.trod_int uU (hall 7 (by omega))
    obtain ⟨z8, r8, e8, _⟩ := DataW.trod_int uU (hall 8 (by omega))
    obtain ⟨z9, r9, e9, _⟩ := DataW.trod_int uU (hall 9 (by omega))
    obtain ⟨z10, r10, e10, _⟩ := DataW.trod_int uU (hall 10 (by omega))
    obtain ⟨z11, r11, e11, _⟩ := DataW.trod_int uU (hall 11 (by omega))
    obtain ⟨z12, r12, e12, _⟩ := DataW.trod_int uU (hall 12 (by omega))
    obtain ⟨z13, r13, e13, _⟩ := DataW.trod_int uU (hall 13 (by omega))
    obtain ⟨z14, r14, e14, _⟩ := DataW.trod_int uU (hall 14 (by omega))
    obtain ⟨z15, r15, e15, _⟩ := DataW.trod_int uU (hall 15 (by omega))
    simp at e0 e1 e2 e3 e4 e5 e6 e7 e8 e9 e10 e11 e12 e13 e14 e15
    obtain ⟨rfl, -⟩ := e0
    obtain ⟨rfl, -⟩ := e1
    obtain ⟨rfl, -⟩ := e2
    obtain ⟨rfl, -⟩ := e3
    obtain ⟨rfl, -⟩ := e4
    obtain ⟨rfl, -⟩ := e5
    obtain ⟨rfl, -⟩ := e6
    obtain ⟨rfl, -⟩ := e7
    obtain ⟨rfl, -⟩ := e8
    obtain ⟨rfl, -⟩ := e9
    obtain ⟨rfl, -⟩ := e10
    obtain ⟨rfl, -⟩ := e11
    obtain ⟨rfl, -⟩ := e12
    obtain ⟨rfl, -⟩ := e13
    obtain ⟨rfl, -⟩ := e14
    obtain ⟨rfl, -⟩ := e15
    have hcs : cs.toList = (List.range 16).map fun j => Value.int .u32 ((tab j : Nat) : Int) := by
      match hc : cs.toList, hl with
      | [c0, c1, c2, c3, c4, c5, c6, c7, c8, c9, c10, c11, c12, c13, c14, c15], _ =>
        rw [hc] at r0 r1 r2 r3 r4 r5 r6 r7 r8 r9 r10 r11 r12 r13 r14 r15
        simp at r0 r1 r2 r3 r4 r5 r6 r7 r8 r9 r10 r11 r12 r13 r14 r15
        subst r0 r1 r2 r3 r4 r5 r6 r7 r8 r9 r10 r11 r12 r13 r14 r15
        rfl
    have hcell : ∀ j, j < 16 → W.cell? ⟨0, j, none⟩ = some (.int .u32 ((tab j : Nat) : Int)) := by
      intro j hj
      rw [World.var?_cell gN hvar j, ← Array.getElem?_toList, hcs, List.getElem?_map, List.getElem?_range hj]
      rfl
    exact ⟨hcell, World.block_lt_of_cell? W _ (hcell 0 (by omega))⟩

/-- The cells of a table of numbers. -/
def aggCells : DataW Unit → Array Value
  | .agg ds => (ds.map fun d => match d with | .lit (.int k z) => Value.int k z | _ => .bool false).toArray
  | _ => #[]
def put (d : DataW Unit) : Obj → Obj
  | .cells _ t frozen => .cells (aggCells d) t frozen
  | o => o
/-- A world for the witness: the settled one, the table holding what its initialiser lays. -/
noncomputable def laidWorld (os : Os) : World :=
  { World.holding Tryd.prog os ⟨#[], #[], []⟩ with heap := (World.holding Tryd.prog os ⟨#[], #[], []⟩).heap.modify 0 (put Rows.laid_weft_journal_nibbles) }
end Go.Proofs.YteoebmpfdcbbmaaDoor

namespace Go.Proofs.YteoebmpfdcbbmaaDoor
open Go.ChangeShapes Go.WideShapes Go.ChangeAt Go.RowKit Jn N
set_option maxRecDepth 100000

theorem cell1_B : Tryd.prog.cellsOf 31 = 1 := by kernel_rfl
section
variable {H : Type} {enc : TypeId × Value → H} {W : World}
theorem open_bss {fuel : Nat} {cs : List Value} {x : DataW H × List MemPlace} (hf : DataW.trod enc Tryd.prog W 0 (fun _ => true) true fuel 22 cs = some x) (hw : ∀ k ∈ x.1.weights Tryd.prog 22, k ≤ reachBytes) :
    ∃ v Ls, cs = [v] ∧ SeesBB W v Ls ∧ ∀ L ∈ Ls, L.length ≤ 140737488355328 := by
  rcases Go.Deep.open_slice1 uBB cell1_B hf with ⟨h1, hx⟩ | ⟨a, len, cap, m, n, V, D, Pl, h1, _, hlc, hcm, hm, hxx, hx⟩
  · exact ⟨_, [], h1, ⟨none, 0, rfl, by simp, by unfold maxLen; omega, fun j hj => absurd hj (by simp)⟩, fun L hL => by cases hL⟩
  · simp at hm
    subst hm
    subst hxx
    have key : ∀ i, i < len → ∃ L : List Nat, W.cell? (a.add i) = some (V i) ∧ SeesB W (V i) L ∧ L.length ≤ 140737488355328 := by
      intro i hi
      obtain ⟨k1, k2⟩ := hx i (by omega)
      obtain ⟨v, L, e, hs, hft, -⟩ := open_bytes k2
      simp at e
      subst e
      refine ⟨L, k1, hs, ?_⟩
      have := hft.room (fun k hk => hw k (by
        simp only [DataW.weights, uBB, List.mem_cons, List.mem_append]
        exact .inr (.inl (weights_all (d := D i) (List.mem_map.2 ⟨i, by simpa using hi, rfl⟩) k hk))))
      unfold reachBytes at this
      omega
    by_cases h0 : len = 0
    · subst h0
      exact ⟨_, [], h1, ⟨some a, m, rfl, by simp, hcm, fun j hj => absurd hj (by simp)⟩, fun L hL => by cases hL⟩
    obtain ⟨F, hF⟩ : ∃ F : Nat → List Nat, ∀ i, i < len → W.cell? (a.add i) = some (V i) ∧ SeesB W (V i) (F i) ∧ (F i).length ≤ 140737488355328 := by
      refine ⟨fun i => if h : i < len then (key i h).choose else [], fun i hi => ?_⟩
      simp only [dif_pos hi]
      exact (key i hi).choose_spec
    obtain ⟨g, off, rfl, hg⟩ : ∃ g off, a = ⟨g, off, none⟩ ∧ g < W.heap.size := by
      have z0 := (hF 0 (by omega)).1
      have e : a.add 0 = a := by simp [Addr.add]
      rw [e] at z0
      exact spot_none z0
    refine ⟨_, (List.range len).map F, h1, ⟨some ⟨g, off, none⟩, m, by simp, by simpa using hlc, hcm, fun j hj => ?_⟩, fun L hL => ?_⟩
    · have hj' : j < len := by simpa using hj
      obtain ⟨y0, y1, -⟩ := hF j hj'
      rw [Addr.add_mid] at y0
      exact ⟨g, off, _, rfl, hg, y0, by simpa using y1⟩
    · obtain ⟨i, hi, rfl⟩ := List.mem_map.1 hL
      exact (hF i (by simpa using hi)).2.2
end
end Go.Proofs.YteoebmpfdcbbmaaDoor

namespace Go.Proofs.YteoebmpfdcbbmaaDoor
open Go.ChangeShapes Go.WideShapes Go.ChangeAt Go.RowKit Jn N
set_option maxRecDepth 100000

theorem bytesB : Tryd.prog.bytesOf 31 = 24 := by kernel_rfl
section
variable {H : Type} {enc : TypeId × Value → H} {W : World}
theorem open_bssL {fuel : Nat} {cs : List Value} {x : DataW H × List MemPlace} (hf : DataW.trod enc Tryd.prog W 0 (fun _ => true) true fuel 22 cs = some x) (hw : ∀ k ∈ x.1.weights Tryd.prog 22, k ≤ reachBytes) :
    ∃ v Ls, cs = [v] ∧ SeesBB W v Ls ∧ (∀ L ∈ Ls, L.length ≤ 140737488355328) ∧ Ls.length ≤ 8796093022208 := by
  rcases Go.Deep.open_slice1 uBB cell1_B hf with ⟨h1, hx⟩ | ⟨a, len, cap, m, n, V, D, Pl, h1, _, hlc, hcm, hm, hxx, hx⟩
  · exact ⟨_, [], h1, ⟨none, 0, rfl, by simp, by unfold maxLen; omega, fun j hj => absurd hj (by simp)⟩, fun L hL => (by cases hL), by simp⟩
  · simp at hm
    subst hm
    subst hxx
    have key : ∀ i, i < len → ∃ L : List Nat, W.cell? (a.add i) = some (V i) ∧ SeesB W (V i) L ∧ L.length ≤ 140737488355328 := by
      intro i hi
      obtain ⟨k1, k2⟩ := hx i (by omega)
      obtain ⟨v, L, e, hs, hft, -⟩ := open_bytes k2
      simp at e
      subst e
      refine ⟨L, k1, hs, ?_⟩
      have := hft.room (fun k hk => hw k (by
        simp only [DataW.weights, uBB, List.mem_cons, List.mem_append]
        exact .inr (.inl (weights_all (d := D i) (List.mem_map.2 ⟨i, by simpa using hi, rfl⟩) k hk))))
      unfold reachBytes at this
      omega
    by_cases h0 : len = 0
    · subst h0
      exact ⟨_, [], h1, ⟨some a, m, rfl, by simp, hcm, fun j hj => absurd hj (by simp)⟩, fun L hL => (by cases hL), by simp⟩
    obtain ⟨F, hF⟩ : ∃ F : Nat → List Nat, ∀ i, i < len → W.cell? (a.add i) = some (V i) ∧ SeesB W (V i) (F i) ∧ (F i).length ≤ 140737488355328 := by
      refine ⟨fun i => if h : i < len then (key i h).choose else [], fun i hi => ?_⟩
      simp only [dif_pos hi]
      exact (key i hi).choose_spec
    obtain ⟨g, off, rfl, hg⟩ : ∃ g off, a = ⟨g, off, none⟩ ∧ g < W.heap.size := by
      have z0 := (hF 0 (by omega)).1
      have e : a.add 0 = a := by simp [Addr.add]
      rw [e] at z0
      exact spot_none z0
    refine ⟨_, (List.range len).map F, h1, ⟨some ⟨g, off, none⟩, m, by simp, by simpa using hlc, hcm, fun j hj => ?_⟩, fun L hL => ?_, ?_⟩
    · have hj' : j < len := by simpa using hj
      obtain ⟨y0, y1, -⟩ := hF j hj'
      rw [Addr.add_mid] at y0
      exact ⟨g, off, _, rfl, hg, y0, by simpa using y1⟩
    · obtain ⟨i, hi, rfl⟩ := List.mem_map.1 hL
      exact (hF i (by simpa using hi)).2.2
    · have := hw ((((List.range len).map D).length + ((List.range (m - len)).map fun j => D (len + j)).length) * Tryd.prog.bytesOf 31) (by simp [DataW.weights])
      rw [bytesB] at this
      simp only [List.length_map, List.length_range] at this ⊢
      unfold reachBytes at this
      omega
end
end Go.Proofs.YteoebmpfdcbbmaaDoor

namespace Go.Proofs.YteoebmpfdcbbmaaDoor
open Go.ChangeShapes Go.WideShapes Go.ChangeAt Go.RowKit Jn N
set_option maxHeartbeats 1000000
set_option maxRecDepth 100000

/-- A step. -/
structure Opn where
  k : Int
  v : Value
  r : List Nat
  vs : Value
  rs : List (List Nat)
  z : Int
def Opn.cells (q : Opn) : Array Value := #[.int .i64 q.k, q.v, q.vs, .int .i64 q.z]
structure Opn.Ok (w : World) (q : Opn) : Prop where
  v : SeesB w q.v q.r
  vs : SeesBB w q.vs q.rs
  lr : q.r.length ≤ 140737488355328
  ls : ∀ L ∈ q.rs, L.length ≤ 140737488355328
  ln : q.rs.length ≤ 8796093022208
  z : -9223372036854775808 ≤ q.z ∧ q.z < 9223372036854775808
def SeesO (w : World) (v : Value) (S : List Opn) : Prop :=
  ∃ ao cap, v = .slice ao S.length cap ∧ S.length ≤ cap ∧ cap ≤ maxLen ∧
    ∀ j (h : j < S.length), ∃ g off, ao = some ⟨g, off, none⟩ ∧ g < w.heap.size ∧ w.cell? ⟨g, off + j * 4, none⟩ = some (.int .i64 S[j].k) ∧ w.cell? ⟨g, off + j * 4 + 1, none⟩ = some S[j].v ∧ w.cell? ⟨g, off + j * 4 + 2, none⟩ = some S[j].vs ∧ w.cell? ⟨g, off + j * 4 + 3, none⟩ = some (.int .i64 S[j].z)
theorem cellsOp : Tryd.prog.cellsOf 52 = 4 := by kernel_rfl
theorem cellsInt : Tryd.prog.cellsOf 3 = 1 := by kernel_rfl
theorem cellsBs : Tryd.prog.cellsOf 31 = 1 := by kernel_rfl
theorem cellsBB : Tryd.prog.cellsOf 22 = 1 := by kernel_rfl
theorem bytesOp : Tryd.prog.bytesOf 52 = 64 := by kernel_rfl
theorem i64_wf {a : Int} (h : (Lit.int .i64 a).wf = true) : -9223372036854775808 ≤ a ∧ a < 9223372036854775808 := by
  have h' : (decide (IntKind.i64.min ≤ a) && decide (a ≤ IntKind.i64.max)) = true := h
  rw [show IntKind.i64.min = -9223372036854775808 from by decide +kernel, show IntKind.i64.max = 9223372036854775807 from by decide +kernel] at h'
  simp at h'
  omega
theorem add_plain (g off i : Nat) : (⟨g, off, none⟩ : Addr).add i = ⟨g, off + i, none⟩ := by simp [Addr.add]

section
variable {H : Type} {enc : TypeId × Value → H} {W : World}
theorem open_op {fuel : Nat} {cs : List Value} {x : DataW H × List MemPlace} (h : DataW.trod enc Tryd.prog W 0 (fun _ => true) true fuel 52 cs = some x) (hw : ∀ k ∈ x.1.weights Tryd.prog 52, k ≤ reachBytes) :
    ∃ q : Opn, q.Ok W ∧ cs = q.cells.toList := by
  obtain ⟨xs, n, _, rfl, hl, hxl, hff⟩ := DataW.trod_struct Tryd.underlying52 h
  rw [cellsOp] at hl
  match xs, hxl, cs, hl with
  | [y0, y1, y2, y3], _, [v0, v1, v2, v3], _ =>
    have g0 := hff 0 _ rfl
    have g1 := hff 1 _ rfl
    have g2 := hff 2 _ rfl
    have g3 := hff 3 _ rfl
    simp [cellsInt, cellsBs, cellsBB] at g0 g1 g2 g3
    obtain ⟨n0, e0, _, w0⟩ := DataW.trod_int Tryd.underlying3 g0
    obtain ⟨n3, e3, _, w3⟩ := DataW.trod_int Tryd.underlying3 g3
    obtain ⟨b1, L1, e1, hs1, hf1, _⟩ := open_bytes g1
    obtain ⟨b2, L2, e2, hs2, hl2, hn2⟩ := open_bssL g2 (fun k hk => hw k (by
      simp only [DataW.weights, Tryd.underlying52]
      exact DataW.weights_mem_each (j := 2) (t := 22) (d := y2.1) (by simp) rfl _ hk))
    have hr := hf1.room (fun k hk => hw k (by
      simp only [DataW.weights, Tryd.underlying52]
      exact DataW.weights_mem_each (j := 1) (t := 31) (d := y1.1) (by simp) rfl _ hk))
    unfold reachBytes at hr
    simp at e0 e1 e2 e3
    subst e0 e1 e2 e3
    exact ⟨⟨n0, v1, L1, v2, L2, n3⟩, ⟨hs1, hs2, by show L1.length ≤ _; omega, hl2, hn2, i64_wf w3⟩, rfl⟩

theorem open_os {base : Nat} {v : Value} {d : DataW H} {ps : List MemPlace} (hval : Value.okWide Tryd.prog W .any base 50 v) (h : DataW.Trod enc Tryd.prog W 0 (fun _ => true) true 50 v d ps) (hw : ∀ x ∈ d.weights Tryd.prog 50, x ≤ reachBytes) :
    ∃ S : List Opn, SeesO W v S ∧ (∀ q ∈ S, q.Ok W) ∧ S.length * 64 ≤ 140737488351232 := by
  obtain ⟨a0, len, cap, rfl⟩ := okWide_slice Tryd.underlying50 hval
  obtain ⟨fuel, hf⟩ := h
  rcases Go.Deep.open_slice Tryd.underlying50 hf with ⟨h1, _⟩ | ⟨a, len', cap', m, n, D, Pl, h1, _, hlc, hcm, hm, hxx, hx⟩
  · simp [Value.cells] at h1
    obtain ⟨rfl, rfl, rfl⟩ := h1
    exact ⟨[], ⟨none, 0, rfl, by simp, by unfold maxLen; omega, fun j hj => absurd hj (by simp)⟩, (fun o ho => by cases ho), by simp⟩
  · simp [Value.cells] at h1
    obtain ⟨rfl, rfl, rfl⟩ := h1
    simp at hm
    subst hm
    simp only [Prod.mk.injEq] at hxx
    obtain ⟨rfl, _⟩ := hxx
    have hbig : len * 64 ≤ 140737488351232 := by
      have := hw ((((List.range len).map D).length + ((List.range (m - len)).map fun j => D (len + j)).length) * Tryd.prog.bytesOf 52) (by simp [DataW.weights, Tryd.underlying50])
      rw [bytesOp] at this
      simp only [List.length_map, List.length_range] at this
      unfold reachBytes at this
      omega
    have key : ∀ i, i < len → ∃ q : Opn, q.Ok W ∧ ∀ j (hj : j < 4), W.cell? ((a.add (i * 4)).add j) = q.cells[j]? := by
      intro i hi
      obtain ⟨cs', k1, k2⟩ := hx i (by omega)
      rw [cellsOp] at k1
      obtain ⟨_, hlen, hc⟩ := World.cells?_some k1
      obtain ⟨q, hq, hcs⟩ := open_op k2 (fun k hk => hw k (by
        simp only [DataW.weights, Tryd.underlying50, List.mem_cons, List.mem_append]
        exact .inr (.inl (weights_all (d := D i) (List.mem_map.2 ⟨i, by simpa using hi, rfl⟩) k hk))))
      refine ⟨q, hq, fun j hj => ?_⟩
      rw [hc j (by omega), hcs]
      simp
    by_cases h0 : len = 0
    · subst h0
      exact ⟨[], ⟨some a, m, rfl, by simp, hcm, fun j hj => absurd hj (by simp)⟩, (fun o ho => by cases ho), by simp⟩
    obtain ⟨c0, _⟩ := key 0 (by omega)
    obtain ⟨F, hF⟩ : ∃ F : Nat → Opn, ∀ i, i < len → (F i).Ok W ∧ ∀ j (hj : j < 4), W.cell? ((a.add (i * 4)).add j) = (F i).cells[j]? := by
      refine ⟨fun i => if h : i < len then (key i h).choose else c0, fun i hi => ?_⟩
      simp only [dif_pos hi]
      exact (key i hi).choose_spec
    obtain ⟨g, off, rfl, hg⟩ : ∃ g off, a = ⟨g, off, none⟩ ∧ g < W.heap.size := by
      have z0 := (hF 0 (by omega)).2 0 (by omega)
      have e : (a.add (0 * 4)).add 0 = a := by simp [Addr.add]
      rw [e] at z0
      exact spot_none (z0.trans (by rfl))
    refine ⟨(List.range len).map F, ⟨some ⟨g, off, none⟩, m, by simp, by simpa using hlc, hcm, fun j hj => ?_⟩, fun o ho => ?_, by simpa using hbig⟩
    · have hj' : j < len := by simpa using hj
      simp only [List.getElem_map, List.getElem_range]
      have hh := (hF j hj').2
      simp only [add_plain] at hh
      exact ⟨g, off, rfl, hg, hh 0 (by omega), hh 1 (by omega), hh 2 (by omega), hh 3 (by omega)⟩
    · obtain ⟨i, hi, rfl⟩ := List.mem_map.1 ho
      exact (hF i (by simpa using hi)).1
end
end Go.Proofs.YteoebmpfdcbbmaaDoor

namespace Go.Proofs.YteoebmpfdcbbmaaDoor
open Go.ChangeShapes Go.WideShapes Go.ChangeAt Go.RowKit Jn N
set_option maxHeartbeats 16000000
set_option maxRecDepth 100000

theorem tell_none {w u : World} {S : Nat → Prop} {p : Nat} {l : Lg} {q : Nat} {R : List (List Nat)} {P : Pts} {N : Nat} (h : Tst w u S p l q R P N) {v vs : Value} {kd z : Int} (hv : ∃ a n c, v = .slice a n c) (hvs : ∃ a n c, vs = .slice a n c) (k1 : kd ≠ 1) (k2 : kd ≠ 2) (k3 : kd ≠ 3) :
    Calls Tryd.prog 26 #[.pointer (some ⟨q, 0, none⟩), .pointer (some ⟨p, 0, none⟩), .agg (opv kd v vs z)] u fun e u' => e = .returned (.bool true) ∧ ∃ S' l' R' P', Tst w u' S' p l' q R' P' (N + 1) := by
  obtain ⟨u0, hu0⟩ : ∃ u0, u0 = u.alloc (.cells (opv kd v vs z) 52) := ⟨_, rfl⟩
  have hb0 : Below u.heap.size u u0 := by rw [hu0]; exact (Below.refl _ _).alloc (Nat.le_refl _) _
  have hr0 : u0.heap[u.heap.size]? = some (.cells (opv kd v vs z) 52 (0, 0)) := by rw [hu0]; exact heap_alloc_new u _
  unfold opv at hr0 hu0 ⊢
  have H0 := h.below hb0
  obtain ⟨vs1, vs2, vs3, rfl⟩ := hvs
  obtain ⟨av, nv, cv, rfl⟩ := hv
  have HU0 := hid hu0
  have z0 : u0.cell? ⟨u.heap.size, 0, none⟩ = some (.int .i64 kd) := by rw [cell_of_row _ _ _ _ _ _ hr0]; rfl
  have hbl' : u.heap.size < u0.heap.size := (Array.getElem?_eq_some_iff.1 hr0).1
  obtain ⟨b, hbb⟩ : ∃ b, b = u.heap.size := ⟨_, rfl⟩
  have HBB := hid hbb
  rw [← hbb] at z0 hbl'
  have HTS := hid H0
  have b1 : (kd == 1) = false := by simp [k1]
  have b2 : (kd == 2) = false := by simp [k2]
  have b3 : (kd == 3) = false := by simp [k3]
  clear h hu0 hr0 hb0 H0 hbb
  go_enter Tryd.func26, Tryd.ntmps26
  go_upto_region 1 with fail
  rw [← HU0.out, ← HBB.out]
  have hJ := HTS.out.jr
  obtain ⟨ls, HLS⟩ : ∃ ls, ls = l.size := ⟨_, rfl⟩
  obtain ⟨ds, HDS⟩ : ∃ ds, ds = dirt l.ws := ⟨_, rfl⟩
  have HSZ : ∀ t : Beh u0, Hid (Calls Tryd.prog 18 #[.pointer (some ⟨p, 0, none⟩)] t.wd fun e w' => e = .returned (.int .i64 (ls : Int)) ∧ ∃ t' : Beh u0, w' = t'.wd) := fun t => (size_any _ p l t.wd (hJ.log.below t.ok)).mono (fun _ _ ⟨a, b⟩ => ⟨by rw [a, HLS], t, b⟩)
  have HDI : ∀ t : Beh u0, Hid (Calls Tryd.prog 21 #[.pointer (some ⟨p, 0, none⟩)] t.wd fun e w' => e = .returned (.int .i64 (ds : Int)) ∧ ∃ t' : Beh u0, w' = t'.wd) := fun t => (dirty_any _ p l t.wd (hJ.log.below t.ok)).mono (fun _ _ ⟨a, b⟩ => ⟨by rw [a, HDS], t, b⟩)
  have hc3 : ∀ t : Beh u0, t.wd.cell? ⟨q, 3, none⟩ = some (.int .i64 (ls : Int)) := fun t => by
    obtain ⟨C, vG, vP, vR, Gs, X, Gc, h1, -⟩ := HTS.out.below t.ok
    rw [HLS]
    exact (ta_cells h1.row).2.2.2.1
  have hc4 : ∀ t : Beh u0, t.wd.cell? ⟨q, 4, none⟩ = some (.int .i64 (ds : Int)) := fun t => by
    obtain ⟨C, vG, vP, vR, Gs, X, Gc, h1, -⟩ := HTS.out.below t.ok
    rw [HDS]
    exact (ta_cells h1.row).2.2.2.2.1
  clear hJ HLS HDS
  go_upto_region 36 with fail
  refine wp_region_beh (by kernel_rfl) (by kernel_rfl) ?_
  repeat (go_big_quiet_step (first | (go_at_call 18; exact (HSZ _).out) | (go_at_call 21; exact (HDI _).out)))
  refine wpQuiet_nil ?_
  rintro _ ⟨t, rfl⟩
  go_wp2_with fail
  go_ret
  exact ⟨rfl, _, _, _, _, (HTS.out.below t.ok).more (by omega)⟩

theorem tell_sync {w u : World} {S : Nat → Prop} {p : Nat} {l : Lg} {q : Nat} {R : List (List Nat)} {P : Pts} {N : Nat} (h : Tst w u S p l q R P N) {v vs : Value} {z : Int} (hv : ∃ a n c, v = .slice a n c) (hvs : ∃ a n c, vs = .slice a n c) (hN : N + 1 ≤ 2500000000000) :
    Calls Tryd.prog 26 #[.pointer (some ⟨q, 0, none⟩), .pointer (some ⟨p, 0, none⟩), .agg (opv 3 v vs z)] u fun e u' => e = .returned (.bool true) ∧ ∃ S' l' R' P', Tst w u' S' p l' q R' P' (N + 1) := by
  obtain ⟨u0, hu0⟩ : ∃ u0, u0 = u.alloc (.cells (opv 3 v vs z) 52) := ⟨_, rfl⟩
  have hb0 : Below u.heap.size u u0 := by rw [hu0]; exact (Below.refl _ _).alloc (Nat.le_refl _) _
  have hr0 : u0.heap[u.heap.size]? = some (.cells (opv 3 v vs z) 52 (0, 0)) := by rw [hu0]; exact heap_alloc_new u _
  unfold opv at hr0 hu0 ⊢
  have H0 := h.below hb0
  obtain ⟨vs1, vs2, vs3, rfl⟩ := hvs
  obtain ⟨av, nv, cv, rfl⟩ := hv
  have HU0 := hid hu0
  have z0 : u0.cell? ⟨u.heap.size, 0, none⟩ = some (.int .i64 3) := by rw [cell_of_row _ _ _ _ _ _ hr0]; rfl
  have hbl' : u.heap.size < u0.heap.size := (Array.getElem?_eq_some_iff.1 hr0).1
  obtain ⟨b, hbb⟩ : ∃ b, b = u.heap.size := ⟨_, rfl⟩
  have HBB := hid hbb
  rw [← hbb] at z0 hbl'
  have HSY := hid (sync_any S p l u0 H0.jr.log H0.jr.ok (by have := h.ws; omega))
  have HH := hid H0
  clear h hu0 hr0 hb0 H0 hbb
  go_enter Tryd.func26, Tryd.ntmps26
  go_upto_region 1 with fail
  rw [← HU0.out, ← HBB.out]
  go_wp2_with fail
  refine HSY.out.mono ?_
  rintro _ u1 ⟨rfl, hl1⟩
  obtain ⟨C, vG, vP, vR, Gs, X, Gc, hX0, hset, hgl, hTl, bX, bG, bW⟩ := HH.out
  have hX1 := hX0.left hl1
  obtain ⟨S1, hS1⟩ : ∃ S1, S1 = NewS S u0.heap.size u1 := ⟨_, rfl⟩
  rw [← hS1] at hX1
  obtain ⟨-, c1, -, -, c4, cf⟩ := ta_cells hX1.row
  have hql := hX1.lt.1
  have HNO := hid (note_some hX1.noPts hgl (by simp) (by omega))
  have HEND : Hid (∀ u2 vG' vP' Gs' X', TaX w u2 S1 p l.syn q C vG' vP' vR Gs' X' Gc R ([] ++ [(0, R)]) l.size 0 → Gs'[Gc.length]? = some vR → Gs'.length = Gc.length + 1 → X'.length = ([] : List Pt3).length + 1 → Tst w u2 S1 p l.syn q R [(0, R)] (N + 1)) := by
    intro u2 vG' vP' Gs' X' h1 h2 h3 h4
    exact ⟨C, vG', vP', vR, Gs', X', Gc, h1, h2, h3, hTl.syn, by rw [h4]; simp, by omega, Nat.zero_le _⟩
  clear hX0 hl1 hX1 hS1 hset hgl hTl bX bG bW HH HSY
  go_wp2_with fail
  refine HNO.out.mono ?_
  rintro _ u2 ⟨rfl, vG', vP', Gs', X', h1, h2, h3, h4⟩
  have HTS := hid (HEND.out u2 _ _ _ _ h1 h2 h3 h4)
  clear h1 h2 h3 h4 HNO HEND
  have hJ := HTS.out.jr
  obtain ⟨ls, HLS⟩ : ∃ ls, ls = l.syn.size := ⟨_, rfl⟩
  obtain ⟨ds, HDS⟩ : ∃ ds, ds = dirt l.syn.ws := ⟨_, rfl⟩
  have HSZ : ∀ t : Beh u2, Hid (Calls Tryd.prog 18 #[.pointer (some ⟨p, 0, none⟩)] t.wd fun e w' => e = .returned (.int .i64 (ls : Int)) ∧ ∃ t' : Beh u2, w' = t'.wd) := fun t => (size_any _ p l.syn t.wd (hJ.log.below t.ok)).mono (fun _ _ ⟨a, b⟩ => ⟨by rw [a, HLS], t, b⟩)
  have HDI : ∀ t : Beh u2, Hid (Calls Tryd.prog 21 #[.pointer (some ⟨p, 0, none⟩)] t.wd fun e w' => e = .returned (.int .i64 (ds : Int)) ∧ ∃ t' : Beh u2, w' = t'.wd) := fun t => (dirty_any _ p l.syn t.wd (hJ.log.below t.ok)).mono (fun _ _ ⟨a, b⟩ => ⟨by rw [a, HDS], t, b⟩)
  have hc3 : ∀ t : Beh u2, t.wd.cell? ⟨q, 3, none⟩ = some (.int .i64 (ls : Int)) := fun t => by
    obtain ⟨C, vG, vP, vR, Gs, X, Gc, h1, -⟩ := HTS.out.below t.ok
    rw [HLS]
    exact (ta_cells h1.row).2.2.2.1
  have hc4 : ∀ t : Beh u2, t.wd.cell? ⟨q, 4, none⟩ = some (.int .i64 (ds : Int)) := fun t => by
    obtain ⟨C, vG, vP, vR, Gs, X, Gc, h1, -⟩ := HTS.out.below t.ok
    rw [HDS]
    exact (ta_cells h1.row).2.2.2.2.1
  clear hJ HLS HDS
  go_upto_region 36 with fail
  refine wp_region_beh (by kernel_rfl) (by kernel_rfl) ?_
  repeat (go_big_quiet_step (first | (go_at_call 18; exact (HSZ _).out) | (go_at_call 21; exact (HDI _).out)))
  refine wpQuiet_nil ?_
  rintro _ ⟨t, rfl⟩
  go_wp2_with fail
  go_ret
  exact ⟨rfl, _, _, _, _, HTS.out.below t.ok⟩
end Go.Proofs.YteoebmpfdcbbmaaDoor

namespace Go.Proofs.YteoebmpfdcbbmaaDoor
open Go.ChangeShapes Go.WideShapes Go.ChangeAt Go.RowKit Jn N
set_option maxHeartbeats 4000000
set_option maxRecDepth 100000

theorem note_none {w uB : World} {S : Nat → Prop} {p : Nat} {l : Lg} {q : Nat} {C : Nat → Prop} {vG vP vR : Value} {X : List Pt3} {R : List (List Nat)} {P : Pts} {sz wr : Nat} (hB : TaX w uB S p l q C vG vP vR [] X [] R P sz wr) (bX : X.length + 1 ≤ 4000000000000) :
    Calls Tryd.prog 25 #[.pointer (some ⟨q, 0, none⟩)] uB fun e u' => e = .returned (.tuple #[]) ∧ ∃ vG' vP' Gs' X', TaX w u' S p l q C vG' vP' vR Gs' X' [] R (P ++ [(wr, R)]) sz wr ∧ Gs'[([] : List (List (List Nat))).length]? = some vR ∧ Gs'.length = ([] : List (List (List Nat))).length + 1 ∧ X'.length = X.length + 1 := by
  obtain ⟨aB, cB, rfl, -, -⟩ := row_shape hB.fg
  obtain ⟨b0, b1, b2, b3, b4, bf⟩ := ta_cells hB.row
  have hbB : Below uB.heap.size uB (uB.alloc (.cells #[.slice none 0 0] 22)) := (Below.refl _ _).alloc (Nat.le_refl _) _
  obtain ⟨iG, hiG, hy0, hy1, hy2⟩ := info_parts infoG
  obtain ⟨gA, cA, wA, hapA, hoA, hgA, hatA, hltA⟩ := run_append_lies (P := Tryd.prog) (w := uB.alloc (.cells #[.slice none 0 0] 22)) 54 54 w.heap.size 22 iG _ 1 24 uG hiG hy0 hy1 hy2 rfl (by decide) _ 0 [] (hB.below hbB).fg ⟨uB.heap.size, 0, none⟩ 1 1 [.slice none 0 0] rfl (World.news_of_block (heap_alloc_new _ _)) (by simp [Value.oneCell']) (by decide) (by unfold maxLen; omega) (by omega) ((hB.below hbB).jr.be.size) _ rfl
  have hrA : wA.heap[q]? = some (taRow (.slice aB 0 cB) vP vR sz wr) := (hgA.block q (Nat.lt_of_lt_of_le hB.lt.1 hbB.size) (fun e => hB.ne.1 e.symm)).trans (hB.below hbB).row
  obtain ⟨a0, -, -, -, -, af⟩ := ta_cells hrA
  have hqA := (Array.getElem?_eq_some_iff.1 hrA).1
  have h := hB.gen0 hbB hoA hgA (hatA.imp id (fun e => Nat.le_of_eq e.symm))
  have HAPA := hid hapA
  obtain ⟨u, hu⟩ : ∃ u, u = wA.setCell ⟨q, 0, none⟩ (.slice (some ⟨gA, 0, none⟩) (0 + 1) cA) := ⟨_, rfl⟩
  rw [← hu] at h
  have HU := hid hu
  have hqlB := hB.lt.1
  have hgl : [Value.slice none 0 0].length = ([] : List (List (List Nat))).length + 1 := rfl
  have bG : [Value.slice none 0 0].length ≤ 4000000000000 := by simp
  clear hu hapA hoA hgA hatA hltA hrA hbB hiG hy0 hy1 hy2
  obtain ⟨VG, hVG⟩ : ∃ VG, VG = Value.slice (some ⟨gA, 0, none⟩) (0 + 1) cA := ⟨_, rfl⟩
  rw [← hVG] at h
  clear hVG
  obtain ⟨Gs, hGs⟩ : ∃ Gs : List Value, Gs = [.slice none 0 0] := ⟨_, rfl⟩
  obtain ⟨Gc, hGc⟩ : ∃ Gc : List (List (List Nat)), Gc = [] := ⟨_, rfl⟩
  rw [← hGs] at h hgl bG
  rw [← hGc] at h hgl ⊢
  clear hB
  obtain ⟨k, hk⟩ : ∃ k, k = Gc.length := ⟨_, rfl⟩
  obtain ⟨ag, cg, rfl, hcg1, hcg2⟩ := row_shape h.fg
  obtain ⟨y, hy⟩ : ∃ y, Gs[k]? = some y := ⟨_, List.getElem?_eq_getElem (by omega)⟩
  obtain ⟨g, rfl, hgB, hgl', hgf, hgc⟩ := row_cell h.fg hy
  obtain ⟨ay, ny, cy, rfl⟩ := h.sl _ (List.mem_of_getElem? hy)
  obtain ⟨H0, hset⟩ := h.setGen hgl
  have H1 := H0.below (below_drew (Below.refl _ _))
  rw [← hk] at H1 hset
  clear H0
  obtain ⟨ap, cp, rfl, hcp1, hcp2⟩ := row_shape h.fp
  obtain ⟨ar, nr, cr, rfl, HNR, hcr1, hcr2⟩ := h.fr.sees.shape
  obtain ⟨c0, c1, c2, c3, c4, cf⟩ := ta_cells h.row
  obtain ⟨d0, d1, d2, d3, d4, df⟩ := ta_cells H1.row
  obtain ⟨u1, hu1⟩ : ∃ u1, u1 = (u.setCell ⟨g, k, none⟩ (.slice ar nr cr)).drew := ⟨_, rfl⟩
  rw [← hu1] at H1 d0 d1 d2 d3 d4 df
  have HU1 := hid hu1
  obtain ⟨n, hn⟩ : ∃ n, n = Gs.length := ⟨_, rfl⟩
  rw [← hn] at hgl bG hcg1 c0 d0
  obtain ⟨m, hm⟩ : ∃ m, m = X.length := ⟨_, rfl⟩
  obtain ⟨W, HW⟩ : ∃ W, Hid (W = (u1.alloc (.cells #[.int .i64 (k : Int), .int .i64 (nr : Int), .int .i64 (wr : Int)] 59)).drew) := ⟨_, rfl⟩
  have hbW : Below u1.heap.size u1 W := by rw [HW.out]; exact below_drew ((Below.refl _ _).alloc (Nat.le_refl _) _)
  have HNEW : Hid (∀ (i : Nat) x, [Value.int .i64 (k : Int), .int .i64 (nr : Int), .int .i64 (wr : Int)][i]? = some x → W.cell? ((⟨u1.heap.size, 0, none⟩ : Addr).add i) = some x) := by
    have h1 : W.heap[u1.heap.size]? = some (.cells #[.int .i64 (k : Int), .int .i64 (nr : Int), .int .i64 (wr : Int)] 59 (0, 0)) := by rw [HW.out]; exact heap_alloc_new u1 _
    exact World.news_of_block h1
  have hsW : W.heap.size = u1.heap.size + 1 := by rw [HW.out]; exact World.size_alloc _ _
  obtain ⟨i0, hi0, hz0, hz1, hz2⟩ := info_parts infoPt
  have HI := hid hi0
  have hC3 : m + 1 ≤ maxLen := by unfold maxLen; omega
  have hC : (m + 1) * 24 ≤ 140737488355328 := by omega
  have hC4 : w.heap.size ≤ W.heap.size := (H1.below hbW).jr.be.size
  have HOWN : Hid (W.ownsRow w.heap.size 59 3 (.slice ap m cp) m (X.flatMap ptc)) := by rw [hm]; exact (H1.below hbW).fp
  have hnr : nr = R.length := HNR.out
  have HFIN : Hid (∀ (w6 : World) (g6 cap6 : Nat), w6.ownsRow w.heap.size 59 3 (.slice (some ⟨g6, 0, none⟩) (m + 1) cap6) (m + 1) (X.flatMap ptc ++ [.int .i64 (k : Int), .int .i64 (nr : Int), .int .i64 (wr : Int)]) → W.grownBy w6 (Value.ownBlock (.slice ap m cp)) → (Value.ownBlock (.slice ap m cp) = some g6 ∨ g6 = u1.heap.size + 1) → TaX w (w6.setCell ⟨q, 1, none⟩ (.slice (some ⟨g6, 0, none⟩) (m + 1) cap6)) S p l q C (.slice (some ⟨g, 0, none⟩) n cg) (.slice (some ⟨g6, 0, none⟩) (m + 1) cap6) (.slice ar nr cr) (Gs.set k (.slice ar nr cr)) (X ++ [⟨Gc.length, R.length, wr⟩]) Gc R (P ++ [(wr, R)]) sz wr) := by
    intro w6 g6 cap6 ho6 hg6 hat6
    rw [hn]
    rw [hm] at ho6 hg6 hat6 ⊢
    refine H1.point hbW ?_ hg6 (hat6.imp id (fun e => by omega))
    rw [List.length_append, List.flatMap_append, ← hnr, ← hk]
    exact ho6
  have HROW : Hid (∀ (w6 : World), W.grownBy w6 (Value.ownBlock (.slice ap m cp)) → w6.heap[q]? = some (taRow (.slice (some ⟨g, 0, none⟩) n cg) (.slice ap m cp) (.slice ar nr cr) sz wr)) := fun w6 hg6 => by
    rw [hn]
    rw [hm] at hg6 ⊢
    exact (hg6.block q (Nat.lt_of_lt_of_le H1.lt.1 hbW.size) (fun e => H1.ne.2.1 e.symm)).trans (H1.below hbW).row
  rw [← hm] at c1 d1
  have HSET : Hid ((Gs.set k (.slice ar nr cr))[Gc.length]? = some (.slice ar nr cr)) := by rw [hk] at hset; rw [hk]; exact hset
  have HLEN : Hid ((Gs.set k (.slice ar nr cr)).length = Gc.length + 1) := by unfold Hid; rw [List.length_set]; omega
  have HXL : Hid ((X ++ [(⟨Gc.length, R.length, wr⟩ : Pt3)]).length = X.length + 1) := by unfold Hid; simp
  have hql := h.lt.1
  have hql1 := H1.lt.1
  have hkn : k < n := by omega
  have hnk : (n : Int) - 1 = (k : Int) := by omega
  clear hGs hGc h H1 hset hu1 hn hm hi0 hnr hy hk hgl HNR hbW
  go_enter Tryd.func25, Tryd.ntmps25
  go_upto_region 2 with (at_builtin; refine wpList_append_run _ rfl _ _ 54 54 rfl _ _ rfl rfl HAPA.out ?_)
  rw [← HU.out]
  go_upto_region 3 with fail
  refine wp_region_still_tail 10 (by kernel_rfl) (by kernel_rfl) ?_
  simp only [List.take_succ_cons, List.take_zero, List.drop_succ_cons, List.drop_zero]
  iterate 10 still_step
  refine wpStill_nil ?_
  go_upto_region 4 with fail
  rw [← HU1.out]
  go_region_law (first
    | (rw [← HW.out]; refine step_append_lies _ (by rfl) _ _ _ (by rfl) w.heap.size 59 i0 (.agg #[.int .i64 0, .int .i64 0, .int .i64 0]) 3 24 (by kernel_rfl) HI.out hz0 hz1 hz2 rfl (by omega) (.slice ap m cp) m (X.flatMap ptc) (by rfl) HOWN.out ⟨u1.heap.size, 0, none⟩ 1 1 [.int .i64 (k : Int), .int .i64 (nr : Int), .int .i64 (wr : Int)] (by rfl) (by rfl) HNEW.out (by simp [Value.oneCell']) (by omega) hC3 hC hC4 (u1.heap.size + 1) hsW ?_; intro g6 cap6 w6 hown6 hgrow hat6 hlt6; obtain ⟨-, k1, -, -, -, kf⟩ := ta_cells (HROW.out w6 hgrow))
    | fail)
  all_goals (
    have HE := hid (HFIN.out w6 g6 cap6 hown6 hgrow hat6)
    clear hown6 hgrow hat6 hlt6
    go_wp2_with fail
    exact bodyPost_end (results_none Tryd.results25 _ _ _) rfl ⟨rfl, _, _, _, _, HE.out, HSET.out, HLEN.out, HXL.out⟩)
end Go.Proofs.YteoebmpfdcbbmaaDoor

namespace Go.Proofs.YteoebmpfdcbbmaaDoor
open Go.ChangeShapes Go.WideShapes Go.ChangeAt Go.RowKit Jn N
set_option maxHeartbeats 4000000
set_option maxRecDepth 100000

theorem own_one {w : World} {B g k : Nat} {T : TypeId} {cs : List Value} (h : w.heap[g]? = some (.cells cs.toArray T (0, 0))) (hB : B ≤ g) (hl : cs.length = k) : w.ownsRow B T k (.slice (some ⟨g, 0, none⟩) 1 1) 1 cs :=
  ⟨by omega, .inr ⟨g, 1, cs.toArray, rfl, hB, h, Nat.le_refl _, by unfold maxLen; omega, by simp [hl], by rw [Nat.one_mul, ← hl]; simp⟩⟩
theorem TaX.start {w u : World} {S : Nat → Prop} {p : Nat} {l : Lg} {q gG gP : Nat} (hJ : Jr w u S p l) (bG : u.heap[gG]? = some (.cells #[.slice none 0 0] 22 (0, 0))) (bq : u.heap[q]? = some (taRow (.slice (some ⟨gG, 0, none⟩) 1 1) (.slice (some ⟨gP, 0, none⟩) 1 1) (.slice none 0 0) 16 16)) (bP : u.heap[gP]? = some (.cells #[.int .i64 0, .int .i64 0, .int .i64 0] 59 (0, 0)))
    (lG : w.heap.size ≤ gG ∧ ¬ S gG) (lP : w.heap.size ≤ gP ∧ ¬ S gP) (lq : w.heap.size ≤ q ∧ ¬ S q) : TaX w u S p l q (fun _ => False) (.slice (some ⟨gG, 0, none⟩) 1 1) (.slice (some ⟨gP, 0, none⟩) 1 1) (.slice none 0 0) [.slice none 0 0] [⟨0, 0, 0⟩] [] [] [(0, [])] 16 16 := by
  refine ⟨hJ, bq, lq.1, own_one (cs := [.slice none 0 0]) bG lG.1 rfl, own_one (cs := [.int .i64 0, .int .i64 0, .int .i64 0]) bP lP.1 rfl, RecsF.nil _ _ _, fun j v L hv hL => by simp at hL, .inl rfl, ?_, ⟨rfl, fun i x pp hx hp => ?_⟩, fun _ e => e.elim, lq.2, fun k e => ?_, fun k e => ?_, fun k e => by simp [Value.ownBlock] at e⟩
  · intro y hy
    simp at hy; subst hy; exact ⟨_, _, _, rfl⟩
  · rcases i with _ | i
    · simp at hx hp
      subst hx hp
      exact ⟨rfl, [], rfl, Nat.le_refl _, rfl⟩
    · simp at hx
  · simp [Value.ownBlock] at e
    subst e; exact lG.2
  · simp [Value.ownBlock] at e
    subst e; exact lP.2
/-- A tale of what was opened. -/
theorem TaX.fresh {w u0 u1 u2 : World} {S : Nat → Prop} {Bd p q : Nat} {l : Lg} {v : Value} {R : List (List Nat)} {sz wr : Nat} (hO : Opened u0 u1 S Bd p v l R) (hw : Below w.heap.size w u0) (hb : Below u1.heap.size u1 u2) (hq : u1.heap.size ≤ q) (hr : u2.heap[q]? = some (taRow (.slice none 0 0) (.slice none 0 0) v sz wr)) :
    ∃ C, TaX w u2 S p l q C (.slice none 0 0) (.slice none 0 0) v [] [] [] R [] sz wr := by
  have hJ0 : Jr u0 u1 S p l := ⟨hO.be, hO.log, hO.ok, hO.lo⟩
  have hJ := (hJ0.since hw).below hb
  obtain ⟨Vs, h1, h2, h3⟩ := hO.recs
  have hSl : ∀ k, S k → k < u1.heap.size := hO.log.lt
  have hlt := fun k hk => World.ownsRow.lt h1 k hk
  refine ⟨fun k => ∃ (i : Nat) (x : Value) (r : List Nat) (g : Nat), Vs[i]? = some x ∧ R[i]? = some r ∧ x = .slice (some ⟨g, 0, none⟩) r.length r.length ∧ Bd ≤ g ∧ Blk u1 g 5 r ∧ k = g, hJ, hr, ?_, World.ownsRow_nil _ _ _ _, World.ownsRow_nil _ _ _ _, ⟨Vs, (h1.mono ?_).below hb, h2, fun i x r hx hr => ?_⟩, fun j v L hv => by simp at hv, .inr ⟨rfl, rfl⟩, fun y hy => by simp at hy, ⟨rfl, fun i x pp hx => by simp at hx⟩, fun k hk => ?_, fun e => ?_, fun k e => by simp [Value.ownBlock] at e, fun k e => by simp [Value.ownBlock] at e, fun k e hS => ?_⟩
  · have := hw.size
    have := hO.be.size
    omega
  · have := hw.size
    have := hO.bd
    omega
  · obtain ⟨g, e, hg, hbk, hy, hl⟩ := h3 i x r hx hr
    refine ⟨?_, fun a n c e' => ⟨i, x, r, g, hx, hr, e, hg, hbk, ?_⟩⟩
    · rw [e]
      exact (hbk.sees rfl hl hy).below hb
    · rw [e] at e'
      simp at e'
      obtain ⟨rfl, -⟩ := e'
      rfl
  · obtain ⟨i, x, r, g, hx, hr, e, hg, hbk, rfl⟩ := hk
    have h9 := hbk.lt
    have h10 := hb.size
    refine ⟨by omega, by omega, by simp [Value.ownBlock], by simp [Value.ownBlock], fun e' => ?_, fun hS => ?_⟩
    · exact h1.ne_of hbk (by decide) e'
    · have := hO.hi _ hS
      omega
  · have := hSl q e
    omega
  · have := (hlt k e).1
    have := hO.hi k hS
    omega
/-- The first point lies at the beginning. -/
theorem TaX.at0 {w u : World} {S : Nat → Prop} {p : Nat} {l : Lg} {q : Nat} {C : Nat → Prop} {vG vR : Value} {gP n c : Nat} {Gs : List Value} {X : List Pt3} {Gc : List (List (List Nat))} {R : List (List Nat)} {a : Nat} {sz wr : Nat} (h : TaX w u S p l q C vG (.slice (some ⟨gP, 0, none⟩) n c) vR Gs X Gc R [(a, R)] sz wr) :
    ∃ X', TaX w (u.setCell ⟨gP, 2, none⟩ (.int .i64 0)) S p l q C vG (.slice (some ⟨gP, 0, none⟩) n c) vR Gs X' Gc R [(0, R)] sz wr ∧ X'.length = 1 := by
  obtain ⟨m1, m2, m3, m4, m5, m6⟩ := h.ne
  obtain ⟨l1, l2, l3, l4⟩ := h.lt
  have hk : Keeps (At1 gP) u (u.setCell ⟨gP, 2, none⟩ (.int .i64 0)) := (Keeps.refl (At1 gP) u).set ⟨gP, 2, none⟩ rfl _
  obtain ⟨hj, hC⟩ := h.own hk (fun k e => .inr (.inr (.inl (by unfold At1 at e; rw [e]; rfl))))
  have hXl : X.length = 1 := by have := h.pk.1; simpa using this
  obtain ⟨x, rfl⟩ : ∃ x, X = [x] := by
    match X, hXl with
    | [x], _ => exact ⟨x, rfl⟩
  have hpq : gP ≠ q := fun e => m2 (by rw [← e]; rfl)
  obtain ⟨s1, L, s2, s3, s4⟩ := h.pk.2 0 x (a, R) rfl rfl
  have hfp := h.fp
  refine ⟨[⟨x.g, x.n, 0⟩], ⟨hj, (hk.block q l1 (fun e => hpq e.symm)).trans h.row, h.lq, row_keeps h.fg hk (fun j hj e => (m4 j hj).1 (by unfold At1 at e; rw [e]; rfl)), ?_, h.fr.keeps hk hC (fun j hj e => (m6 j hj).2 (by unfold At1 at e; rw [e]; rfl)), fun j v L hv hL => (h.cl j v L hv hL).keeps hk hC, h.gl, h.sl, ⟨rfl, fun i y pp hy hp => ?_⟩, fun k hc => ?_, h.sq, h.sg, h.sp, h.sr⟩, rfl⟩
  · rcases hfp.2 with ⟨e, _⟩ | ⟨g', cap', cur, e, hb, hg, hnc, hcm, hcs, ht⟩
    · cases e
    · simp at e
      obtain ⟨rfl, rfl, rfl⟩ := e
      have h2 := heap_setCell_same u gP 2 cur 59 (.int .i64 0) hg
      refine ⟨rfl, .inr ⟨gP, c, _, rfl, hb, h2, hnc, hcm, by simpa using hcs, ?_⟩⟩
      simp only [Array.toList_setIfInBounds, List.take_set]
      have ht' : cur.toList.take (1 * 3) = [x].flatMap ptc := ht
      rw [show ([({ g := x.g, n := x.n, a := 0 } : Pt3)]).length = 1 from rfl, ht']
      rfl
  · rcases i with _ | i
    · simp at hy hp
      subst hy hp
      exact ⟨rfl, L, s2, s3, s4⟩
    · simp at hy
  · obtain ⟨a1, a2⟩ := h.ap k hc
    exact ⟨Nat.lt_of_lt_of_le a1 hk.size, a2⟩

theorem begunT_any (w : World) (ht : TabN w) :
    Calls Tryd.prog 11 #[] w fun e w' => ∃ p q S l, e = .returned (.tuple #[.pointer (some ⟨p, 0, none⟩), .pointer (some ⟨q, 0, none⟩)]) ∧ Tst w w' S p l q [] [(0, [])] 1 := by
  have H1 : Hid (Calls Tryd.prog 16 #[.agg #[.slice none 0 0, .slice none 0 0]] w fun e w' => ∃ p v S Bd, e = .returned (.tuple #[.pointer (some ⟨p, 0, none⟩), v, .int .i64 0]) ∧ Opened w w' S Bd p v (opnL [] []) []) := by
    refine (open_any _ _ [] [] w (sees_nil _) (sees_nil _) ht).mono ?_
    rintro e w' ⟨-, h⟩
    obtain ⟨q1, q2, q3⟩ := opn_nil
    have := h q1
    rw [q3] at this
    exact this
  clear ht
  go_enter Tryd.func11, Tryd.ntmps11
  go_wp2_with fail
  refine H1.out.mono ?_
  rintro _ w1 ⟨p, v, S, Bd, rfl, hO⟩
  have HJ : Hid (Jr w w1 S p (opnL [] [])) := ⟨hO.be, hO.log, hO.ok, hO.lo⟩
  obtain ⟨av, nv, cv, rfl, -⟩ : ∃ a n c, v = .slice a n c ∧ True := by
    obtain ⟨a, n, c, e, -, -, -⟩ := hO.recs.sees.shape
    exact ⟨a, n, c, e, trivial⟩
  clear hO
  go_wp2_with fail
  refine bodyPost_ret (v := .tuple #[.pointer (some ⟨p, 0, none⟩), .pointer (some ⟨w1.heap.size + 1, 0, none⟩)]) (by simp [results, Tryd.results11, go_sem]) rfl ⟨p, _, S, opnL [] [], rfl, ?_⟩
  have hS : ∀ k, S k → k < w1.heap.size := HJ.out.log.lt
  have hw1 := HJ.out.be.size
  obtain ⟨o1, ho1⟩ : ∃ o1, o1 = Obj.cells #[Value.slice none 0 0] 22 := ⟨_, rfl⟩
  obtain ⟨o2, ho2⟩ : ∃ o2, o2 = Obj.cells #[Value.slice (some ⟨w1.heap.size, 0, none⟩) 1 1, .slice (some ⟨w1.heap.size + 1 + 1, 0, none⟩) 1 1, .slice none 0 0, .int .i64 16, .int .i64 16] 57 := ⟨_, rfl⟩
  obtain ⟨o3, ho3⟩ : ∃ o3, o3 = Obj.cells #[Value.int .i64 0, .int .i64 0, .int .i64 0] 59 := ⟨_, rfl⟩
  rw [← ho1, ← ho2, ← ho3]
  have z1 : (w1.alloc o1).heap.size = w1.heap.size + 1 := World.size_alloc _ _
  have z2 : ((w1.alloc o1).alloc o2).heap.size = w1.heap.size + 1 + 1 := by rw [World.size_alloc, z1]
  have r1 : (w1.alloc o1).heap[w1.heap.size]? = some o1 := heap_alloc_new w1 _
  have r2 : ((w1.alloc o1).alloc o2).heap[w1.heap.size + 1]? = some o2 := by rw [← z1]; exact heap_alloc_new _ _
  have r3 : (((w1.alloc o1).alloc o2).alloc o3).heap[w1.heap.size + 1 + 1]? = some o3 := by rw [← z2]; exact heap_alloc_new _ _
  have b1 : Below w1.heap.size w1 (w1.alloc o1) := (Below.refl _ _).alloc (Nat.le_refl _) _
  have b2 : Below (w1.alloc o1).heap.size (w1.alloc o1) ((w1.alloc o1).alloc o2) := (Below.refl _ _).alloc (Nat.le_refl _) _
  have b3 : Below ((w1.alloc o1).alloc o2).heap.size ((w1.alloc o1).alloc o2) (((w1.alloc o1).alloc o2).alloc o3) := (Below.refl _ _).alloc (Nat.le_refl _) _
  have r1' : (((w1.alloc o1).alloc o2).alloc o3).heap[w1.heap.size]? = some o1 := (b3.block _ (by omega)).trans ((b2.block _ (by omega)).trans r1)
  have r2' : (((w1.alloc o1).alloc o2).alloc o3).heap[w1.heap.size + 1]? = some o2 := (b3.block _ (by omega)).trans r2
  have hJ := ((HJ.out.below b1).below b2).below b3
  obtain ⟨-, e2, -⟩ := opn_nil
  have hTX := TaX.start hJ (by rw [r1', ho1]) (by rw [r2', ho2]; rfl) (by rw [r3, ho3]) ⟨hw1, fun e => by have := hS _ e; omega⟩ ⟨by omega, fun e => by have := hS _ e; omega⟩ ⟨by omega, fun e => by have := hS _ e; omega⟩
  have e3 : (opnL [] []).size = 16 := by rw [e2]; rfl
  have e4 : dirt (opnL [] []).ws = 16 := by rw [e2]; show dirt [⟨0, 0, gener 1 []⟩] = 16; simp [dirt, gener_len, baseL]
  refine ⟨_, _, _, _, _, _, _, by rw [e3, e4]; exact hTX, rfl, rfl, tl_first, by simp, by simp, ?_⟩
  rw [e2]
  exact Nat.le_refl _
end Go.Proofs.YteoebmpfdcbbmaaDoor

namespace Go.Proofs.YteoebmpfdcbbmaaDoor
open Go.ChangeShapes Go.WideShapes Go.ChangeAt Go.RowKit Jn N
set_option maxHeartbeats 16000000
set_option maxRecDepth 100000

theorem SeesO.below {w w' : World} {v : Value} {S : List Opn} (h : SeesO w v S) (hb : Below w.heap.size w w') : SeesO w' v S := by
  obtain ⟨ao, cap, hv, h1, h2, h3⟩ := h
  refine ⟨ao, cap, hv, h1, h2, fun j hj => ?_⟩
  obtain ⟨g, off, ha, hg, c0, c1, c2, c3⟩ := h3 j hj
  exact ⟨g, off, ha, Nat.lt_of_lt_of_le hg hb.size, (hb.cell (p := ⟨g, _, none⟩) hg).trans c0, (hb.cell (p := ⟨g, _, none⟩) hg).trans c1, (hb.cell (p := ⟨g, _, none⟩) hg).trans c2, (hb.cell (p := ⟨g, _, none⟩) hg).trans c3⟩
theorem SeesO.shape {w : World} {v : Value} {S : List Opn} (h : SeesO w v S) : ∃ a n c, v = .slice a n c ∧ Hid (n = S.length) ∧ n ≤ c ∧ c ≤ maxLen := by
  obtain ⟨ao, cap, hv, h1, h2, _⟩ := h
  exact ⟨ao, _, cap, hv, rfl, h1, h2⟩
theorem SeesO.at {w : World} {ao : Option Addr} {n cap : Nat} {S : List Opn} (h : SeesO w (.slice ao n cap) S) (j : Nat) (hj : j < n) : ∃ (g off : Nat) (o : Opn), ao = some ⟨g, off, none⟩ ∧ g < w.heap.size ∧ w.cell? ⟨g, off + j * 4, none⟩ = some (.int .i64 o.k) ∧ w.cell? ⟨g, off + j * 4 + 1, none⟩ = some o.v ∧ w.cell? ⟨g, off + j * 4 + 2, none⟩ = some o.vs ∧ w.cell? ⟨g, off + j * 4 + 3, none⟩ = some (.int .i64 o.z) ∧ Hid (S[j]? = some o) := by
  obtain ⟨ao', cap', hv, h1, h2, h3⟩ := h
  simp at hv
  obtain ⟨rfl, rfl, rfl⟩ := hv
  obtain ⟨g, off, a, b, c0, c1, c2, c3⟩ := h3 j hj
  exact ⟨g, off, S[j], a, b, c0, c1, c2, c3, List.getElem?_eq_getElem hj⟩
theorem Opn.Ok.below {w w' : World} {o : Opn} (h : o.Ok w) (hb : Below w.heap.size w w') : o.Ok w' := ⟨h.v.below hb, h.vs.below hb, h.lr, h.ls, h.ln, h.z⟩

theorem Tst.recs {w u : World} {S : Nat → Prop} {p : Nat} {l : Lg} {q : Nat} {R : List (List Nat)} {P : Pts} {N : Nat} (h : Tst w u S p l q R P N) : ∃ v, q < u.heap.size ∧ u.cell? ⟨q, 2, none⟩ = some v ∧ SeesBB u v R := by
  obtain ⟨C, vG, vP, vR, Gs, X, Gc, h1, -⟩ := h
  exact ⟨vR, h1.lt.1, (ta_cells h1.row).2.2.1, h1.fr.sees⟩
theorem Tst.at {w u : World} {S : Nat → Prop} {p : Nat} {l : Lg} {q : Nat} {R : List (List Nat)} {P : Pts} {N : Nat} (h : Tst w u S p l q R P N) (hN : N ≤ 2500000000000) (z : Int) (hz : -9223372036854775808 ≤ z ∧ z < 9223372036854775808) :
    Calls Tryd.prog 24 #[.pointer (some ⟨q, 0, none⟩), .int .i64 z] u fun e u' => ∃ v, e = .returned v ∧ SeesBB u' v (atP P z.toNat) ∧ Below u.heap.size u u' := by
  obtain ⟨C, vG, vP, vR, Gs, X, Gc, h1, h2, h3, h4, h5, h6, h7⟩ := h
  obtain ⟨P', a, hP⟩ := h4.ne
  exact at_any h1 h2 (by rw [hP]; simp) (by omega) z hz h4.po
end Go.Proofs.YteoebmpfdcbbmaaDoor

namespace Go.Proofs.YteoebmpfdcbbmaaDoor
open Go.ChangeShapes Go.WideShapes Go.ChangeAt Go.RowKit Jn N
set_option maxHeartbeats 16000000
set_option maxRecDepth 100000

theorem recovers_walk (v : Value) (Os : List Opn) (w : World) (hv : SeesO w v Os) (hok : ∀ o ∈ Os, o.Ok w) (hl : Os.length * 64 ≤ 140737488351232) (ht : TabN w)
    (htell : ∀ (w u : World) (S : Nat → Prop) (p : Nat) (l : Lg) (q : Nat) (R : List (List Nat)) (P : Pts) (N : Nat), Tst w u S p l q R P N → TabN w → ∀ o : Opn, o.Ok w → N + 1 ≤ 2500000000000 → Calls Tryd.prog 26 #[.pointer (some ⟨q, 0, none⟩), .pointer (some ⟨p, 0, none⟩), .agg (opv o.k o.v o.vs o.z)] u fun e u' => e = .returned (.bool true) ∧ ∃ S' l' R' P', Tst w u' S' p l' q R' P' (N + 1)) :
    Calls Tryd.prog 8 #[v] w fun e w' => e = .returned (.bool true) ∧ Below w.heap.size w w' := by
  obtain ⟨ao, n, cap, rfl, HN, hn1, hn2⟩ := hv.shape
  unfold maxLen at hn2
  have hn : n ≤ 2199023255488 := by have := HN.out; omega
  have HFI := hid (first_any w ht)
  have HV := hid hv
  have HOK := hid hok
  have HT := hid ht
  have HTELL := hid htell
  clear hv hok ht htell hl
  go_enter Tryd.func8, Tryd.ntmps8
  go_wp2_with fail
  refine HFI.out.mono ?_
  rintro _ u0 ⟨rfl, hb0⟩
  have HB0 := hid hb0
  have HV0 := hid (HV.out.below hb0)
  have HOK0 : Hid (∀ o ∈ Os, o.Ok u0) := fun o ho => (HOK.out o ho).below hb0
  have HT0 := hid (HT.out.below hb0 HT.out.2)
  have HBG := hid (begunT_any u0 HT0.out)
  clear hb0 HFI HV HOK HT
  go_wp2_with fail
  refine HBG.out.mono ?_
  rintro _ u1 ⟨p0, q0, S0, l0, rfl, hTs0⟩
  have HS0 := hid hTs0
  clear hTs0 HBG
  go_wp2_with fail
  go_loopw [3, 4, 5, 6, 7, 8, 9] (fun pl pt i _ _ _ _ wr => ∃ (k p q : Nat) (S : Nat → Prop) (l : Lg) (R : List (List Nat)) (P : Pts), pl = .pointer (some ⟨p, 0, none⟩) ∧ pt = .pointer (some ⟨q, 0, none⟩) ∧ i = .int .i64 (k : Int) ∧ k ≤ n ∧ Hid (Tst u0 wr S p l q R P (k + 1))) (fun _ _ i _ _ _ _ _ => n - (intOf i).toNat)
  case atStart => exact ⟨0, p0, q0, S0, l0, _, _, rfl, rfl, rfl, Nat.zero_le _, HS0⟩
  case round =>
    obtain ⟨k, p, q, S, l, R, P, rfl, rfl, rfl, hk, HS⟩ := hrel
    clear HS0
    by_cases hlt : k < n
    · obtain ⟨g, off, o, rfl, hg, c0, c1, c2, c3, HO⟩ := (HV0.out.below HS.out.jr.be).at k hlt
      have HOO := hid (HOK0.out o (List.mem_of_getElem? HO.out))
      obtain ⟨u2, hu2⟩ : ∃ u2, u2 = wr.alloc (.cells (opv o.k o.v o.vs o.z) 52) := ⟨_, rfl⟩
      have hb2 : Below wr.heap.size wr u2 := by rw [hu2]; exact (Below.refl _ _).alloc (Nat.le_refl _) _
      have hr2 : u2.heap[wr.heap.size]? = some (.cells (opv o.k o.v o.vs o.z) 52 (0, 0)) := by rw [hu2]; exact heap_alloc_new wr _
      have H2 := hid (HS.out.below hb2)
      have hTE := HTELL.out _ _ _ _ _ _ _ _ _ H2.out HT0.out o HOO.out (by omega)
      unfold opv at hr2 hu2 hTE
      obtain ⟨kd, hkd⟩ : ∃ kd, kd = o.k := ⟨_, rfl⟩
      obtain ⟨zz, hzz⟩ : ∃ zz, zz = o.z := ⟨_, rfl⟩
      have hz := HOO.out.z
      obtain ⟨va, vn, vc, hva, -, -, -⟩ := HOO.out.v.shape
      obtain ⟨sa, sn, sc, hsa, -, -, -⟩ := HOO.out.vs.shape
      rw [← hkd] at c0 hr2 hu2 hTE
      rw [← hzz] at c3 hr2 hu2 hz hTE
      rw [hva] at c1 hr2 hu2 hTE
      rw [hsa] at c2 hr2 hu2 hTE
      have HTE := hid hTE
      have HU2 := hid hu2
      have y0 : u2.cell? ⟨wr.heap.size, 0, none⟩ = some (.int .i64 kd) := by rw [cell_of_row _ _ _ _ _ _ hr2]; rfl
      have y1 : u2.cell? ⟨wr.heap.size, 1, none⟩ = some (.slice va vn vc) := by rw [cell_of_row _ _ _ _ _ _ hr2]; rfl
      have y2 : u2.cell? ⟨wr.heap.size, 2, none⟩ = some (.slice sa sn sc) := by rw [cell_of_row _ _ _ _ _ _ hr2]; rfl
      have y3 : u2.cell? ⟨wr.heap.size, 3, none⟩ = some (.int .i64 zz) := by rw [cell_of_row _ _ _ _ _ _ hr2]; rfl
      have hbl := (Array.getElem?_eq_some_iff.1 hr2).1
      obtain ⟨b, hbb⟩ : ∃ b, b = wr.heap.size := ⟨_, rfl⟩
      rw [← hbb] at y0 y1 y2 y3 hbl hr2
      have HR2 := hid hr2
      have HBB := hid hbb
      clear hr2 hu2 hkd hzz hva hsa hb2 hTE hbb HOO HO
      by_cases h7 : kd = 7
      · subst h7
        as_aux_lemma =>
          go_upto_region 8 with fail
          rw [← HU2.out, ← HBB.out]
          have hwl := H2.out.ws
          have hcr := crash_any S p l zz u2 H2.out.jr.log H2.out.jr.ok (by omega) (by omega)
          obtain ⟨r1, r2, r3, r4⟩ := H2.out.tl.open zz.toNat
          have hby := crash_bytes l.ws (l.a, l.b) zz.toNat H2.out.jr.ok.ba H2.out.jr.ok.bb H2.out.jr.ok.ws.bytes
          generalize crash (l.a, l.b) zz.toNat l.ws = D at hcr r1 r2 r3 r4 hby
          have HCR := hid hcr
          have HBY := hid hby
          have R1 := hid r1
          have R2 := hid r2
          have R3 := hid r3
          have R4 := hid r4
          clear hcr r1 r2 r3 r4 hby HTE HTELL
          go_wp2_with fail
          refine HCR.out.mono ?_
          rintro _ w9 ⟨ga, ng, cg, gb, nb, cb, rfl, hD⟩
          have H9 := hid (H2.out.below hD.be)
          have HOP := open_any (.slice (some ⟨ga, 0, none⟩) ng cg) (.slice (some ⟨gb, 0, none⟩) nb cb) D.1 D.2 w9 (hD.a.sees HBY.out.1) (hD.b.sees HBY.out.2) (HT0.out.below H9.out.jr.be HT0.out.2)
          have hr9 : w9.heap[b]? = some (.cells #[.int .i64 7, .slice va vn vc, .slice sa sn sc, .int .i64 zz] 52 (0, 0)) := (hD.be.block b hbl).trans HR2.out
          have HR9 := hid hr9
          have HOA : Hid (Calls Tryd.prog 16 #[.agg #[.slice (some ⟨ga, 0, none⟩) ng cg, .slice (some ⟨gb, 0, none⟩) nb cb]] w9 fun e w' => ∃ p' v S Bd, e = .returned (.tuple #[.pointer (some ⟨p', 0, none⟩), v, .int .i64 0]) ∧ Opened w9 w' S Bd p' v (opnL D.1 D.2) (atP P zz.toNat)) := HOP.mono fun e w' h => by
            obtain ⟨p', v, S, Bd, h1, h2⟩ := h.2 R1.out
            rw [R2.out] at h2
            exact ⟨p', v, S, Bd, h1, h2⟩
          clear hD HCR HOP hr9 R1 R2
          generalize opnL D.1 D.2 = l' at *
          obtain ⟨R', hR'⟩ : ∃ R', R' = atP P zz.toNat := ⟨_, rfl⟩
          rw [← hR'] at HOA R3 R4
          have HRP := hid hR'
          clear hR'
          go_wp2_with fail
          refine HOA.out.mono ?_
          rintro _ w10 ⟨p', vr, S', Bd', rfl, hO⟩
          have H10 := hid (H9.out.below hO.be)
          have HO10 := hid hO
          have HB9 : Hid (Below u0.heap.size u0 w9) := H9.out.jr.be
          have hr10 : w10.heap[b]? = some (.cells #[.int .i64 7, .slice va vn vc, .slice sa sn sc, .int .i64 zz] 52 (0, 0)) := (hO.be.block b (Array.getElem?_eq_some_iff.1 HR9.out).1).trans HR9.out
          have x3 : w10.cell? ⟨b, 3, none⟩ = some (.int .i64 zz) := by rw [cell_of_row _ _ _ _ _ _ hr10]; rfl
          have hbl10 := (Array.getElem?_eq_some_iff.1 hr10).1
          have HSV := hid hO.recs.sees
          obtain ⟨ar, nr, cr, rfl, HNR, -, -⟩ := hO.recs.sees.shape
          have HAT := hid (H10.out.at (by omega) zz hz)
          rw [← HRP.out] at HAT
          clear hO hr10 HOA HR9
          go_wp2_with fail
          refine HAT.out.mono ?_
          rintro _ w11 ⟨vt, rfl, hst, hb11⟩
          have HLS := hid (lists_eq _ _ _ w11 (HSV.out.below hb11) hst)
          obtain ⟨at', nt, ct, rfl, -, -, -⟩ := hst.shape
          have HB11 := hid hb11
          clear hst hb11 HAT
          go_wp2_with fail
          refine HLS.out.mono ?_
          rintro _ w12 ⟨rfl, hb12⟩
          have HB12 : Hid (Below w10.heap.size w10 w12) := HB11.out.trans (hb12.mono HB11.out.size)
          obtain ⟨sn', hsn⟩ : ∃ sn', sn' = 16 + baseL R' := ⟨_, rfl⟩
          have hRl : R'.length ≤ 87382 := by
            have h1 := len_base R'
            have h2 := R3.out.sd.w.le
            omega
          have hsz := sizeL_any _ R' w12 (HSV.out.below HB12.out) (by omega) R3.out.sd.w.sh
          obtain ⟨ds, hds⟩ : ∃ ds, ds = dirt l'.ws := ⟨_, rfl⟩
          have hdi := dirty_any S' p' l' w12 (HO10.out.log.below HB12.out)
          rw [← hds] at hdi
          rw [← hsn] at hsz
          have HSZ := hid hsz
          have HDI := hid hdi
          have HSN := hid hsn
          have HDS := hid hds
          clear hb12 hsz hdi HLS hsn hds HB11
          go_wp2_with fail
          refine HSZ.out.mono ?_
          rintro _ wx ⟨rfl, rfl⟩
          go_wp2_with fail
          refine HDI.out.mono ?_
          rintro _ wy ⟨rfl, rfl⟩
          obtain ⟨u5, hu5⟩ : ∃ u5, u5 = wy.alloc (.cells #[.slice none 0 0, .slice none 0 0, .slice ar nr cr, .int .i64 (sn' : Int), .int .i64 (ds : Int)] 57) := ⟨_, rfl⟩
          have hb5 : Below wy.heap.size wy u5 := by rw [hu5]; exact (Below.refl _ _).alloc (Nat.le_refl _) _
          have hr5 : u5.heap[wy.heap.size]? = some (taRow (.slice none 0 0) (.slice none 0 0) (.slice ar nr cr) sn' ds) := by rw [hu5]; exact heap_alloc_new wy _
          obtain ⟨C5, hX5⟩ := TaX.fresh HO10.out HB9.out (HB12.out.trans (hb5.mono HB12.out.size)) HB12.out.size hr5
          have HNO := hid (note_none hX5 (by simp))
          have HU5 := hid hu5
          clear hu5 hb5 hr5 hX5
          go_upto_region 14 with fail
          rw [← HU5.out]
          go_wp2_with fail
          refine HNO.out.mono ?_
          rintro _ u6 ⟨rfl, vG', vP', Gs', X', h1, h2, h3, h4⟩
          obtain ⟨aP, cP, rfl, hcp1, hcp2⟩ := row_shape h1.fp
          have hX1 : X'.length = 1 := by rw [h4]; rfl
          rw [hX1] at h1
          obtain ⟨gP, xP, ppP, rfl, hgP, -, -, z2, -⟩ := h1.pt (i := 0) (by decide)
          have hfP : ∀ j, u6.frozen? ⟨gP, j, none⟩ = false := by
            obtain ⟨xs, hxs⟩ := row_at h1.fp (j := gP) rfl
            exact fun j => frozen_of_row _ _ _ _ _ hxs
          obtain ⟨-, d1, -, -, -, df⟩ := ta_cells h1.row
          have hq6 := h1.lt.1
          obtain ⟨X2, hX2, hX2l⟩ := h1.at0
          have HTS : Hid (Tst u0 (u6.setCell ⟨gP, 2, none⟩ (.int .i64 0)) S' p' l' wy.heap.size R' [(0, R')] (k + 1 + 1)) := by
            refine ⟨C5, vG', .slice (some ⟨gP, 0, none⟩) 1 cP, .slice ar nr cr, Gs', X2, [], ?_, h2, h3, R3.out, by omega, by rw [h3]; simp, ?_⟩
            · rw [← HDS.out, R3.out.size, ← HSN.out]; exact hX2
            · rcases R4.out with h | ⟨-, h, -⟩ <;> rw [h] <;> simp
          obtain ⟨u7, hu7⟩ : ∃ u7, u7 = u6.setCell ⟨gP, 2, none⟩ (.int .i64 0) := ⟨_, rfl⟩
          rw [← hu7] at HTS
          have HU7 := hid hu7
          have HSZ2 : ∀ t : Beh u7, Hid (Calls Tryd.prog 18 #[.pointer (some ⟨p', 0, none⟩)] t.wd fun e w' => e = .returned (.int .i64 (sn' : Int)) ∧ ∃ t' : Beh u7, w' = t'.wd) := fun t => (size_any _ p' l' t.wd (HTS.out.jr.log.below t.ok)).mono (fun _ _ ⟨a, b⟩ => ⟨by rw [a, R3.out.size, HSN.out], t, b⟩)
          have hc3 : ∀ t : Beh u7, t.wd.cell? ⟨wy.heap.size, 3, none⟩ = some (.int .i64 (sn' : Int)) := fun t => by
            obtain ⟨C, vG, vP, vR, Gs, X, Gc, h1, -⟩ := HTS.out.below t.ok
            rw [HSN.out, ← R3.out.size]
            exact (ta_cells h1.row).2.2.2.1
          have hc4 : ∀ t : Beh u7, t.wd.cell? ⟨wy.heap.size, 4, none⟩ = some (.int .i64 (ds : Int)) := fun t => by
            obtain ⟨C, vG, vP, vR, Gs, X, Gc, h1, -⟩ := HTS.out.below t.ok
            rw [HDS.out]
            exact (ta_cells h1.row).2.2.2.2.1
          clear h1 h2 h3 h4 hX2 hX2l hX1 HNO hu7
          rcases R4.out with hws | ⟨hd16, -, hnil⟩
          · obtain rfl : ds = 0 := by rw [HDS.out, hws]; rfl
            clear hws R4 R3 HO10 HSV HNR HDS HSN HRP
            go_upto_region 16 with fail
            rw [← HU7.out]
            refine wp_region_beh (by kernel_rfl) (by kernel_rfl) ?_
            repeat (go_big_quiet_step (first | (go_at_call 18; exact (HSZ2 _).out)))
            refine wpQuiet_nil ?_
            rintro _ ⟨t, rfl⟩
            have HT9 := hid (HTS.out.below t.ok)
            go_wp2_with fail
            go_roundw
            case rel => exact ⟨k + 1, p', wy.heap.size, S', l', R', [(0, R')], rfl, rfl, by go_num, by omega, HT9⟩
            case measure => simp [intOf]; omega
          · obtain rfl : ds = 16 := by rw [HDS.out, hd16]
            obtain rfl : nr = 0 := by have := HNR.out; rw [hnil] at this; simpa using this
            clear hd16 hnil R4 R3 HO10 HSV HNR HDS HSN HRP
            go_upto_region 16 with fail
            rw [← HU7.out]
            refine wp_region_beh (by kernel_rfl) (by kernel_rfl) ?_
            repeat (go_big_quiet_step (first | (go_at_call 18; exact (HSZ2 _).out)))
            refine wpQuiet_nil ?_
            rintro _ ⟨t, rfl⟩
            have HT9 := hid (HTS.out.below t.ok)
            go_wp2_with fail
            go_roundw
            case rel => exact ⟨k + 1, p', wy.heap.size, S', l', R', [(0, R')], rfl, rfl, by go_num, by omega, HT9⟩
            case measure => simp [intOf]; omega
      · have b7 : (kd == 7) = false := by simp [h7]
        as_aux_lemma =>
          go_upto_region 8 with fail
          rw [← HU2.out, ← HBB.out]
          go_wp2_with fail
          refine HTE.out.mono ?_
          rintro _ u9 ⟨rfl, S', l', R', P', hT9⟩
          have H9 := hid hT9
          clear hT9
          go_wp2_with fail
          go_roundw
          case rel => exact ⟨k + 1, p, q, S', l', R', P', rfl, rfl, by go_num, by omega, H9⟩
          case measure => simp [intOf]; omega
    · as_aux_lemma =>
        obtain ⟨ds, hds⟩ : ∃ ds, ds = dirt l.ws := ⟨_, rfl⟩
        have hdi := dirty_any S p l wr HS.out.jr.log
        have hwl := HS.out.ws
        have hdb : ds ≤ 1048576 * 3000000000000 := by
          have h1 := HS.out.jr.ok.ws.le
          rw [hds]; omega
        rw [← hds] at hdi
        have hcr := crash_any S p l (ds : Int) wr HS.out.jr.log HS.out.jr.ok (by omega) (by omega)
        rw [Int.toNat_natCast] at hcr
        obtain ⟨r1, r2, -, -⟩ := HS.out.tl.open ds
        rw [hds, HS.out.tl.last] at r2
        rw [← hds] at r2
        have hby := crash_bytes l.ws (l.a, l.b) ds HS.out.jr.ok.ba HS.out.jr.ok.bb HS.out.jr.ok.ws.bytes
        generalize crash (l.a, l.b) ds l.ws = D at hcr r1 r2 hby
        have HDI := hid hdi
        have HCR := hid hcr
        have HBY := hid hby
        have R1 := hid r1
        have R2 := hid r2
        clear hdi hcr r1 r2 hby hds hwl HTELL
        go_wp2_with fail
        refine HDI.out.mono ?_
        rintro _ wx ⟨rfl, rfl⟩
        go_wp2_with fail
        refine HCR.out.mono ?_
        rintro _ w9 ⟨ga, ng, cg, gb, nb, cb, rfl, hD⟩
        have H9 := hid (HS.out.below hD.be)
        have HOP := open_any (.slice (some ⟨ga, 0, none⟩) ng cg) (.slice (some ⟨gb, 0, none⟩) nb cb) D.1 D.2 w9 (hD.a.sees HBY.out.1) (hD.b.sees HBY.out.2) (HT0.out.below H9.out.jr.be HT0.out.2)
        have HOA : Hid (Calls Tryd.prog 16 #[.agg #[.slice (some ⟨ga, 0, none⟩) ng cg, .slice (some ⟨gb, 0, none⟩) nb cb]] w9 fun e w' => ∃ p' v S Bd l', e = .returned (.tuple #[.pointer (some ⟨p', 0, none⟩), v, .int .i64 0]) ∧ Opened w9 w' S Bd p' v l' R) := HOP.mono fun e w' h => by
          obtain ⟨p', v, S, Bd, h1, h2⟩ := h.2 R1.out
          rw [R2.out] at h2
          exact ⟨p', v, S, Bd, _, h1, h2⟩
        clear hD HCR HDI HOP
        go_wp2_with fail
        refine HOA.out.mono ?_
        rintro _ w10 ⟨p', vr, S', Bd', l', rfl, hO⟩
        have H10 := hid (H9.out.below hO.be)
        have HSV := hid hO.recs.sees
        obtain ⟨ar, nr, cr, rfl, HNR, -, -⟩ := hO.recs.sees.shape
        obtain ⟨vt, hqt, hct, hst⟩ := H10.out.recs
        have HLS := hid (lists_eq _ _ _ w10 HSV.out hst)
        obtain ⟨at', nt, ct, rfl, -, -, -⟩ := hst.shape
        clear hO HNR hst
        go_wp2_with fail
        refine HLS.out.mono ?_
        rintro _ w11 ⟨rfl, hb11⟩
        have H11 := hid (H10.out.below hb11)
        clear hb11 HLS
        go_wp2_with fail
        go_ret
        exact ⟨rfl, HB0.out.trans (H11.out.jr.be.mono HB0.out.size)⟩
end Go.Proofs.YteoebmpfdcbbmaaDoor

namespace Go.Proofs.YteoebmpfdcbbmaaDoor
open Go.ChangeShapes Go.WideShapes Go.ChangeAt Go.RowKit Jn N
set_option maxHeartbeats 4000000
set_option maxRecDepth 100000

theorem tell_any {w u : World} {S : Nat → Prop} {p : Nat} {l : Lg} {q : Nat} {R : List (List Nat)} {P : Pts} {N : Nat} (h : Tst w u S p l q R P N) (ht : TabN w) {o : Opn} (ho : o.Ok w) (hN : N + 1 ≤ 2500000000000) :
    Calls Tryd.prog 26 #[.pointer (some ⟨q, 0, none⟩), .pointer (some ⟨p, 0, none⟩), .agg (opv o.k o.v o.vs o.z)] u fun e u' => e = .returned (.bool true) ∧ ∃ S' l' R' P', Tst w u' S' p l' q R' P' (N + 1) := by
  have s1 : ∃ a n c, o.v = .slice a n c := by obtain ⟨a, n, c, e, -⟩ := ho.v.shape; exact ⟨a, n, c, e⟩
  have s2 : ∃ a n c, o.vs = .slice a n c := by obtain ⟨a, n, c, e, -⟩ := ho.vs.shape; exact ⟨a, n, c, e⟩
  by_cases k1 : o.k = 1
  · rw [k1]; exact tell_app h ht ho.v s2 hN ho.lr
  · by_cases k2 : o.k = 2
    · rw [k2]; exact tell_rew h ht s1 ho.vs hN ho.ln
    · by_cases k3 : o.k = 3
      · rw [k3]; exact tell_sync h s1 s2 hN
      · exact tell_none h s1 s2 k1 k2 k3
theorem recovers_any (v : Value) (Os : List Opn) (w : World) (hv : SeesO w v Os) (hok : ∀ o ∈ Os, o.Ok w) (hl : Os.length * 64 ≤ 140737488351232) (ht : TabN w) :
    Calls Tryd.prog 8 #[v] w fun e w' => e = .returned (.bool true) ∧ Below w.heap.size w w' :=
  recovers_walk v Os w hv hok hl ht fun _ _ _ _ _ _ _ _ _ h ht _ ho hN => tell_any h ht ho hN
end Go.Proofs.YteoebmpfdcbbmaaDoor

namespace Go.Proofs.YteoebmpfdcbbmaaDoor.J.journalRecovers
open Go.ChangeShapes Go.WideShapes Go.ChangeAt Go.RowKit Jn N Go.Proofs.YteoebmpfdcbbmaaDoor

set_option maxRecDepth 100000 in
theorem contract (H : Type) (enc : TypeId × Value → H) (W : World) (base : Nat) (args : Array Value) (ds gs : List (DataW H)) (before : List MemPlace)
    (hval : ∀ (j : Nat) t v, Tryd.f8.params[j]? = some t → args[j]? = some v → Value.okWide Tryd.prog W .any base t v)
    (hW : DataW.Whole enc Tryd.prog Tryd.f8.params.toList Rows.journalRecoversSpec.vars false W args.toList ds gs before) (hsz0 : (DataW.weightsEach Tryd.prog (Tryd.f8.params.toList ++ (OpenSpec.ofChange Rows.journalRecoversSpec).bare.plain.varTypes Tryd.prog) (ds ++ gs)).all (· ≤ reachBytes) = true) (hL : laidMetH Tryd.prog Rows.journalRecoversRow.laid W) :
    Calls Tryd.prog 8 args W fun e W' => ∃ v, e = .returned v ∧ Rows.journalRecoversSpec.post enc Tryd.prog Tryd.f8 false true false false W args v W' := by
  have hsz : (DataW.weightsEach Tryd.prog (Tryd.f8.params.toList ++ Rows.journalRecoversSpec.plain.varTypes Tryd.prog) (ds ++ gs)).all (· ≤ reachBytes) = true := hsz0
  have htN := tabN hL
  have hW' := hW
  obtain ⟨p, q, hA0, hV, rfl, hfz, hnd⟩ := hW
  have hA : DataW.TrodAll enc Tryd.prog W 0 (fun _ => true) true Tryd.f8.params.toList args.toList ds p := hA0
  rw [Tryd.params8] at hA hval hsz
  obtain ⟨v0, vs0, d0, ds0, p0, q0, hargs, rfl, rfl, h0, r0⟩ := trodAll_cons hA
  obtain ⟨rfl, rfl, rfl⟩ := trodAll_nil r0
  obtain rfl : args = #[v0] := by cases args; simp_all
  obtain ⟨rfl, rfl⟩ := trodVars_none hV
  clear hA0
  simp only [List.append_nil] at hW'
  have hw0 : ∀ x ∈ d0.weights Tryd.prog 50, x ≤ reachBytes := fun x hx => by
    have := List.all_eq_true.1 hsz x (DataW.weights_mem_each (j := 0) (t := 50) (d := d0) rfl rfl x hx)
    simpa using this
  obtain ⟨S0, hs0, ho0, hn0⟩ := open_os (hval 0 50 v0 rfl rfl) h0 hw0
  have hlt : ∀ x, x ∈ p0 → x.block < W.heap.size := fun x hx => hW'.lt x (by simpa using hx)
  refine (recovers_any v0 S0 W hs0 ho0 hn0 htN).mono fun e W' ⟨he, hg⟩ => ?_
  subst he
  exact ⟨_, rfl, _, _, _, [], p0 ++ [], [], hW', trodAll_cons_mk (shut_bool Tryd.underlying4 _) trodAll_mk0,
    trodAll_cons_mk (Below.trod laidOut (by kernel_rfl) (of_decide_eq_true (by kernel_rfl)) h0 hg (fun x hx => hlt x (hx))) trodAll_mk0, rfl, hg.frame _, fun h => by cases h⟩

theorem laid_met (os : Os) : laidMet Tryd.prog Rows.journalRecoversRow.laid ((laidWorld os).forCall (fun _ _ => 0) ⟨#[], #[.slice none 0 0], []⟩).memory :=
  laidMet_of_run' 8 (by kernel_rfl) (by kernel_rfl)
theorem reads (os : Os) {H : Type} (enc : TypeId × Value → H) : ∃ places, DataW.whole enc Tryd.prog ((laidWorld os).forCall (fun _ _ => 0) ⟨#[], #[.slice none 0 0], []⟩).memory Tryd.f8.params.toList Rows.journalRecoversSpec.vars false (#[.slice none 0 0] : Array Value).toList 8 = some ([.nil], [], places) :=
  ⟨[], by kernel_rfl⟩

set_option maxRecDepth 100000 in
theorem lifted (os : Os) (started : os.Started) (H : Type) (enc : TypeId × Value → H) (F : Stop.Interp) :
    ReturnsInHanded {} Tryd.checked os 8 .any ((OpenSpec.ofChange Rows.journalRecoversSpec).preRow enc Tryd.prog Tryd.f8 Rows.journalRecoversRow.domain false Rows.journalRecoversRow.laid) (((OpenSpec.ofChange Rows.journalRecoversSpec).at F).post enc Tryd.prog Tryd.f8 false true false false) := by
  obtain ⟨places, hx⟩ := reads os enc
  refine returnsInHanded_of_row (C := Tryd.checked) (s := OpenSpec.ofChange Rows.journalRecoversSpec) own started (by kernel_rfl) Tryd.func8
    (witness_row_at (enc := enc) (C := Tryd.checked) false (laidWorld os) #[.slice none 0 0] rfl (by kernel_rfl) (by kernel_rfl) (by kernel_rfl)
      (OpenSpec.preRow_of_cond 8 hx (by kernel_rfl) (fun k hk => by cases hk) (by kernel_rfl) (laid_met os))) ?_
  intro W base args ds gs before hval hW _ _ hsz hL _ _
  exact contract H enc W base args ds gs before hval hW hsz hL

theorem said : Rows.JournalRecoversSaid :=
  OpenClaim.holds_of_cond 8 Tryd.f8 rfl rfl rfl rfl rfl rfl rfl ⟨rfl, rfl, rfl, rfl, rfl⟩ rfl rfl rfl rfl rfl (by kernel_rfl) Tryd.func8 (by kernel_rfl)
    (of_decide_eq_true (by kernel_rfl)) (by unfold Func.isWrapper; first | (rw [if_pos (by decide +kernel)]; kernel_rfl) | (rw [if_neg (by decide +kernel)]; exact ⟨rfl, rfl⟩))
    (fun os started H enc _ F => by rw [OpenClaim.pre_eq_preRow]; exact lifted os started H enc F)

/-- No parameter wants a stand-in; the program has looks of its own. -/
theorem plain (f : FuncId) (fn : Func) (hf : Tryd.pinned.checked.prog.funcNamed "weft/weftlaw12.JournalRecovers" = some f) (hfn : Tryd.pinned.checked.prog.funcs[f]? = some fn) :
    false = Tryd.pinned.checked.prog.looks [] ∧ ∀ (j : Nat) t, fn.params[j]? = some t → Tryd.pinned.checked.prog.wantsStandIn t = false := by
  obtain rfl : f = 8 := Option.some.inj ((show Tryd.prog.funcNamed "weft/weftlaw12.JournalRecovers" = some 8 by kernel_rfl).symm.trans hf) |>.symm
  obtain rfl : fn = Tryd.f8 := (Option.some.inj (Tryd.func8.symm.trans hfn)).symm
  refine ⟨by kernel_rfl, fun j t ht => ?_⟩
  rw [Tryd.params8] at ht
  have h : t = 50 := by
    rcases j with _ | j <;> simp at ht <;> simp [← ht]
  rcases h with rfl
  exact (show Tryd.prog.wantsStandIn 50 = false by kernel_rfl)

theorem card : Rows.JournalRecoversCardSaid :=
  Claim7.holds_tied_plain_at .later [] _ _ _ _ said (fun _ h => by cases h) (by kernel_rfl) (fun _ h => by cases h) journalRecovers_row_tie rfl ⟨rfl, rfl⟩ (by kernel_rfl) rfl plain (by kernel_rfl)
end Go.Proofs.YteoebmpfdcbbmaaDoor.J.journalRecovers
namespace Go.Proofs.YteoebmpfdcbbmaaDoor
theorem journalRecovers_holds : Rows.JournalRecoversCardSaid := J.journalRecovers.card
#print axioms journalRecovers_holds
end Go.Proofs.YteoebmpfdcbbmaaDoor
