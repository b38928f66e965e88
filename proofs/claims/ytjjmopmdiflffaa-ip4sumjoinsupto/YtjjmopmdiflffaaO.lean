/-
  What came in, opened.
-/
import Derived.Test.YtjjmopmdiflffaaE
import Derived.Deep.Slices
import Derived.Deep.Strs
import Derived.SizedLaws
import Derived.Deep.MidRow
namespace Go.Proofs.Ytjjmopmdiflffaa
open Go.ChangeShapes Go.WideShapes Go.ChangeAt Go.RowKit
set_option maxRecDepth 100000

theorem cell1_5 : Try.prog.cellsOf 5 = 1 := by kernel_rfl
theorem cell1_24 : Try.prog.cellsOf 24 = 1 := by kernel_rfl
theorem bytes5 : Try.prog.bytesOf 5 = 1 := by kernel_rfl
theorem u24 : Try.prog.underlying 24 = some (.slice 5) := by kernel_rfl
theorem u22 : Try.prog.underlying 22 = some (.slice 24) := by kernel_rfl
theorem u5 : Try.prog.underlying 5 = some (.int .u8) := by kernel_rfl
theorem u23 : Try.prog.underlying 23 = some (.int .u16) := by kernel_rfl
theorem u3 : Try.prog.underlying 3 = some (.int .i64) := by kernel_rfl

theorem wf_u8 {a : Int} (h : (Lit.int .u8 a).wf = true) : ∃ n : Nat, a = (n : Int) ∧ n < 256 := by
  have h' : (decide (IntKind.u8.min ≤ a) && decide (a ≤ IntKind.u8.max)) = true := h
  rw [show IntKind.u8.min = 0 from by decide +kernel, show IntKind.u8.max = 255 from by decide +kernel] at h'
  simp at h'
  exact ⟨a.toNat, by omega, by omega⟩
theorem wf_u16 {a : Int} (h : (Lit.int .u16 a).wf = true) : ∃ n : Nat, a = (n : Int) ∧ n < 65536 := by
  have h' : (decide (IntKind.u16.min ≤ a) && decide (a ≤ IntKind.u16.max)) = true := h
  rw [show IntKind.u16.min = 0 from by decide +kernel, show IntKind.u16.max = 65535 from by decide +kernel] at h'
  simp at h'
  exact ⟨a.toNat, by omega, by omega⟩
theorem wf_u32 {a : Int} (h : (Lit.int .u32 a).wf = true) : ∃ n : Nat, a = (n : Int) ∧ n < 4294967296 := by
  have h' : (decide (IntKind.u32.min ≤ a) && decide (a ≤ IntKind.u32.max)) = true := h
  rw [show IntKind.u32.min = 0 from by decide +kernel, show IntKind.u32.max = 4294967295 from by decide +kernel] at h'
  simp at h'
  exact ⟨a.toNat, by omega, by omega⟩
theorem wf_i64 {a : Int} (h : (Lit.int .i64 a).wf = true) : -9223372036854775808 ≤ a ∧ a ≤ 9223372036854775807 := by
  have h' : (decide (IntKind.i64.min ≤ a) && decide (a ≤ IntKind.i64.max)) = true := h
  rw [show IntKind.i64.min = -9223372036854775808 from by decide +kernel, show IntKind.i64.max = 9223372036854775807 from by decide +kernel] at h'
  simpa using h'

theorem spot_none {W : World} {a : Addr} {v : Value} (z0 : W.cell? a = some v) : ∃ g off, a = ⟨g, off, none⟩ ∧ g < W.heap.size := by
  have hlt := World.block_lt_of_cell? W a z0
  obtain ⟨g, off, sp⟩ := a
  cases sp with
  | none => exact ⟨g, off, rfl, hlt⟩
  | some s =>
    exfalso
    simp only [World.cell?] at z0
    split at z0 <;> simp at z0

theorem bulk_one {H : Type} (d : DataW H) : 1 ≤ Rows.uptoBulk d := by
  cases d with
  | lit l => cases l <;> simp [Rows.uptoBulk]
  | nil => simp [Rows.uptoBulk]
  | ptr d => simp [Rows.uptoBulk]
  | slice elems spare => simp [Rows.uptoBulk]
  | agg parts => simp [Rows.uptoBulk]
  | iface t d => simp [Rows.uptoBulk]
  | map entries => simp [Rows.uptoBulk]
  | held h => simp [Rows.uptoBulk]

theorem bulk_part {H : Type} {d : DataW H} {l : List (DataW H)} (h : d ∈ l) : Rows.uptoBulk d ≤ Rows.uptoBulkAll l := by
  induction l with
  | nil => cases h
  | cons x r ih =>
    simp only [Rows.uptoBulkAll]
    rcases List.mem_cons.1 h with rfl | h
    · omega
    · have := ih h; omega

theorem bulk_len {H : Type} (l : List (DataW H)) : l.length ≤ Rows.uptoBulkAll l := by
  induction l with
  | nil => simp
  | cons x r ih => have := bulk_one x; simp only [Rows.uptoBulkAll, List.length_cons]; omega

theorem bulk_flat {H : Type} (D : Nat → DataW H) (F : Nat → List Nat) (l : List Nat) (h : ∀ i ∈ l, (F i).length ≤ Rows.uptoBulk (D i)) : (l.map F).flatten.length ≤ Rows.uptoBulkAll (l.map D) := by
  induction l with
  | nil => simp
  | cons x r ih =>
    have h1 := h x List.mem_cons_self
    have h2 := ih (fun i hi => h i (List.mem_cons_of_mem _ hi))
    simp only [List.map_cons, List.flatten_cons, List.length_append, Rows.uptoBulkAll]
    omega

section
variable {H : Type} {enc : TypeId × Value → H} {W : World}

/-- How long a list is, against what was read of it. -/
structure Fits (x : DataW H) (t : TypeId) (n : Nat) : Prop where
  bulk : n ≤ Rows.uptoBulk x
  room : (∀ k ∈ x.weights Try.prog t, k ≤ reachBytes) → n ≤ reachBytes

/-- A list of bytes that came in, within another thing. -/
theorem open_bytes {fuel : Nat} {cs : List Value} {x : DataW H × List MemPlace} (hf : DataW.trod enc Try.prog W 0 (fun _ => true) true fuel 24 cs = some x) :
    ∃ v L, cs = [v] ∧ SeesB W v L ∧ Fits x.1 24 L.length ∧ v.oneCell' = true := by
  rcases Go.Deep.open_slice u24 hf with ⟨h1, hx⟩ | ⟨a, len, cap, m, n, D, Pl, h1, _, hlc, hcm, hm, hxx, hx⟩
  · subst hx
    exact ⟨_, [], h1, sees_nil W, ⟨by simp, fun _ => by simp⟩, rfl⟩
  · simp at hm
    subst hm
    have key : ∀ i, i < len → ∃ y : Nat, y < 256 ∧ W.cell? (a.add i) = some (.int .u8 (y : Int)) := by
      intro i hi
      obtain ⟨cs', k1, k2⟩ := hx i (by omega)
      rw [cell1_5, Nat.mul_one] at k1
      obtain ⟨_, _, hc⟩ := World.cells?_some k1
      obtain ⟨z, e1, _, wf⟩ := DataW.trod_int u5 k2
      obtain ⟨y, rfl, hy⟩ := wf_u8 wf
      refine ⟨y, hy, ?_⟩
      have := hc 0 (by omega)
      rw [e1] at this
      simpa [Addr.add] using this
    have hch : ∃ F : Nat → Nat, ∀ i, i < len → F i < 256 ∧ W.cell? (a.add i) = some (.int .u8 ((F i : Nat) : Int)) := by
      refine ⟨fun i => if h : i < len then (key i h).choose else 0, fun i hi => ?_⟩
      simp only [dif_pos hi]
      exact (key i hi).choose_spec
    obtain ⟨F, hF⟩ := hch
    refine ⟨_, (List.range len).map F, h1, ⟨some a, m, by simp, ⟨by simpa using hlc, fun h => by cases h⟩, hcm, fun j hj => ?_⟩, ?_, rfl⟩
    · have hj' : j < len := by simpa using hj
      obtain ⟨g, off, rfl, hg⟩ : ∃ g off, a = ⟨g, off, none⟩ ∧ g < W.heap.size := by
        have z0 := (hF 0 (by omega)).2
        have e : a.add 0 = a := by simp [Addr.add]
        rw [e] at z0
        exact spot_none z0
      have y0 := (hF j hj').2
      rw [Addr.add_mid] at y0
      exact ⟨g, off, rfl, hg, by rw [y0]; simp, by simpa using (hF j hj').1⟩
    · subst hxx
      refine ⟨?_, fun hw => ?_⟩
      · simp only [List.length_map, List.length_range, Rows.uptoBulk]
        have := bulk_len ((List.range len).map D)
        simp only [List.length_map, List.length_range] at this
        omega
      · have := hw ((((List.range len).map D).length + ((List.range (m - len)).map fun j => D (len + j)).length) * Try.prog.bytesOf 5) (by simp [DataW.weights])
        rw [bytes5] at this
        simp only [List.length_map, List.length_range] at this ⊢
        omega

/-- A list of lists of bytes that came in, within another thing. -/
theorem open_bb {fuel : Nat} {cs : List Value} {x : DataW H × List MemPlace} (hf : DataW.trod enc Try.prog W 0 (fun _ => true) true fuel 22 cs = some x) :
    ∃ v Ls, cs = [v] ∧ SeesBB W v Ls ∧ Ls.flatten.length ≤ Rows.uptoBulk x.1 ∧ v.oneCell' = true := by
  rcases Go.Deep.open_slice u22 hf with ⟨h1, hx⟩ | ⟨a, len, cap, m, n, D, Pl, h1, _, hlc, hcm, hm, hxx, hx⟩
  · subst hx
    exact ⟨_, [], h1, ⟨none, 0, rfl, by simp, by unfold maxLen; omega, fun j h => absurd h (by simp)⟩, by simp, rfl⟩
  · simp at hm
    subst hm
    have key : ∀ i, i < len → ∃ vl : Value × List Nat, vl.2.length ≤ Rows.uptoBulk (D i) ∧ SeesB W vl.1 vl.2 ∧ W.cell? (a.add i) = some vl.1 := by
      intro i hi
      obtain ⟨cs', k1, k2⟩ := hx i (by omega)
      rw [cell1_24, Nat.mul_one] at k1
      obtain ⟨_, _, hc⟩ := World.cells?_some k1
      obtain ⟨v, L, e1, hs, hfit, _⟩ := open_bytes k2
      refine ⟨(v, L), hfit.bulk, hs, ?_⟩
      have := hc 0 (by omega)
      rw [e1] at this
      simpa [Addr.add] using this
    have hch : ∃ F : Nat → Value × List Nat, ∀ i, i < len → (F i).2.length ≤ Rows.uptoBulk (D i) ∧ SeesB W (F i).1 (F i).2 ∧ W.cell? (a.add i) = some (F i).1 := by
      refine ⟨fun i => if h : i < len then (key i h).choose else (undef, []), fun i hi => ?_⟩
      simp only [dif_pos hi]
      exact (key i hi).choose_spec
    obtain ⟨F, hF⟩ := hch
    refine ⟨_, (List.range len).map (fun i => (F i).2), h1, ⟨some a, m, by simp, by simpa using hlc, hcm, fun j hj => ?_⟩, ?_, rfl⟩
    · have hj' : j < len := by simpa using hj
      obtain ⟨g, off, rfl, hg⟩ : ∃ g off, a = ⟨g, off, none⟩ ∧ g < W.heap.size := by
        have z0 := (hF 0 (by omega)).2.2
        have e : a.add 0 = a := by simp [Addr.add]
        rw [e] at z0
        exact spot_none z0
      have y0 := (hF j hj').2.2
      rw [Addr.add_mid] at y0
      exact ⟨g, off, (F j).1, rfl, hg, y0, by simpa using (hF j hj').2.1⟩
    · subst hxx
      have := bulk_flat D (fun i => (F i).2) (List.range len) (fun i hi => (hF i (by simpa using hi)).1)
      simp only [Rows.uptoBulk]
      omega

end

theorem wf_i64' {a : Int} (h : (Lit.int .i64 a).wf = true) : -9223372036854775808 ≤ a ∧ a ≤ 9223372036854775807 := wf_i64 h
end Go.Proofs.Ytjjmopmdiflffaa
