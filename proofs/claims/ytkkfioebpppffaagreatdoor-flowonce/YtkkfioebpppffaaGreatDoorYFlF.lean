import Derived.Test.YtkkfioebpppffaaGreatDoorYFlE
namespace Go.Proofs.YtkkfioebpppffaaGreatDoor.Fl
open Go.Proofs.YtkkfioebpppffaaGreatDoor Go.ChangeShapes Go.WideShapes Go.ChangeAt Go.RowKit Go.Maps N
set_option maxHeartbeats 4000000
set_option maxRecDepth 100000

def fl (f m : Nat) : Bool := decide (f / m % 2 = 1)
def kd (f : Nat) : Nat := if fl f 4 then 1 else if fl f 2 && fl f 16 then 3 else if fl f 2 then 2 else if fl f 1 then 4 else if fl f 16 then 5 else 0
theorem kd_lt (f : Nat) : kd f < 6 := by unfold kd; repeat (first | omega | split)
/-- How the flows of segments move: by state, way and kind. -/
def rowsN : List Nat := [0,0,0,0,0,0, 0,0,0,0,0,0,  0,0,0,0,0,0, 0,0,0,0,0,0,  0,0,0,0,0,0, 0,0,0,0,0,0,  0,0,3,0,0,0, 0,0,0,4,0,0,  0,0,0,0,6,5, 0,0,0,4,9,0,  0,0,0,0,6,5, 0,0,0,0,9,5,  0,0,0,0,6,6, 0,0,0,0,7,6,  0,0,3,0,7,7, 0,0,0,0,7,7,  0,0,3,0,0,0, 0,0,0,0,0,0,  0,0,0,0,7,9, 0,0,0,0,9,9]
def tN (st k : Nat) (back : Bool) : Nat := rowsN.getD (st * 12 + (if back then 6 else 0) + k) 0
theorem tN_lt (st k : Nat) (back : Bool) : tN st k back < 10 := by
  unfold tN
  rw [List.getD_eq_getElem?_getD]
  cases h : rowsN[st * 12 + (if back then 6 else 0) + k]? with
  | none => simp
  | some x =>
    have : ∀ y ∈ rowsN, y < 10 := by decide
    exact this x (List.mem_of_getElem? h)
def spansN : List Int := [0, 30, 180, 120, 60, 432000, 120, 60, 10, 120]
def spN (st : Nat) : Int := spansN.getD st 0
theorem spN_mem (st : Nat) : 0 ≤ spN st ∧ spN st ≤ 432000 := by
  unfold spN
  rw [List.getD_eq_getElem?_getD]
  cases h : spansN[st]? with
  | none => simp
  | some x =>
    have : ∀ y ∈ spansN, 0 ≤ y ∧ y ≤ 432000 := by decide
    exact this x (List.mem_of_getElem? h)

/-- The two tables, laid. -/
structure TabF (w : World) : Prop where
  sp : ∀ j, j < 10 → w.cell? ⟨0, j, none⟩ = some (.int .i64 (spN j))
  tn : ∀ j, j < 120 → w.cell? ⟨1, j, none⟩ = some (.int .u8 ((rowsN.getD j 0 : Nat) : Int))
  lt : 0 < w.heap.size ∧ 1 < w.heap.size
theorem TabF.keep {w w' : World} (h : TabF w) (h1 : w'.heap[0]? = w.heap[0]?) (h2 : w'.heap[1]? = w.heap[1]?) (hs : w.heap.size ≤ w'.heap.size) : TabF w' := by
  refine ⟨fun j hj => ?_, fun j hj => ?_, Nat.lt_of_lt_of_le h.lt.1 hs, Nat.lt_of_lt_of_le h.lt.2 hs⟩
  · rw [← h.sp j hj]; unfold World.cell?; simp only [h1]
  · rw [← h.tn j hj]; unfold World.cell?; simp only [h2]
theorem TabF.below {w w' : World} (h : TabF w) (hb : Below w.heap.size w w') : TabF w' := h.keep (hb.block _ h.lt.1) (hb.block _ h.lt.2) hb.size

theorem and_u8 (f : Nat) (m : Nat) (hf : f < 256) (hm : m < 256) : bits .and .u8 (f : Int) (m : Int) = ((f &&& m : Nat) : Int) := u8_and_nat f m hf hm
theorem fl_and (m : Nat) (hm : m = 1 ∨ m = 2 ∨ m = 4 ∨ m = 16) (f : Nat) (hf : f < 256) : fl f m = decide (f &&& m ≠ 0) := by
  have h : ∀ m ∈ [1, 2, 4, 16], ∀ f : Fin 256, fl f.val m = decide (f.val &&& m ≠ 0) := by decide +kernel
  exact h m (by rcases hm with h | h | h | h <;> simp [h]) ⟨f, hf⟩

/-- Is a flag set? -/
theorem has_any (s d f m : Nat) (w : World) (hf : f < 256) (hm : m = 1 ∨ m = 2 ∨ m = 4 ∨ m = 16) : Calls Tryz.prog 39 #[.agg #[.int .u16 (s : Int), .int .u16 (d : Int), .int .u8 (f : Int)], .int .u8 (m : Int)] w fun e w' => e = .returned (.bool (fl f m)) ∧ Below w.heap.size w w' := by
  have HA : Hid (bits .and .u8 (f : Int) (m : Int) = ((f &&& m : Nat) : Int)) := and_u8 f m hf (by omega)
  have HF : Hid (fl f m = decide (f &&& m ≠ 0)) := fl_and m hm f hf
  have hb : Below w.heap.size w (w.alloc (.cells #[.int .u16 (s : Int), .int .u16 (d : Int), .int .u8 (f : Int)] 106)) := (Below.refl _ _).alloc (Nat.le_refl _) _
  have HB := hid hb
  clear hb hf hm
  go_enter Tryz.func39, Tryz.ntmps39
  go_wp2_with fail
  go_ret
  exact ⟨ret_bool (by rw [HF.out, HA.out]; by_cases e : f &&& m = 0 <;> simp [e]), HB.out⟩
end Go.Proofs.YtkkfioebpppffaaGreatDoor.Fl
