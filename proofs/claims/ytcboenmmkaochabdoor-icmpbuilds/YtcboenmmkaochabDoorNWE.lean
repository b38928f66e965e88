import Derived.Test.YtcboenmmkaochabDoorNY
import Derived.Test.YtcboenmmkaochabDoorNG
namespace Go.Proofs.YtcboenmmkaochabDoor.N
open Go.ChangeShapes Go.WideShapes Go.ChangeAt Go.RowKit
set_option maxHeartbeats 1000000
set_option maxRecDepth 100000

theorem hd_row {u : World} {n : Nat} {h : Hd} {vo : Value} (hb : u.heap[n]? = some (.cells (hdCells h vo) 33 (0, 0))) (i : Nat) (hi : i < 10) : u.cell? ⟨n, i, none⟩ = some ((hdCells h vo)[i]'hi) := by
  rw [cell_of_row _ _ _ _ _ _ hb, Array.getElem?_eq_getElem hi]

/-- heads: the same header on both sides. -/
theorem heads_same (h : Hd) (va vb : Value) (w : World) (ha : SeesB w va h.opts) (hb : SeesB w vb h.opts) :
    Calls Tryd.prog 27 #[.agg (hdCells h va), .agg (hdCells h vb)] w fun e w' => e = .returned (.bool true) ∧ Below w.heap.size w w' := by
  obtain ⟨w1, hw1⟩ : ∃ w1, w1 = (w.alloc (.cells (hdCells h va) 33)).alloc (.cells (hdCells h vb) 33) := ⟨_, rfl⟩
  have hb1 : Below w.heap.size w w1 := by rw [hw1]; exact ((Below.refl _ _).alloc (Nat.le_refl _) _).alloc (by simp) _
  have HS := hid (same_any va vb h.opts h.opts w1 (ha.below hb1) (hb.below hb1))
  obtain ⟨a1, n1, c1, rfl, _, _, _⟩ := ha.shape
  obtain ⟨a2, n2, c2, rfl, _, _, _⟩ := hb.shape
  have HW1 := hid hw1
  have HB1 := hid hb1
  clear hw1 hb1 ha hb
  obtain ⟨tos, id, df, mf, off, ttl, proto, src, dst, opts⟩ := h
  unfold hdCells at *
  simp only at *
  go_enter Tryd.func27, Tryd.ntmps27
  go_wp2_with fail
  rw [← HW1.out]
  refine HS.out.mono ?_
  rintro _ w2 ⟨rfl, hb2⟩
  go_wp2_with fail
  go_ret
  exact ⟨ret_bool (by simp), HB1.out.trans (hb2.mono HB1.out.size)⟩

/-- packets: the same packet on both sides. -/
theorem packets_same (h : Hd) (B : List Nat) (va vb xa xb : Value) (w : World) (ha : SeesB w va h.opts) (hb : SeesB w vb h.opts) (ka : SeesB w xa B) (kb : SeesB w xb B) :
    Calls Tryd.prog 22 #[.agg (pkCells h va xa), .agg (pkCells h vb xb)] w fun e w' => e = .returned (.bool true) ∧ Below w.heap.size w w' := by
  obtain ⟨w1, hw1⟩ : ∃ w1, w1 = (w.alloc (.cells (pkCells h va xa) 35)).alloc (.cells (pkCells h vb xb) 35) := ⟨_, rfl⟩
  have hb1 : Below w.heap.size w w1 := by rw [hw1]; exact ((Below.refl _ _).alloc (Nat.le_refl _) _).alloc (by simp) _
  have hs1 : w1.heap.size = w.heap.size + 2 := by rw [hw1]; simp
  have HB0 : Hid (∀ u, Below w1.heap.size w1 u → u.heap[w.heap.size]? = some (.cells (pkCells h va xa) 35)) := fun u hu => by
    have h1 : Below (w.heap.size + 1) (w.alloc (.cells (pkCells h va xa) 35)) w1 := by rw [hw1]; exact (Below.refl _ _).alloc (by simp) _
    rw [hu.block _ (by omega), h1.block _ (by omega)]
    exact heap_alloc_new w _
  have HB2 : Hid (∀ u, Below w1.heap.size w1 u → u.heap[w.heap.size + 1]? = some (.cells (pkCells h vb xb) 35)) := fun u hu => by
    rw [hu.block _ (by omega), hw1]
    have := heap_alloc_new (w.alloc (.cells (pkCells h va xa) 35)) (.cells (pkCells h vb xb) 35)
    rw [World.size_alloc] at this
    exact this
  have HL0 := hid (pk_loadH (HB0.out _ (Below.refl _ _)))
  have HL1 := hid (pk_loadH (HB2.out _ (Below.refl _ _)))
  have HH := hid (heads_same h va vb w1 (ha.below hb1) (hb.below hb1))
  have HSM : Hid (∀ u, Below w1.heap.size w1 u → Calls Tryd.prog 20 #[xa, xb] u fun e w' => e = .returned (.bool true) ∧ Below u.heap.size u w') := fun u hu => by
    have hbu := hb1.trans (hu.mono hb1.size)
    have := same_any xa xb B B u (ka.below hbu) (kb.below hbu)
    rw [decide_eq_true (rfl : B = B)] at this
    exact this
  have HC0 : Hid (∀ u, Below w1.heap.size w1 u → u.cell? ⟨w.heap.size, 10, none⟩ = some xa ∧ u.cell? ⟨w.heap.size + 1, 10, none⟩ = some xb) := fun u hu => ⟨pk_at (HB0.out _ hu) 10 (by omega), pk_at (HB2.out _ hu) 10 (by omega)⟩
  obtain ⟨a1, n1, c1, rfl, _, _, _⟩ := ka.shape
  obtain ⟨a2, n2, c2, rfl, _, _, _⟩ := kb.shape
  have HW1 := hid hw1
  have HB1 := hid hb1
  generalize hdCells h va = ca at *
  generalize hdCells h vb = cb at *
  generalize pkCells h va (.slice a1 n1 c1) = pa at *
  generalize pkCells h vb (.slice a2 n2 c2) = pb at *
  clear hw1 hb1 ha hb ka kb HB0 HB2 hs1
  go_enter Tryd.func22, Tryd.ntmps22
  go_upto_region 1 with fail
  rw [← HW1.out]
  go_wp2_with (first
    | (refine wpList_ld 33 ⟨w.heap.size, 0, none⟩ (.tmp 5) rfl rfl HL0.out rfl ?_)
    | (refine wpList_ld 33 ⟨w.heap.size + 1, 0, none⟩ (.tmp 7) rfl rfl HL1.out rfl ?_)
    | fail)
  refine HH.out.mono ?_
  rintro _ w2 ⟨rfl, hb2⟩
  obtain ⟨e0, e1⟩ := HC0.out _ hb2
  go_wp2_with fail
  refine (HSM.out _ hb2).mono ?_
  rintro _ w3 ⟨rfl, hb3⟩
  go_wp2_with fail
  go_ret
  exact ⟨rfl, HB1.out.trans ((hb2.trans (hb3.mono hb2.size)).mono HB1.out.size)⟩
end Go.Proofs.YtcboenmmkaochabDoor.N
