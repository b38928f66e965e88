import Derived.Test.YthpokoiclfbddaaDoorYNqM
import Derived.BigQuiet
namespace Go.Proofs.YthpokoiclfbddaaDoor.Nq
open Go.Proofs.YthpokoiclfbddaaDoor Go.ChangeShapes Go.WideShapes Go.ChangeAt Go.RowKit Go.Maps Fl
open Go.Proofs.YthpokoiclfbddaaDoor.N hiding But But.set But.of_below But.refl But.trans But.below But.drew wpList_ld
open Go.Shelf
set_option maxHeartbeats 2000000
set_option maxRecDepth 100000

def dgH : Hd := ⟨0, 3, false, false, 0, 64, 17, 168100098, 174063617, []⟩
def dgB : List Nat := [15, 160, 0, 80, 0, 10, 114, 25, 104, 105]
def svT : Tu := ⟨168100098, 168100354, 17, 4000, 8080⟩
def tgB : List Nat := [15, 160, 31, 144, 0, 10, 81, 51, 104, 105]
theorem build_dh (u : World) : (Instr.build 34 #[(1, .int .u16 3), (5, .int .u8 64), (6, .int .u8 17), (7, .int .u32 168100098), (8, .int .u32 174063617)]).run Tryd.prog u = .ok (.agg (hdCells dgH (.slice none 0 0))) u := by kernel_rfl
theorem build_sv (u : World) : (Instr.build 38 #[(0, .int .u32 168100098), (1, .int .u32 168100354), (2, .int .u8 17), (3, .int .u16 4000), (4, .int .u16 8080)]).run Tryd.prog u = .ok (.agg svT.cells) u := by kernel_rfl
theorem own_made (w : World) (base : Nat) (L : List Nat) (hb : base ≤ w.heap.size) (hL : L.length ≤ 1000) : OwnB (w.alloc (.cells (bs L).toArray 5)) base (.slice (some ⟨w.heap.size, 0, none⟩) L.length L.length) L := by
  refine ⟨by simp [bs], .inr ⟨w.heap.size, L.length, (bs L).toArray, rfl, hb, heap_alloc_new _ _, Nat.le_refl _, by unfold maxLen; omega, by simp [bs], by rw [List.take_of_length_le (by simp [bs])]⟩⟩

theorem datagram_any (w : World) :
    Calls Tryd.prog 16 #[] w fun e w' => ∃ vb, e = .returned (.agg (pkCells dgH (.slice none 0 0) vb)) ∧ SeesB w' vb dgB ∧ Below w.heap.size w w' := by
  obtain ⟨g0, HG⟩ : ∃ g, Hid (g = w.heap.size) := ⟨_, rfl⟩
  obtain ⟨w0, HW0⟩ : ∃ w0, Hid (w0 = w.alloc (.cells (pkCells nzH (.slice none 0 0) (.slice none 0 0)) 36)) := ⟨_, rfl⟩
  have hb0 : Below w.heap.size w w0 := by rw [HW0.out]; exact (Below.refl _ _).alloc (Nat.le_refl _) _
  have r0 : w0.heap[g0]? = some (.cells (pkCells nzH (.slice none 0 0) (.slice none 0 0)) 36 (0, 0)) := by rw [HW0.out, HG.out]; exact heap_alloc_new w _
  have hl0 := (Array.getElem?_eq_some_iff.1 r0).1
  obtain ⟨w1, HW1⟩ : ∃ w1, Hid (w1 = w0.alloc (.cells (bs dgB).toArray 5)) := ⟨_, rfl⟩
  have hb1 : Below w0.heap.size w0 w1 := by rw [HW1.out]; exact (Below.refl _ _).alloc (Nat.le_refl _) _
  have HO : Hid (OwnB w1 w0.heap.size (.slice (some ⟨w0.heap.size, 0, none⟩) 10 10) dgB) := by rw [HW1.out]; exact own_made w0 _ dgB (Nat.le_refl _) (by decide)
  have HZ1 : Hid (w1.heap[g0]? = some (.cells (pkCells nzH (.slice none 0 0) (.slice none 0 0)) 36 (0, 0))) := below_keeps hb1 r0 hl0
  have HB1 := hid (hb0.trans (hb1.mono hb0.size))
  have HL := hid hl0
  have HC : Hid ((#[.int .u8 15, .int .u8 160, .int .u8 0, .int .u8 80, .int .u8 0, .int .u8 10, .int .u8 114, .int .u8 25, .int .u8 104, .int .u8 105] : Array Value) = (bs dgB).toArray) := rfl
  have HZC : Hid (#[.int .u8 0, .int .u16 0, .bool false, .bool false, .int .i64 0, .int .u8 0, .int .u8 0, .int .u32 0, .int .u32 0, .slice none 0 0, .slice none 0 0] = pkCells nzH (.slice none 0 0) (.slice none 0 0)) := rfl
  clear hb0 r0 hl0 hb1
  go_enter Tryd.func16, Tryd.ntmps16
  go_upto_region 1 with fail
  rw [HZC.out, ← HW0.out, ← HG.out]
  go_wp2_with (first | (refine wpList_val (ex_build 34 _ #[(1, .int .u16 3), (5, .int .u8 64), (6, .int .u8 17), (7, .int .u32 168100098), (8, .int .u32 174063617)] _ rfl rfl (build_dh _)) rfl ?_) | (refine wpList_val (ex_build 36 _ #[(0, .agg (hdCells dgH (.slice none 0 0))), (1, .slice (some ⟨w0.heap.size, 0, none⟩) 10 10)] _ rfl (by simp only [List.map_toArray, List.map_cons, List.map_nil]; rfl) (build_pk _ _ _ _ _ _ _ _)) rfl ?_; rw [HC.out, ← HW1.out]) | (refine wpList_st rfl 36 (.tmp 0) (.tmp 3) rfl g0 (pkCells dgH (.slice none 0 0) (.slice (some ⟨w0.heap.size, 0, none⟩) 10 10)) rfl rfl _ (pkCells nzH (.slice none 0 0) (.slice none 0 0)) HZ1.out (by kernel_rfl) rfl (pk_oneq _ _ _ _ _ _ _) ?_; intro w9 hw9 hbut9) | fail)
  have hlv := pk_lv hw9
  have HF : Hid (Below w.heap.size w w9) := hbut9.below HB1.out HB1.out.size (by rw [HG.out]; exact Nat.le_refl _)
  have HX : Hid (SeesB w9 (.slice (some ⟨w0.heap.size, 0, none⟩) 10 10) dgB) := by
    have hk : Me.Keeps (fun k => k = g0) w1 w9 := ⟨hbut9.os, hbut9.tape, hbut9.output, hbut9.size, hbut9.block⟩
    have h9 : OwnB w9 w0.heap.size (.slice (some ⟨w0.heap.size, 0, none⟩) 10 10) dgB := Me.row_keeps (S := fun k => k = g0) HO.out hk fun k hk2 e => by
      have := (World.ownsRow.lt HO.out k hk2).1
      have := HL.out
      omega
    exact h9.sees (by decide)
  refine bodyPost_ret (v := .agg (pkCells dgH (.slice none 0 0) (.slice (some ⟨w0.heap.size, 0, none⟩) 10 10))) (by simp [results, Tryd.results16, asAddr, Act.put, hlv]) rfl ?_
  exact ⟨_, rfl, HX.out, HF.out⟩

theorem service_any (w : World) :
    Calls Tryd.prog 17 #[] w fun e w' => e = .returned (.agg svT.cells) ∧ Below w.heap.size w w' := by
  obtain ⟨g0, HG⟩ : ∃ g, Hid (g = w.heap.size) := ⟨_, rfl⟩
  obtain ⟨w0, HW0⟩ : ∃ w0, Hid (w0 = w.alloc (.cells zTu.cells 38)) := ⟨_, rfl⟩
  have hb0 : Below w.heap.size w w0 := by rw [HW0.out]; exact (Below.refl _ _).alloc (Nat.le_refl _) _
  have r0 : w0.heap[g0]? = some (.cells zTu.cells 38 (0, 0)) := by rw [HW0.out, HG.out]; exact heap_alloc_new w _
  have HZ1 := hid r0
  have HB1 := hid hb0
  have HZC : Hid (#[.int .u32 0, .int .u32 0, .int .u8 0, .int .u16 0, .int .u16 0] = zTu.cells) := rfl
  clear hb0 r0
  go_enter Tryd.func17, Tryd.ntmps17
  go_upto_region 1 with fail
  rw [HZC.out, ← HW0.out, ← HG.out]
  go_wp2_with (first | (refine wpList_val (ex_build 38 _ #[(0, .int .u32 168100098), (1, .int .u32 168100354), (2, .int .u8 17), (3, .int .u16 4000), (4, .int .u16 8080)] _ rfl rfl (build_sv _)) rfl ?_) | (refine wpList_st rfl 38 (.tmp 0) (.tmp 1) rfl g0 svT.cells rfl rfl _ zTu.cells HZ1.out (by kernel_rfl) rfl svT.one ?_; intro w9 hw9 hbut9) | fail)
  have hlv := lv_tu hw9
  have HF : Hid (Below w.heap.size w w9) := hbut9.below HB1.out HB1.out.size (by rw [HG.out]; exact Nat.le_refl _)
  refine bodyPost_ret (v := .agg svT.cells) (by simp [results, Tryd.results17, asAddr, Act.put, hlv]) rfl ?_
  exact ⟨rfl, HF.out⟩

theorem same_any (x y : Value) (L : List Nat) (w : World) (hx : SeesB w x L) (hy : SeesB w y L) (hl : ∀ b ∈ L, b < 256) :
    Calls Tryd.prog 19 #[x, y] w fun e w' => e = .returned (.bool true) ∧ Below w.heap.size w w' := by
  obtain ⟨a0, c0, rfl, h1, h2, h3⟩ := hx
  obtain ⟨a1, c1, rfl, k1, k2, k3⟩ := hy
  obtain ⟨n, HN⟩ : ∃ n, Hid (n = L.length) := ⟨_, rfl⟩
  have HAT : Hid (∀ u, Below w.heap.size w u → ∀ j, j < n → ∃ g0 o0 g1 o1, ∃ x : Nat, a0 = some ⟨g0, o0, none⟩ ∧ a1 = some ⟨g1, o1, none⟩ ∧ x < 256 ∧ u.cell? ⟨g0, o0 + j, none⟩ = some (.int .u8 (x : Int)) ∧ u.cell? ⟨g1, o1 + j, none⟩ = some (.int .u8 (x : Int))) := fun u hu j hj => by
    have hjl : j < L.length := by rw [← HN.out]; exact hj
    obtain ⟨g0, o0, e0, b0, q0⟩ := h3 j hjl
    obtain ⟨g1, o1, e1, b1, q1⟩ := k3 j hjl
    have s0 := hu.block g0 b0
    have s1 := hu.block g1 b1
    refine ⟨g0, o0, g1, o1, L[j], e0, e1, hl _ (List.getElem_mem _), ?_, ?_⟩
    · unfold World.cell? at q0 ⊢; simp only at q0 ⊢; rw [s0]; exact q0.1
    · unfold World.cell? at q1 ⊢; simp only at q1 ⊢; rw [s1]; exact q1.1
  have hnl : n ≤ maxLen := by have := HN.out; omega
  unfold maxLen at hnl
  rw [← HN.out]
  clear h1 h2 h3 k1 k2 k3 hl
  go_enter Tryd.func19, Tryd.ntmps19
  go_wp2_with fail
  go_loopw [5] (fun i wr => ∃ k : Nat, i = .int .i64 (k : Int) ∧ k ≤ n ∧ Hid (Below w.heap.size w wr)) (fun iv _ => match iv with | .int _ z => n - z.toNat | _ => 0)
  case atStart => exact ⟨0, rfl, Nat.zero_le _, Below.refl _ _⟩
  case round =>
    obtain ⟨k, rfl, hk, HB⟩ := hrel
    by_cases hlt : k < n
    · obtain ⟨g0, o0, g1, o1, x, rfl, rfl, hx, q0, q1⟩ := HAT.out wr HB.out k hlt
      have b1 : (k : Int) < (n : Int) := by omega
      have b2 : (0 : Int) ≤ (k : Int) := by omega
      have wi : IntKind.i64.wrap ((k : Int) + 1) = ((k + 1 : Nat) : Int) := by rw [IntKind.wrap_i64]; omega
      go_upto_region 6 with fail
      go_quiet (fail)
      have HB2 : Hid (Below w.heap.size w (wr.drewN nq)) := below_drewN HB.out _
      go_wp2_with fail
      go_roundw
      case rel => exact ⟨k + 1, rfl, by omega, HB2⟩
      case measure => simp; omega
    · have b1 : ¬ (k : Int) < (n : Int) := by omega
      go_wp2_with fail
      go_ret
      exact ⟨rfl, HB.out⟩
end Go.Proofs.YthpokoiclfbddaaDoor.Nq
