/-
  trie.common.
-/
import Derived.Test.YtmnafocmbcgdiabVD
import Derived.StillTailTactics
import Derived.Deep.CutRange
import Derived.Deep.RegionWith
import Derived.Deep.RegionHeld3
namespace Go.Proofs.Ytmnafocmbcgdiab
open Go.ChangeShapes Go.WideShapes Go.ChangeAt Go.RowKit Tri N
set_option maxHeartbeats 400000
set_option maxRecDepth 100000

/-- All but one block are as they were. -/
structure But (g : Nat) (w w' : World) : Prop where
  os : w'.os = w.os
  tape : w'.tape = w.tape
  output : w'.output = w.output
  size : w.heap.size ≤ w'.heap.size
  block : ∀ j, j < w.heap.size → j ≠ g → w'.heap[j]? = w.heap[j]?

theorem But.set (g i : Nat) (w : World) (v : Value) : But g w (w.setCell ⟨g, i, none⟩ v) := ⟨rfl, rfl, rfl, by simp [World.setCell], fun j _ hn => by simp [World.setCell, Array.getElem?_modify, Ne.symm hn]⟩

theorem set_row {w : World} {b i : Nat} {cs : Array Value} {v : Value} {t : TypeId} (h : w.heap[b]? = some (.cells cs t (0, 0))) : (w.setCell ⟨b, i, none⟩ v).heap[b]? = some (.cells (cs.setIfInBounds i v) t (0, 0)) := by
  simp [World.setCell, Array.getElem?_modify, h]

theorem set_two {w : World} {b : Nat} {x y a c : Value} {t : TypeId} (h : w.heap[b]? = some (.cells #[x, y] t (0, 0))) : (((w.setCell ⟨b, 0, none⟩ a).setCell ⟨b, 1, none⟩ c).drew).heap[b]? = some (.cells #[a, c] t (0, 0)) := by
  have h1 := set_row (i := 1) (v := c) (set_row (i := 0) (v := a) h)
  exact h1

theorem common_any {p q : K} (w : World) (hp : p.Ok) (hq : q.Ok) :
    Calls Try.prog 37 #[pv p, pv q] w fun e w' => e = .returned (pv (com p q)) ∧ Below w.heap.size w w' := by
  obtain ⟨fl1, fl2, _⟩ := len_facts hp.2.2 hq.2.2
  have hX := u32_xor_nat p.x q.x hp.2.2 hq.2.2
  have hxl : p.x ^^^ q.x < 4294967296 := Nat.lt_of_lt_of_le fl1 (by
    have : (4294967296 : Nat) = 2 ^ 32 := by decide
    rw [this]; exact Nat.pow_le_pow_right (by omega) fl2)
  have HZ := fun u => hid (lz_any (p.x ^^^ q.x) u hxl)
  have hp1 := hp.1
  have hq1 := hq.1
  have hcn : comN p q ≤ 32 := by unfold comN; omega
  have HM : Hid (min (min (p.n : Int) (q.n : Int)) (32 - (Lib.bitLen (p.x ^^^ q.x) : Int)) = (comN p q : Int)) := by
    unfold Hid comN same; omega
  have HA : Hid (bits .andNot .u32 (p.x : Int) ((2 ^ (32 - comN p q) - 1 : Nat) : Int) = ((com p q).x : Int)) := by
    have h1 := pow_le32 (comN p q)
    unfold Hid
    rw [u32_andNot_nat _ _ hp.2.2 (by have := Nat.pow_pos (n := 32 - comN p q) (by omega : 0 < 2); omega), andNot_pow hp.2.2 (by omega)]
    rfl
  have HP := hid (pow_pred (comN p q) hcn)
  have HC : Hid (com p q = ⟨(com p q).x, comN p q⟩) := rfl
  have HXL := hid hxl
  generalize hbl : Lib.bitLen (p.x ^^^ q.x) = bl at *
  generalize p.x ^^^ q.x = xo at *
  unfold pv
  rw [show (com p q).n = comN p q from rfl]
  generalize (com p q).x = cx at *
  generalize comN p q = cn at *
  generalize p.x = px at *
  generalize p.n = pn at *
  generalize q.x = qx at *
  generalize q.n = qn at *
  have hmin : ∀ (W : World) (ts : Array TypeId) (t : TypeId), (Builtin.min_ ts t #[.int .i64 (pn : Int), .int .i64 (qn : Int), .int .i64 (32 - (bl : Int))]).run Try.prog W = .ok (.int .i64 (cn : Int)) W := fun W ts t => by
    have h := HM.out
    rw [← h]
    simp [Builtin.min_, Builtin.min2]
    omega
  obtain ⟨wa, hwa⟩ : ∃ wa, wa = ((w.alloc (.cells #[.int .u32 (px : Int), .int .i64 (pn : Int)] 31)).alloc (.cells #[.int .u32 (qx : Int), .int .i64 (qn : Int)] 31)).alloc (.cells #[.int .u32 0, .int .i64 0] 31) := ⟨_, rfl⟩
  have hb0 : Below w.heap.size w wa := by rw [hwa]; exact (((Below.refl _ _).alloc (Nat.le_refl _) _).alloc (by simp) _).alloc (by simp; omega) _
  obtain ⟨w1, hw1⟩ : ∃ w1, w1 = w.alloc (.cells #[.int .u32 (px : Int), .int .i64 (pn : Int)] 31) := ⟨_, rfl⟩
  obtain ⟨w2, hw2⟩ : ∃ w2, w2 = w1.alloc (.cells #[.int .u32 (qx : Int), .int .i64 (qn : Int)] 31) := ⟨_, rfl⟩
  have hs1 : w1.heap.size = w.heap.size + 1 := by rw [hw1]; simp
  have hs2 : w2.heap.size = w.heap.size + 2 := by rw [hw2]; simp; omega
  have hwa2 : wa = w2.alloc (.cells #[.int .u32 0, .int .i64 0] 31) := by rw [hwa, hw2, hw1]
  have r1 : wa.heap[w.heap.size]? = some (.cells #[.int .u32 (px : Int), .int .i64 (pn : Int)] 31) := by
    have h1 : Below w1.heap.size w1 wa := by rw [hwa2, hw2]; exact ((Below.refl _ _).alloc (Nat.le_refl _) _).alloc (by simp) _
    rw [h1.block _ (by omega), hw1]; exact heap_alloc_new w _
  have r2 : wa.heap[w.heap.size + 1]? = some (.cells #[.int .u32 (qx : Int), .int .i64 (qn : Int)] 31) := by
    have h1 : Below w2.heap.size w2 wa := by rw [hwa2]; exact (Below.refl _ _).alloc (Nat.le_refl _) _
    rw [h1.block _ (by omega), hw2, ← hs1]; exact heap_alloc_new w1 _
  have r3 : wa.heap[w.heap.size + 2]? = some (.cells #[.int .u32 0, .int .i64 0] 31) := by
    rw [hwa2, ← hs2]; exact heap_alloc_new w2 _
  have p0 : wa.cell? ⟨w.heap.size, 0, none⟩ = some (.int .u32 (px : Int)) := by rw [cell_of_row _ _ _ _ _ _ r1]; rfl
  have p1 : wa.cell? ⟨w.heap.size, 1, none⟩ = some (.int .i64 (pn : Int)) := by rw [cell_of_row _ _ _ _ _ _ r1]; rfl
  have q0 : wa.cell? ⟨w.heap.size + 1, 0, none⟩ = some (.int .u32 (qx : Int)) := by rw [cell_of_row _ _ _ _ _ _ r2]; rfl
  have q1 : wa.cell? ⟨w.heap.size + 1, 1, none⟩ = some (.int .i64 (qn : Int)) := by rw [cell_of_row _ _ _ _ _ _ r2]; rfl
  have R3 := hid r3
  have HWA := hid hwa
  clear hw1 hw2 hs1 hs2 hwa2 r1 r2 r3
  clear hbl fl1 hp hq HC hxl hwa
  go_enter Try.func37, Try.ntmps37
  go_upto_region 1 with fail
  rw [← HWA.out]
  go_upto_region 2 with (go_at_call 55; refine (HZ _).out.mono ?_; rintro e w' ⟨rfl, rfl⟩)
  go_upto_region 3 with fail
  refine wp_region_still_tail 7 (by kernel_rfl) (by kernel_rfl) ?_
  iterate 7 still_step
  refine wpStill_nil ?_
  have e1 : bits .andNot .u32 (px : Int) (4294967295 / 2 ^ cn) = (cx : Int) := by
    rw [← HA.out, ← HP.out]; simp
  rw [e1]
  have d0 : w'.cell? ⟨w.heap.size + 1 + 1, 0, none⟩ = some (.int .u32 0) := by rw [cell_of_row _ _ _ _ _ _ R3.out]; rfl
  have d1 : w'.cell? ⟨w.heap.size + 1 + 1, 1, none⟩ = some (.int .i64 0) := by rw [cell_of_row _ _ _ _ _ _ R3.out]; rfl
  have f0 : w'.frozen? ⟨w.heap.size + 1 + 1, 0, none⟩ = false := frozen_of_row _ _ _ _ _ R3.out
  have f1 : w'.frozen? ⟨w.heap.size + 1 + 1, 1, none⟩ = false := frozen_of_row _ _ _ _ _ R3.out
  go_wp2_with fail
  have r4 := set_two (a := .int .u32 (cx : Int)) (c := .int .i64 (cn : Int)) R3.out
  have HB4 : Hid (Below w.heap.size w (((w'.setCell ⟨w.heap.size + 1 + 1, 0, none⟩ (.int .u32 (cx : Int))).setCell ⟨w.heap.size + 1 + 1, 1, none⟩ (.int .i64 (cn : Int))).drew)) := by
    have h1 := (hb0.setCell (p := ⟨w.heap.size + 1 + 1, 0, none⟩) (by show w.heap.size ≤ w.heap.size + 1 + 1; omega) (.int .u32 (cx : Int))).setCell (p := ⟨w.heap.size + 1 + 1, 1, none⟩) (by show w.heap.size ≤ w.heap.size + 1 + 1; omega) (.int .i64 (cn : Int))
    exact ⟨h1.os, h1.tape, h1.output, h1.size, h1.block⟩
  generalize (((w'.setCell ⟨w.heap.size + 1 + 1, 0, none⟩ (.int .u32 (cx : Int))).setCell ⟨w.heap.size + 1 + 1, 1, none⟩ (.int .i64 (cn : Int))).drew) = W at *
  have g0 : W.cell? ⟨w.heap.size + 1 + 1, 0, none⟩ = some (.int .u32 (cx : Int)) := by rw [cell_of_row _ _ _ _ _ _ r4]; rfl
  have g1 : W.cell? ⟨w.heap.size + 1 + 1, 1, none⟩ = some (.int .i64 (cn : Int)) := by rw [cell_of_row _ _ _ _ _ _ r4]; rfl
  refine bodyPost_ret (v := .agg #[.int .u32 (cx : Int), .int .i64 (cn : Int)]) (by simp [results, Try.results37, go_sem, g0, g1]) rfl ⟨rfl, HB4.out⟩
end Go.Proofs.Ytmnafocmbcgdiab
