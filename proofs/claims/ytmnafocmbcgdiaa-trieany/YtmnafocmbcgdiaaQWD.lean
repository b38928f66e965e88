/-
  Del of an empty trie.
-/
import Derived.Test.YtmnafocmbcgdiaaQWN
namespace Go.Proofs.Ytmnafocmbcgdiaa.Pa
open Go.Proofs.Ytmnafocmbcgdiaa Go.ChangeShapes Go.WideShapes Go.ChangeAt Go.RowKit Go.Shelf Tri N
set_option maxHeartbeats 4000000
set_option maxRecDepth 100000

theorem TrieAt.grow {w w' : World} {X : Nat → Prop} {tb : Nat} {t : Tr} (h : TrieAt w X tb t) (hb : Below w.heap.size w w') : TrieAt w' X tb t := by
  obtain ⟨h1, h2, ⟨m, h3, h4, h5⟩, h6⟩ := h
  exact ⟨h1, fun b hx => Nat.lt_of_lt_of_le (h2 b hx) hb.size, ⟨m, below_keeps hb h3 (Array.getElem?_eq_some_iff.1 h3).1, h4, h5.below hb⟩, h6⟩

theorem del_nil {X : Nat → Prop} {tb : Nat} (p : K) (w : World) (hT : TrieAt w X tb .nil) (hp : p.Ok) :
    Calls Try.prog 19 #[.pointer (some ⟨tb, 0, none⟩), pv p] w fun e w' => e = .returned (.tuple #[.agg #[.int .i64 0, .slice none 0 0], .int .i64 3]) ∧ Below w.heap.size w w' := by
  obtain ⟨w2, hw2⟩ : ∃ w2, w2 = (w.alloc (.cells #[.int .u32 (p.x : Int), .int .i64 (p.n : Int)] 32)).alloc (.cells #[.int .i64 0, .slice none 0 0] 46) := ⟨_, rfl⟩
  have b02 : Below w.heap.size w w2 := by rw [hw2]; exact ((Below.refl _ _).alloc (Nat.le_refl _) _).alloc (by simp) _
  have hs2 : w2.heap.size = w.heap.size + 2 := by rw [hw2]; simp
  have r0 : w2.heap[w.heap.size]? = some (.cells #[.int .u32 (p.x : Int), .int .i64 (p.n : Int)] 32) := by rw [hw2, Below.heap_alloc _ _ _ (by simp)]; exact heap_alloc_new w _
  have r1 : w2.heap[w.heap.size + 1]? = some (.cells #[.int .i64 0, .slice none 0 0] 46) := by
    have h := heap_alloc_new (w.alloc (.cells #[.int .u32 (p.x : Int), .int .i64 (p.n : Int)] 32)) (.cells #[.int .i64 0, .slice none 0 0] 46)
    rw [World.size_alloc] at h
    rw [hw2]; exact h
  have x0 : w2.cell? ⟨w.heap.size, 0, none⟩ = some (.int .u32 (p.x : Int)) := by rw [cell_of_row _ _ _ _ _ _ r0]; rfl
  have x1 : w2.cell? ⟨w.heap.size, 1, none⟩ = some (.int .i64 (p.n : Int)) := by rw [cell_of_row _ _ _ _ _ _ r0]; rfl
  have HG := hid (get_nil p w2 (hT.grow b02) hp)
  have HW2 := hid hw2
  have HB := hid b02
  have HS := hid hs2
  have HR := hid r1
  unfold pv at HG ⊢
  clear hw2 b02 hs2 r0 r1 hT hp
  go_enter Try.func19, Try.ntmps19
  go_upto_region 1 with fail
  rw [← HW2.out]
  go_wp2_with fail
  refine HG.out.mono ?_
  rintro _ w3 ⟨rfl, hb3⟩
  obtain ⟨w4, HW4⟩ : ∃ w4, Hid (w4 = w3.alloc (.cells #[.int .i64 0, .slice none 0 0] 46)) := ⟨_, rfl⟩
  have hb4 : Below w3.heap.size w3 w4 := by rw [HW4.out]; exact (Below.refl _ _).alloc (Nat.le_refl _) _
  have r4 : w4.heap[w3.heap.size]? = some (.cells #[.int .i64 0, .slice none 0 0] 46) := by rw [HW4.out]; exact heap_alloc_new w3 _
  have hs3 := hb3.size
  have hss := HS.out
  have k1 := below_keeps hb4 (below_keeps hb3 HR.out (by omega)) (by omega)
  have z0 : w4.cell? ⟨w3.heap.size, 0, none⟩ = some (.int .i64 0) := by rw [cell_of_row _ _ _ _ _ _ r4]; rfl
  have c0 : w4.cell? ⟨w.heap.size + 1, 0, none⟩ = some (.int .i64 0) := by rw [cell_of_row _ _ _ _ _ _ k1]; rfl
  have f0 : w4.frozen? ⟨w.heap.size + 1, 0, none⟩ = false := frozen_of_row _ _ _ _ _ k1
  have z1 : w4.cell? ⟨w3.heap.size, 1, none⟩ = some (.slice none 0 0) := by rw [cell_of_row _ _ _ _ _ _ r4]; rfl
  have c1 : w4.cell? ⟨w.heap.size + 1, 1, none⟩ = some (.slice none 0 0) := by rw [cell_of_row _ _ _ _ _ _ k1]; rfl
  have f1 : w4.frozen? ⟨w.heap.size + 1, 1, none⟩ = false := frozen_of_row _ _ _ _ _ k1
  obtain ⟨w5, HW5⟩ : ∃ w5, Hid (w5 = ((w4.setCell ⟨w.heap.size + 1, 0, none⟩ (.int .i64 0)).setCell ⟨w.heap.size + 1, 1, none⟩ (.slice none 0 0))) := ⟨_, rfl⟩
  have hc : Chg (fun b => b = w.heap.size + 1) w4 w5 := by rw [HW5.out]; exact ((Chg.of_but (X := fun b => b = w.heap.size + 1) (But.set _ 0 _ _) rfl).trans (Chg.of_but (X := fun b => b = w.heap.size + 1) (But.set _ 1 _ _) rfl))
  have k5 : w5.heap[w.heap.size + 1]? = some (.cells #[.int .i64 0, .slice none 0 0] 46) := by rw [HW5.out]; exact (set_row (set_row k1))
  have hbw : Below w.heap.size w w4 := HB.out.trans ((hb3.trans (hb4.mono hs3)).mono (by omega))
  have HBF : Hid (Below w.heap.size w w5) := ⟨hc.os.trans hbw.os, hc.tape.trans hbw.tape, hc.output.trans hbw.output, Nat.le_trans hbw.size hc.size, fun x hx => (hc.block x (Nat.lt_of_lt_of_le hx hbw.size) (by omega)).trans (hbw.block x hx)⟩
  have g0 : w5.cell? ⟨w.heap.size + 1, 0, none⟩ = some (.int .i64 0) := by rw [cell_of_row _ _ _ _ _ _ k5]; rfl
  have g1 : w5.cell? ⟨w.heap.size + 1, 1, none⟩ = some (.slice none 0 0) := by rw [cell_of_row _ _ _ _ _ _ k5]; rfl
  clear hb3 hb4 r4 hs3 hss k1 hc k5 hbw x0 x1
  go_upto_region 2 with fail
  rw [← HW4.out]
  go_wp2_with fail
  rw [← HW5.out]
  exact bodyPost_ret (v := .tuple #[.agg #[.int .i64 0, .slice none 0 0], .int .i64 3]) (by simp [results, Try.results19, go_sem, g0, g1]) rfl ⟨rfl, HBF.out⟩
end Go.Proofs.Ytmnafocmbcgdiaa.Pa
