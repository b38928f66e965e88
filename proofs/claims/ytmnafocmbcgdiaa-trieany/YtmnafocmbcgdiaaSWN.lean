/-
  Get of an empty trie.
-/
import Derived.Test.YtmnafocmbcgdiaaSVS
import Derived.StillTailTactics
namespace Go.Proofs.Ytmnafocmbcgdiaa.St
open Go.Proofs.Ytmnafocmbcgdiaa Go.ChangeShapes Go.WideShapes Go.ChangeAt Go.RowKit Go.Shelf Tri N
attribute [local go_sem] Oper.semAt_some
set_option maxHeartbeats 4000000
set_option maxRecDepth 100000

theorem ownFrom_belowG {β : Type} {B : Nat} {I : β → World → Prop} (hs : ∀ k W, I k W → B ≤ W.heap.size) (h : ∀ k W W', I k W → Below B W W' → I k W') : OwnFrom B I := fun k W W' row hi hg hr =>
  h k W W' hi ⟨hg.os, hg.tape, hg.output, hg.size, fun j hj => hg.block j (Nat.lt_of_lt_of_le hj (hs k W hi)) (fun e => by have := (hr j e.symm).1; omega)⟩

theorem get_nil {X : Nat → Prop} {tb : Nat} (p : K) (w : World) (hT : TrieAt w X tb .nil) (hp : p.Ok) :
    Calls Try.prog 18 #[.pointer (some ⟨tb, 0, none⟩), pv p] w fun e w' => e = .returned (.tuple #[.string ⟨#[]⟩, .int .i64 3]) ∧ Below w.heap.size w w' := by
  obtain ⟨hmem, hlt, ⟨m, hrow, hmt, hL⟩, hwf⟩ := hT
  obtain rfl : m = .nil := by cases m with
    | nil => rfl
    | node b c k u l r => cases hmt
  obtain ⟨w3, hw3⟩ : ∃ w3, w3 = (((w.alloc (.cells #[.int .u32 (p.x : Int), .int .i64 (p.n : Int)] 32)).alloc (.cells #[.string ⟨#[]⟩] 9)).alloc (.cells #[.int .i64 0] 27)) := ⟨_, rfl⟩
  have b03 : Below w.heap.size w w3 := by rw [hw3]; exact ((((Below.refl _ _).alloc (Nat.le_refl _) _).alloc (by simp) _).alloc (by simp; omega) _)
  have hs3 : w3.heap.size = w.heap.size + 3 := by rw [hw3]; simp
  have r0 : w3.heap[w.heap.size]? = some (.cells #[.int .u32 (p.x : Int), .int .i64 (p.n : Int)] 32) := by
    rw [hw3, Below.heap_alloc _ _ _ (by simp <;> omega), Below.heap_alloc _ _ _ (by simp <;> omega)]; exact heap_alloc_new w _
  have r1 : w3.heap[w.heap.size + 1]? = some (.cells #[.string ⟨#[]⟩] 9) := by
    have h := heap_alloc_new (w.alloc (.cells #[.int .u32 (p.x : Int), .int .i64 (p.n : Int)] 32)) (.cells #[.string ⟨#[]⟩] 9)
    rw [World.size_alloc] at h
    rw [hw3, Below.heap_alloc _ _ _ (by simp <;> omega)]; exact h
  have r2 : w3.heap[w.heap.size + 2]? = some (.cells #[.int .i64 0] 27) := by
    have h := heap_alloc_new ((w.alloc (.cells #[.int .u32 (p.x : Int), .int .i64 (p.n : Int)] 32)).alloc (.cells #[.string ⟨#[]⟩] 9)) (.cells #[.int .i64 0] 27)
    rw [World.size_alloc, World.size_alloc] at h
    rw [hw3]; exact h
  have HW3 := hid hw3
  have HV := hid (valid_ok w3 hp)
  have x0 : w3.cell? ⟨w.heap.size, 0, none⟩ = some (.int .u32 (p.x : Int)) := by rw [cell_of_row _ _ _ _ _ _ r0]; rfl
  have x1 : w3.cell? ⟨w.heap.size, 1, none⟩ = some (.int .i64 (p.n : Int)) := by rw [cell_of_row _ _ _ _ _ _ r0]; rfl
  have HRR : Hid (w3.heap[w.heap.size]? = some (.cells #[.int .u32 (p.x : Int), .int .i64 (p.n : Int)] 32) ∧ w3.heap[w.heap.size + 1]? = some (.cells #[.string ⟨#[]⟩] 9) ∧ w3.heap[w.heap.size + 2]? = some (.cells #[.int .i64 0] 27)) := ⟨r0, r1, r2⟩
  have HB3 := hid b03
  have HS3 := hid hs3
  have HROW := hid hrow
  have HLIE : Hid (Lies w X .nil) := hL
  have HWF : Hid (WF top.x (top.x + top.s) Tr.nil) := hwf
  unfold pv at HV ⊢
  clear hw3 b03 hs3 r0 r1 r2 hrow hL hwf hlt hmem hmt
  refine (callsIn_wide (n := 9)).1 ?_
  refine callsIn_of_wp_marks Try.func18 rfl trivial ?_ rfl
  refine wpIn_wide.2 ?_
  simp only [Try.ntmps18, List.size_toArray, List.length_cons, List.length_nil, Nat.reduceAdd, Nat.reduceSub, Array.replicate_succ, Array.replicate_zero, List.push_toArray, List.append_toArray, List.nil_append, List.cons_append]
  go_upto_region 2 with fail
  rw [← HW3.out]
  go_wp2_with fail
  refine HV.out.mono ?_
  rintro _ w4 ⟨rfl, hb4⟩
  have hs4 := hb4.size
  have b04 : Below w.heap.size w w4 := HB3.out.trans (hb4.mono (by have := HS3.out; omega))
  obtain ⟨r0, r1, r2⟩ := HRR.out
  have k0 := below_keeps hb4 r0 (by have := HS3.out; omega)
  have k1 := below_keeps hb4 r1 (by have := HS3.out; omega)
  have k2 := below_keeps hb4 r2 (by have := HS3.out; omega)
  have x0 : w4.cell? ⟨w.heap.size, 0, none⟩ = some (.int .u32 (p.x : Int)) := by rw [cell_of_row _ _ _ _ _ _ k0]; rfl
  have t0 : w4.cell? ⟨tb, 0, none⟩ = some (.pointer none) := by rw [cell_of_row _ _ _ _ _ _ (below_keeps b04 HROW.out (Array.getElem?_eq_some_iff.1 HROW.out).1)]; rfl
  have HB4 := hid b04
  have HKK : Hid (w4.heap[w.heap.size + 1]? = some (.cells #[.string ⟨#[]⟩] 9) ∧ w4.heap[w.heap.size + 2]? = some (.cells #[.int .i64 0] 27)) := ⟨k1, k2⟩
  have HS4 : Hid (w.heap.size + 3 ≤ w4.heap.size) := by have := HS3.out; unfold Hid; omega
  clear hb4 b04 k0 k1 k2 hs4 r0 r1 r2
  go_upto_region 4 with fail
  refine wp_region_still_tail 6 (by kernel_rfl) (by kernel_rfl) ?_
  simp only [List.take_succ_cons, List.take_zero, List.drop_succ_cons, List.drop_zero]
  iterate 6 still_step
  refine wpStill_nil ?_
  obtain ⟨w5, hw5⟩ : ∃ w5, w5 = w4.drew := ⟨_, rfl⟩
  have HHD := hid (holding_any .nil p.x w5)
  rw [show MT.nil.ptr = .pointer none from rfl, hw5] at HHD
  go_wp2_with fail
  refine HHD.out.mono ?_
  rintro _ w8 ⟨rfl, ew⟩
  go_wp2_with fail
  obtain ⟨w8, hw8⟩ : ∃ w8, w8 = ((w4.alloc (.cells #[.pointer none] 90)).alloc (.cells #[.int .u32 (p.x : Int)] 30)).drew := ⟨_, rfl⟩
  rw [← hw8]
  have hs8 : w8.heap.size = w4.heap.size + 2 := by rw [hw8]; show ((w4.alloc _).alloc _).heap.size = _; simp
  have hb8 : Below w4.heap.size w4 w8 := by
    rw [hw8]
    have h : Below w4.heap.size w4 ((w4.alloc (.cells #[.pointer none] 90)).alloc (.cells #[.int .u32 (p.x : Int)] 30)) := ((Below.refl _ _).alloc (Nat.le_refl _) _).alloc (by simp) _
    exact ⟨h.os, h.tape, h.output, h.size, h.block⟩
  have q0 : w8.heap[w4.heap.size]? = some (.cells #[MT.nil.ptr] 90) := by
    rw [hw8]
    show ((w4.alloc _).alloc _).heap[w4.heap.size]? = _
    rw [Below.heap_alloc _ _ _ (by simp)]; exact heap_alloc_new w4 _
  have q1 : w8.heap[w4.heap.size + 1]? = some (.cells #[.int .u32 (p.x : Int)] 30) := by
    rw [hw8]
    show ((w4.alloc _).alloc _).heap[w4.heap.size + 1]? = _
    have := heap_alloc_new (w4.alloc (.cells #[.pointer none] 90)) (.cells #[.int .u32 (p.x : Int)] 30)
    rwa [World.size_alloc] at this
  have HI0 : Hid (w8.heap.size ≤ w8.heap.size ∧ Below w8.heap.size w8 w8) := ⟨Nat.le_refl _, Below.refl _ _⟩
  have HQ : Hid (w8.heap[w4.heap.size]? = some (.cells #[MT.nil.ptr] 90) ∧ w8.heap[w4.heap.size + 1]? = some (.cells #[.int .u32 (p.x : Int)] 30) ∧ Below w4.heap.size w4 w8) := ⟨q0, q1, hb8⟩
  have HS8 := hid hs8
  clear hw8 hs8 hb8 q0 q1 ew x0 t0 x1 hw5
  refine wpIn_wide.1 (wpIn_gives (n := 9) (F := Fence.wide) rfl (by omega) (gf := 53) (lb := #[.pointer (some ⟨w4.heap.size, 0, none⟩), .pointer (some ⟨w4.heap.size + 1, 0, none⟩)]) rfl trivial (enters_of Try.func53 (by kernel_rfl) rfl)
    (holding_gives 8 (by omega) X w4.heap.size (w4.heap.size + 1) .nil p.x HWF.out) (fun _ => rfl)
    (fun _ W => w8.heap.size ≤ W.heap.size ∧ Below w8.heap.size w8 W) ?hI ?hF ?h0 ?a1 ?assign ?body ?done)
  case hI =>
    refine ownFrom_belowG (fun k W hi => hi.1) ?_
    rintro k W W' ⟨i1, i2⟩ hb
    exact ⟨Nat.le_trans i1 hb.size, i2.trans hb⟩
  case hF =>
    rintro k W ⟨i1, i2⟩
    obtain ⟨q0, q1, hb8⟩ := HQ.out
    exact ⟨below_keeps i2 q0 (Array.getElem?_eq_some_iff.1 q0).1, below_keeps i2 q1 (Array.getElem?_eq_some_iff.1 q1).1, trivial⟩
  case h0 => exact HI0.out
  case assign =>
    intro l x W K hK
    gi_wp2
    exact hK
  case body =>
    intro l k x W hi hx
    simp [path] at hx
  case done =>
    rintro D W hD ⟨i1, i2⟩ hK
    obtain ⟨q0, q1, hb8⟩ := HQ.out
    obtain ⟨k1, k2⟩ := HKK.out
    have h4 := HS4.out
    have h8 := HS8.out
    have hb48 : Below w4.heap.size w4 W := hb8.trans (i2.mono (by omega))
    have i6 := below_keeps hb48 k1 (by omega)
    have i7 := below_keeps hb48 k2 (by omega)
    have c0 : W.cell? ⟨w.heap.size + 1, 0, none⟩ = some (.string ⟨#[]⟩) := by rw [cell_of_row _ _ _ _ _ _ i6]; rfl
    have f0 : W.frozen? ⟨w.heap.size + 1, 0, none⟩ = false := frozen_of_row _ _ _ _ _ i6
    obtain ⟨Wa, hWa⟩ : ∃ Wa, Wa = (W.setCell ⟨w.heap.size + 1, 0, none⟩ (.string ⟨#[]⟩)) := ⟨_, rfl⟩
    have bt1 : Chg (fun b => b = w.heap.size + 1) W Wa := by rw [hWa]; exact (Chg.of_but (X := fun b => b = w.heap.size + 1) (But.set _ 0 _ _) rfl)
    have j7 : Wa.heap[w.heap.size + 2]? = some (.cells #[.int .i64 0] 27) := (bt1.block _ (Array.getElem?_eq_some_iff.1 i7).1 (by omega)).trans i7
    have d1 : Wa.cell? ⟨w.heap.size + 1 + 1, 0, none⟩ = some (.int .i64 0) := by rw [cell_of_row _ _ _ _ _ _ j7]; rfl
    have g1 : Wa.frozen? ⟨w.heap.size + 1 + 1, 0, none⟩ = false := frozen_of_row _ _ _ _ _ j7
    have j6 : Wa.heap[w.heap.size + 1]? = some (.cells #[.string ⟨#[]⟩] 9) := by rw [hWa]; exact (set_row i6)
    obtain ⟨Wb, hWb⟩ : ∃ Wb, Wb = Wa.setCell ⟨w.heap.size + 1 + 1, 0, none⟩ (.int .i64 3) := ⟨_, rfl⟩
    have bt2 : But (w.heap.size + 2) Wa Wb := by rw [hWb]; exact But.set _ _ _ _
    have RV : Wb.heap[w.heap.size + 1]? = some (.cells #[.string ⟨#[]⟩] 9) := (bt2.block _ (Array.getElem?_eq_some_iff.1 j6).1 (by omega)).trans j6
    have RE : Wb.heap[w.heap.size + 1 + 1]? = some (.cells #[.int .i64 3] 27) := by rw [hWb]; exact set_row j7
    have KD : Wb.heap[D]? = some (.deferred (some [])) := (bt2.block D (Nat.lt_of_lt_of_le (Array.getElem?_eq_some_iff.1 hK).1 bt1.size) (by omega)).trans ((bt1.block D (Array.getElem?_eq_some_iff.1 hK).1 (by omega)).trans hK)
    have hbW : Below w.heap.size w W := HB4.out.trans (hb48.mono (by omega))
    have hbWa : Below w.heap.size w Wa := ⟨bt1.os.trans hbW.os, bt1.tape.trans hbW.tape, bt1.output.trans hbW.output, Nat.le_trans hbW.size bt1.size, fun x hx => (bt1.block x (Nat.lt_of_lt_of_le hx hbW.size) (by omega)).trans (hbW.block x hx)⟩
    have BZ : Below w.heap.size w Wb := bt2.below hbWa (Nat.le_trans (by omega) bt1.size) (by omega)
    have HWA := hid hWa
    have HWB := hid hWb
    have HE : Hid (Wb.heap[w.heap.size + 1]? = some (.cells #[.string ⟨#[]⟩] 9) ∧ Wb.heap[w.heap.size + 1 + 1]? = some (.cells #[.int .i64 3] 27) ∧ Wb.heap[D]? = some (.deferred (some [])) ∧ Below w.heap.size w Wb ∧ w.heap.size + 3 ≤ D) := ⟨RV, RE, KD, BZ, by omega⟩
    rw [hWa] at d1 g1
    clear i1 i2 i6 i7 hK hD hWa hWb bt1 bt2 j6 j7 RV RE KD BZ h4 h8 hbW hbWa q0 q1 hb8 k1 k2 hb48
    go_wp2_with fail
    rw [← HWA.out, ← HWB.out]
    obtain ⟨RV, RE, hKz, BZ, hD3⟩ := HE.out
    have hbf : Below w.heap.size w (Wb.putObj D (.deferred none)) := BZ.trans (belowK_b (w := w) (Nat.le_refl _) Wb D _ _ (by omega) hKz rfl rfl)
    have rz : (Wb.putObj D (.deferred none)).heap[w.heap.size + 1]? = some (.cells #[.string ⟨#[]⟩] 9) := (World.putObj_heap_other (by omega)).trans RV
    have ry : (Wb.putObj D (.deferred none)).heap[w.heap.size + 1 + 1]? = some (.cells #[.int .i64 3] 27) := (World.putObj_heap_other (by omega)).trans RE
    have u0 : (Wb.putObj D (.deferred none)).cell? ⟨w.heap.size + 1, 0, none⟩ = some (.string ⟨#[]⟩) := by rw [cell_of_row _ _ _ _ _ _ rz]; rfl
    have ue : (Wb.putObj D (.deferred none)).cell? ⟨w.heap.size + 1 + 1, 0, none⟩ = some (.int .i64 3) := by rw [cell_of_row _ _ _ _ _ _ ry]; rfl
    refine ⟨by simp, .inl ⟨_, _, rfl, run_takeDeferred hKz, ?_⟩⟩
    exact ⟨_, (by simp [results, Try.results18, go_sem, u0, ue]), rfl, hbf⟩
end Go.Proofs.Ytmnafocmbcgdiaa.St
