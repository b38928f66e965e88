/-
  Trie.Get: the walk.
-/
import Derived.Test.YtmnafocmbcgdiabWA
namespace Go.Proofs.Ytmnafocmbcgdiab
open Go.ChangeShapes Go.WideShapes Go.ChangeAt Go.RowKit Go.Shelf Tri N
attribute [local go_sem] Oper.semAt_some
set_option maxHeartbeats 4000000
set_option maxRecDepth 100000

theorem ownFrom_belowG {β : Type} {B : Nat} {I : β → World → Prop} (hs : ∀ k W, I k W → B ≤ W.heap.size) (h : ∀ k W W', I k W → Below B W W' → I k W') : OwnFrom B I := fun k W W' row hi hg hr =>
  h k W W' hi ⟨hg.os, hg.tape, hg.output, hg.size, fun j hj => hg.block j (Nat.lt_of_lt_of_le hj (hs k W hi)) (fun e => by have := (hr j e.symm).1; omega)⟩

theorem get_any {X : Nat → Prop} {tb : Nat} {t : Tr} (p : K) (w : World) (hT : TrieAt w X tb t) (hp : p.Ok) :
    Calls Try.prog 23 #[.pointer (some ⟨tb, 0, none⟩), pv p] w fun e w' => e = .returned (getV (lookT t p)) ∧ Below w.heap.size w w' := by
  obtain ⟨hmem, hlt, ⟨m, hrow, hmt, hL⟩, hwf⟩ := hT
  have hlt0 := (Array.getElem?_eq_some_iff.1 hrow).1
  obtain ⟨w1, hw1⟩ : ∃ w1, w1 = w.alloc (.cells #[.int .u32 (p.x : Int), .int .i64 (p.n : Int)] 31) := ⟨_, rfl⟩
  obtain ⟨w2, hw2⟩ : ∃ w2, w2 = w1.alloc (.cells #[.int .i64 0] 3) := ⟨_, rfl⟩
  obtain ⟨w3, hw3⟩ : ∃ w3, w3 = w2.alloc (.cells #[.int .i64 0] 26) := ⟨_, rfl⟩
  have hs1 : w1.heap.size = w.heap.size + 1 := by rw [hw1]; simp
  have hs2 : w2.heap.size = w.heap.size + 2 := by rw [hw2]; simp; omega
  have hs3 : w3.heap.size = w.heap.size + 3 := by rw [hw3]; simp; omega
  have b1 : Below w.heap.size w w1 := by rw [hw1]; exact (Below.refl _ _).alloc (Nat.le_refl _) _
  have b2 : Below w1.heap.size w1 w2 := by rw [hw2]; exact (Below.refl _ _).alloc (Nat.le_refl _) _
  have b3 : Below w2.heap.size w2 w3 := by rw [hw3]; exact (Below.refl _ _).alloc (Nat.le_refl _) _
  have b03 : Below w.heap.size w w3 := b1.trans ((b2.trans (b3.mono (by omega))).mono (by omega))
  have r0 : w3.heap[w.heap.size]? = some (.cells #[.int .u32 (p.x : Int), .int .i64 (p.n : Int)] 31) := by
    rw [b3.block _ (by omega), b2.block _ (by omega), hw1]; exact heap_alloc_new w _
  have r1 : w3.heap[w.heap.size + 1]? = some (.cells #[.int .i64 0] 3) := by
    rw [b3.block _ (by omega), hw2, ← hs1]; exact heap_alloc_new w1 _
  have r2 : w3.heap[w.heap.size + 2]? = some (.cells #[.int .i64 0] 26) := by rw [hw3, ← hs2]; exact heap_alloc_new w2 _
  have HW3 : Hid (w3 = ((w.alloc (.cells #[.int .u32 (p.x : Int), .int .i64 (p.n : Int)] 31)).alloc (.cells #[.int .i64 0] 3)).alloc (.cells #[.int .i64 0] 26)) := by unfold Hid; rw [hw3, hw2, hw1]
  have HV := hid (valid_ok w3 hp)
  have x0 : w3.cell? ⟨w.heap.size, 0, none⟩ = some (.int .u32 (p.x : Int)) := by rw [cell_of_row _ _ _ _ _ _ r0]; rfl
  have x1 : w3.cell? ⟨w.heap.size, 1, none⟩ = some (.int .i64 (p.n : Int)) := by rw [cell_of_row _ _ _ _ _ _ r0]; rfl
  have R0 := hid r0
  have R1 := hid r1
  have R2 := hid r2
  have HB3 := hid b03
  have HS3 := hid hs3
  have HROW := hid hrow
  have HL := hid hL
  have HWF : Hid (WF top.x (top.x + top.s) m.tr) := by unfold Hid; rw [hmt]; exact hwf
  have HRES : Hid (firstK p (path m p.x) = lookT t p) := by unfold Hid; rw [firstK_path, hmt]
  obtain ⟨mp, hmp⟩ := ptr_is m
  have HMP := hid hmp
  unfold pv at HV ⊢
  clear hw1 hw2 hw3 hs1 hs2 hs3 b1 b2 b3 b03 r0 r1 r2 hrow hL hwf hlt hmem hmp hmt hlt0
  refine (callsIn_wide (n := 9)).1 ?_
  refine callsIn_of_wp_marks Try.func23 rfl trivial ?_ rfl
  refine wpIn_wide.2 ?_
  simp only [Try.ntmps23, List.size_toArray, List.length_cons, List.length_nil, Nat.reduceAdd, Nat.reduceSub, Array.replicate_succ, Array.replicate_zero, List.push_toArray, List.append_toArray, List.nil_append, List.cons_append]
  go_upto_region 2 with fail
  rw [← HW3.out]
  go_wp2_with fail
  refine HV.out.mono ?_
  rintro _ w4 ⟨rfl, hb4⟩
  have hs4 := hb4.size
  have b04 : Below w.heap.size w w4 := HB3.out.trans (hb4.mono (by have := HS3.out; omega))
  have k0 := below_keeps hb4 R0.out (by have := HS3.out; omega)
  have k1 := below_keeps hb4 R1.out (by have := HS3.out; omega)
  have k2 := below_keeps hb4 R2.out (by have := HS3.out; omega)
  have x0 : w4.cell? ⟨w.heap.size, 0, none⟩ = some (.int .u32 (p.x : Int)) := by rw [cell_of_row _ _ _ _ _ _ k0]; rfl
  have t0 : w4.cell? ⟨tb, 0, none⟩ = some (.pointer mp) := by rw [← HMP.out, cell_of_row _ _ _ _ _ _ (below_keeps b04 HROW.out (Array.getElem?_eq_some_iff.1 HROW.out).1)]; rfl
  have HB4 := hid b04
  have K0 := hid k0
  have K1 := hid k1
  have K2 := hid k2
  have HS4 : Hid (w.heap.size + 3 ≤ w4.heap.size) := by have := HS3.out; unfold Hid; omega
  clear hb4 b04 k0 k1 k2 hs4
  go_upto_region 4 with fail
  refine wp_region_still_tail 6 (by kernel_rfl) (by kernel_rfl) ?_
  simp only [List.take_succ_cons, List.take_zero, List.drop_succ_cons, List.drop_zero]
  iterate 6 still_step
  refine wpStill_nil ?_
  obtain ⟨w5, hw5⟩ : ∃ w5, w5 = w4.drew := ⟨_, rfl⟩
  have HHD := hid (holding_any m p.x w5)
  rw [HMP.out, hw5] at HHD
  go_wp2_with fail
  refine HHD.out.mono ?_
  rintro _ w8 ⟨rfl, ew⟩
  go_wp2_with fail
  obtain ⟨w8, hw8⟩ : ∃ w8, w8 = ((w4.alloc (.cells #[.pointer mp] 48)).alloc (.cells #[.int .u32 (p.x : Int)] 29)).drew := ⟨_, rfl⟩
  rw [← hw8]
  have hs8 : w8.heap.size = w4.heap.size + 2 := by rw [hw8]; show ((w4.alloc _).alloc _).heap.size = _; simp
  have hb8 : Below w4.heap.size w4 w8 := by
    rw [hw8]
    have h : Below w4.heap.size w4 ((w4.alloc (.cells #[.pointer mp] 48)).alloc (.cells #[.int .u32 (p.x : Int)] 29)) := ((Below.refl _ _).alloc (Nat.le_refl _) _).alloc (by simp) _
    exact ⟨h.os, h.tape, h.output, h.size, h.block⟩
  have q0 : w8.heap[w4.heap.size]? = some (.cells #[m.ptr] 48) := by
    rw [hw8, HMP.out]
    show ((w4.alloc _).alloc _).heap[w4.heap.size]? = _
    rw [Below.heap_alloc _ _ _ (by simp)]; exact heap_alloc_new w4 _
  have q1 : w8.heap[w4.heap.size + 1]? = some (.cells #[.int .u32 (p.x : Int)] 29) := by
    rw [hw8]
    show ((w4.alloc _).alloc _).heap[w4.heap.size + 1]? = _
    have := heap_alloc_new (w4.alloc (.cells #[.pointer mp] 48)) (.cells #[.int .u32 (p.x : Int)] 29)
    rwa [World.size_alloc] at this
  have HI0 : Hid (w4.heap.size + 2 ≤ w8.heap.size ∧ Below w.heap.size w w8 ∧ w8.heap[w.heap.size]? = some (.cells #[.int .u32 (p.x : Int), .int .i64 (p.n : Int)] 31) ∧ w8.heap[w4.heap.size]? = some (.cells #[m.ptr] 48) ∧ w8.heap[w4.heap.size + 1]? = some (.cells #[.int .u32 (p.x : Int)] 29) ∧ w8.heap[w.heap.size + 1]? = some (.cells #[.int .i64 0] 3) ∧ w8.heap[w.heap.size + 2]? = some (.cells #[.int .i64 0] 26) ∧ NoneTo p (path m p.x) 0) :=
    ⟨by omega, HB4.out.trans (hb8.mono (by have := HS4.out; omega)), below_keeps hb8 K0.out (by have := HS4.out; omega), q0, q1, below_keeps hb8 K1.out (by have := HS4.out; omega), below_keeps hb8 K2.out (by have := HS4.out; omega), fun i q h => by omega⟩
  have HS8 := hid hs8
  clear hw8 hs8 hb8 q0 q1 ew x0 t0 x1 hw5
  refine wpIn_wide.1 (wpIn_givesTo (n := 9) (F := Fence.wide) rfl (by omega) (gf := 39) (lb := #[.pointer (some ⟨w4.heap.size, 0, none⟩), .pointer (some ⟨w4.heap.size + 1, 0, none⟩)]) rfl trivial (enters_of Try.func39 (by kernel_rfl) rfl)
    (holding_to 8 (by omega) X w4.heap.size (w4.heap.size + 1) m p.x HWF.out) (fun _ => rfl)
    (fun k W => w4.heap.size + 2 ≤ W.heap.size ∧ Below w.heap.size w W ∧ W.heap[w.heap.size]? = some (.cells #[.int .u32 (p.x : Int), .int .i64 (p.n : Int)] 31) ∧ W.heap[w4.heap.size]? = some (.cells #[m.ptr] 48) ∧ W.heap[w4.heap.size + 1]? = some (.cells #[.int .u32 (p.x : Int)] 29) ∧ W.heap[w.heap.size + 1]? = some (.cells #[.int .i64 0] 3) ∧ W.heap[w.heap.size + 2]? = some (.cells #[.int .i64 0] 26) ∧ NoneTo p (path m p.x) k) (fun c W => c = .ret ∧ w4.heap.size + 2 ≤ W.heap.size ∧ Below w.heap.size w W ∧ ∃ v, firstK p (path m p.x) = some v ∧ W.heap[w.heap.size + 1]? = some (.cells #[.int .i64 v] 3) ∧ W.heap[w.heap.size + 2]? = some (.cells #[.int .i64 0] 26)) ?hI ?hIx ?hF ?h0
    (fun q => { tmps := #[.pointer (some ⟨tb, 0, none⟩), .agg #[.int .u32 (p.x : Int), .int .i64 (p.n : Int)], undef, .pointer (some ⟨w.heap.size, 0, none⟩), .pointer (some ⟨w.heap.size + 1, 0, none⟩), .pointer (some ⟨w.heap.size + 1 + 1, 0, none⟩), .int .i64 0, q.ptr, .agg #[.int .u32 (p.x : Int), .int .i64 (p.n : Int)], .bool true, .bool false, undef, .pointer (some ⟨tb, 0, none⟩), .pointer (some ⟨tb, 0, none⟩), .pointer (some ⟨tb, 0, none⟩), .pointer mp, .pointer (some ⟨w.heap.size, 0, none⟩), .int .u32 (p.x : Int), .func (.func 39) #[] #[.pointer (some ⟨w4.heap.size, 0, none⟩), .pointer (some ⟨w4.heap.size + 1, 0, none⟩)], q.ptr, undef, undef, undef, undef, undef, undef, undef, undef, undef, undef, undef, undef, undef, undef, undef, undef, undef, undef, undef, undef], defers := [] }) ?assign ?body ?done ?stop)
  case hI =>
    rw [HS8.out]
    refine ownFrom_belowG (fun k W hi => hi.1) ?_
    rintro k W W' ⟨i1, i2, i3, i4, i5, i6, i7, i8⟩ hb
    have h4 := HS4.out
    exact ⟨Nat.le_trans i1 hb.size, i2.trans (hb.mono (by omega)), below_keeps hb i3 (by omega), below_keeps hb i4 (by omega), below_keeps hb i5 (by omega), below_keeps hb i6 (by omega), below_keeps hb i7 (by omega), i8⟩
  case hIx =>
    rw [HS8.out]
    refine ownFrom_belowG (fun k W hi => hi.2.1) ?_
    rintro k W W' ⟨i0, i1, i2, v, i3, i4, i5⟩ hb
    have h4 := HS4.out
    exact ⟨i0, Nat.le_trans i1 hb.size, i2.trans (hb.mono (by omega)), v, i3, below_keeps hb i4 (by omega), below_keeps hb i5 (by omega)⟩
  case hF =>
    rintro k W ⟨i1, i2, i3, i4, i5, i6, i7, i8⟩
    exact ⟨i4, i5, HL.out.below i2⟩
  case h0 => exact HI0.out
  case assign =>
    intro l x W K hK
    obtain ⟨xp, hxp⟩ := ptr_is x
    rw [hxp] at hK ⊢
    gi_wp2
    exact hK
  case body =>
    rintro l k x W ⟨i1, i2, i3, i4, i5, i6, i7, i8⟩ hx
    obtain ⟨⟨b, c, kk, u, lt, rt, rfl⟩, hxl⟩ := path_node (List.mem_of_getElem? hx)
    obtain ⟨_, hrow, hbox, _, _⟩ := hxl _ _ (HL.out.below i2)
    have n0 : W.cell? ⟨b, 0, none⟩ = some (.int .u32 (kk.x : Int)) := by rw [cell_of_row _ _ _ _ _ _ hrow]; rfl
    have n1 : W.cell? ⟨b, 1, none⟩ = some (.int .i64 (kk.n : Int)) := by rw [cell_of_row _ _ _ _ _ _ hrow]; rfl
    have x0 : W.cell? ⟨w.heap.size, 0, none⟩ = some (.int .u32 (p.x : Int)) := by rw [cell_of_row _ _ _ _ _ _ i3]; rfl
    have x1 : W.cell? ⟨w.heap.size, 1, none⟩ = some (.int .i64 (p.n : Int)) := by rw [cell_of_row _ _ _ _ _ _ i3]; rfl
    have HNX : Hid ((MT.node b c kk u lt rt).isK p = none → KeepsFrom w8.heap.size W W.drew ∧ w4.heap.size + 2 ≤ W.drew.heap.size ∧ Below w.heap.size w W.drew ∧ W.drew.heap[w.heap.size]? = some (.cells #[.int .u32 (p.x : Int), .int .i64 (p.n : Int)] 31) ∧ W.drew.heap[w4.heap.size]? = some (.cells #[m.ptr] 48) ∧ W.drew.heap[w4.heap.size + 1]? = some (.cells #[.int .u32 (p.x : Int)] 29) ∧ W.drew.heap[w.heap.size + 1]? = some (.cells #[.int .i64 0] 3) ∧ W.drew.heap[w.heap.size + 2]? = some (.cells #[.int .i64 0] 26) ∧ NoneTo p (path m p.x) (k + 1)) := fun hn =>
      ⟨⟨Nat.le_refl _, fun _ _ _ h _ => h⟩, i1, ⟨i2.os, i2.tape, i2.output, i2.size, i2.block⟩, i3, i4, i5, i6, i7, fun i q hi hq => by
        rcases Nat.lt_or_ge i k with h | h
        · exact i8 i q h hq
        · obtain rfl : i = k := by omega
          rw [hx] at hq
          obtain rfl := Option.some.inj hq
          exact hn⟩
    rw [show (MT.node b c kk u lt rt).ptr = .pointer (some ⟨b, 0, none⟩) from rfl]
    by_cases he : kk = p
    · have hq : ∀ u : World, (Op.equalIn 10000 31 (.agg #[.int .u32 (kk.x : Int), .int .i64 (kk.n : Int)]) (.agg #[.int .u32 (p.x : Int), .int .i64 (p.n : Int)])).run Try.prog u = .ok true u := fun u => by rw [eqK]; simp [he]
      cases u with
      | none =>
        have n2 : W.cell? ⟨b, 2, none⟩ = some (.pointer none) := by rw [cell_of_row _ _ _ _ _ _ hrow]; rfl
        have HN2 := hid (HNX.out (by show (if kk = p then none else none) = none; split <;> rfl))
        clear hrow hbox i1 i2 i3 i4 i5 i6 i7 i8 hx hxl HNX he
        gi_wp2
        gi_region
        all_goals (gi_wp2; exact HN2.out)
      | some v =>
        have n2 : W.cell? ⟨b, 2, none⟩ = some (.pointer (some ⟨c, 0, none⟩)) := by rw [cell_of_row _ _ _ _ _ _ hrow]; rfl
        have v0 : W.cell? ⟨c, 0, none⟩ = some (.int .i64 v) := by rw [cell_of_row _ _ _ _ _ _ (hbox v rfl).2]; rfl
        have d0 : W.cell? ⟨w.heap.size + 1, 0, none⟩ = some (.int .i64 0) := by rw [cell_of_row _ _ _ _ _ _ i6]; rfl
        have f0 : W.frozen? ⟨w.heap.size + 1, 0, none⟩ = false := frozen_of_row _ _ _ _ _ i6
        obtain ⟨Wa, hWa⟩ : ∃ Wa, Wa = W.setCell ⟨w.heap.size + 1, 0, none⟩ (.int .i64 v) := ⟨_, rfl⟩
        have bt1 : But (w.heap.size + 1) W Wa := by rw [hWa]; exact But.set _ _ _ _
        have j7 : Wa.heap[w.heap.size + 2]? = some (.cells #[.int .i64 0] 26) := (bt1.block _ (Array.getElem?_eq_some_iff.1 i7).1 (by omega)).trans i7
        have d1 : Wa.cell? ⟨w.heap.size + 1 + 1, 0, none⟩ = some (.int .i64 0) := by rw [cell_of_row _ _ _ _ _ _ j7]; rfl
        have f1 : Wa.frozen? ⟨w.heap.size + 1 + 1, 0, none⟩ = false := frozen_of_row _ _ _ _ _ j7
        have HST : Hid (firstK p (path m p.x) = some v) := firstK_at i8 hx (by show (if kk = p then some v else none) = some v; rw [if_pos he])
        rw [hWa] at d1 f1
        have HFIN : Hid (∀ Wc, Wc.heap = (Wa.setCell ⟨w.heap.size + 1 + 1, 0, none⟩ (.int .i64 0)).heap → Wc.os = W.os → Wc.tape = W.tape → Wc.output = W.output → KeepsFrom w8.heap.size W Wc ∧ w4.heap.size + 2 ≤ Wc.heap.size ∧ Below w.heap.size w Wc ∧ ∃ v, firstK p (path m p.x) = some v ∧ Wc.heap[w.heap.size + 1]? = some (.cells #[.int .i64 v] 3) ∧ Wc.heap[w.heap.size + 2]? = some (.cells #[.int .i64 0] 26)) := fun Wc hh h1 h2 h3 => by
          have bt2 : But (w.heap.size + 2) Wa (Wa.setCell ⟨w.heap.size + 1 + 1, 0, none⟩ (.int .i64 0)) := But.set _ _ _ _
          have h4 := HS4.out
          have h8 := HS8.out
          have hsz : W.heap.size ≤ Wc.heap.size := by rw [hh]; exact Nat.le_trans bt1.size bt2.size
          have hbl : ∀ j, j < W.heap.size → j ≠ w.heap.size + 1 → j ≠ w.heap.size + 2 → Wc.heap[j]? = W.heap[j]? := fun j hj n1 n2 => by
            rw [hh, bt2.block j (Nat.lt_of_lt_of_le hj bt1.size) n2, bt1.block j hj n1]
          refine ⟨⟨hsz, fun k o hk ho hc => ?_⟩, Nat.le_trans i1 hsz, ⟨h1.trans i2.os, h2.trans i2.tape, h3.trans i2.output, Nat.le_trans i2.size hsz, fun j hj => (hbl j (by omega) (by omega) (by omega)).trans (i2.block j hj)⟩, v, HST.out, ?_, ?_⟩
          · exact (hbl k (Array.getElem?_eq_some_iff.1 ho).1 (by omega) (by omega)).trans ho
          · rw [hh, bt2.block _ (Nat.lt_of_lt_of_le (Array.getElem?_eq_some_iff.1 i6).1 bt1.size) (by omega), hWa]; exact set_row i6
          · rw [hh]; exact set_row j7
        rw [hWa] at HFIN
        clear hrow hbox i1 i2 i3 i4 i5 i6 i7 i8 hx hxl HNX he hWa bt1 j7
        gi_wp2
        gi_region
        all_goals (gi_wp2; exact ⟨(HFIN.out _ (by rfl) (by rfl) (by rfl) (by rfl)).1, rfl, (HFIN.out _ (by rfl) (by rfl) (by rfl) (by rfl)).2⟩)
    · have hq : ∀ u : World, (Op.equalIn 10000 31 (.agg #[.int .u32 (kk.x : Int), .int .i64 (kk.n : Int)]) (.agg #[.int .u32 (p.x : Int), .int .i64 (p.n : Int)])).run Try.prog u = .ok false u := fun u => by rw [eqK]; simp [he]
      have HN2 := hid (HNX.out (by show (if kk = p then u else none) = none; rw [if_neg he]))
      clear hrow hbox i1 i2 i3 i4 i5 i6 i7 i8 hx hxl HNX he
      gi_wp2
      gi_region
      all_goals (gi_wp2; exact HN2.out)
  case done =>
    rintro D W hD ⟨i1, i2, i3, i4, i5, i6, i7, i8⟩ hK
    have HGV : Hid (getV (lookT t p) = .tuple #[.int .i64 0, .int .i64 3]) := by unfold Hid; rw [← HRES.out, firstK_none i8]; rfl
    have HDD := hid hD
    have d0 : W.cell? ⟨w.heap.size + 1, 0, none⟩ = some (.int .i64 0) := by rw [cell_of_row _ _ _ _ _ _ i6]; rfl
    have f0 : W.frozen? ⟨w.heap.size + 1, 0, none⟩ = false := frozen_of_row _ _ _ _ _ i6
    obtain ⟨Wa, hWa⟩ : ∃ Wa, Wa = W.setCell ⟨w.heap.size + 1, 0, none⟩ (.int .i64 0) := ⟨_, rfl⟩
    have bt1 : But (w.heap.size + 1) W Wa := by rw [hWa]; exact But.set _ _ _ _
    have j7 : Wa.heap[w.heap.size + 2]? = some (.cells #[.int .i64 0] 26) := (bt1.block _ (Array.getElem?_eq_some_iff.1 i7).1 (by omega)).trans i7
    have d1 : Wa.cell? ⟨w.heap.size + 1 + 1, 0, none⟩ = some (.int .i64 0) := by rw [cell_of_row _ _ _ _ _ _ j7]; rfl
    have f1 : Wa.frozen? ⟨w.heap.size + 1 + 1, 0, none⟩ = false := frozen_of_row _ _ _ _ _ j7
    have j6 : Wa.heap[w.heap.size + 1]? = some (.cells #[.int .i64 0] 3) := by rw [hWa]; exact set_row i6
    obtain ⟨Wb, hWb⟩ : ∃ Wb, Wb = Wa.setCell ⟨w.heap.size + 1 + 1, 0, none⟩ (.int .i64 3) := ⟨_, rfl⟩
    have bt2 : But (w.heap.size + 2) Wa Wb := by rw [hWb]; exact But.set _ _ _ _
    have h4 := HS4.out
    have h8 := HS8.out
    have RV : Wb.heap[w.heap.size + 1]? = some (.cells #[.int .i64 0] 3) := (bt2.block _ (Array.getElem?_eq_some_iff.1 j6).1 (by omega)).trans j6
    have RE : Wb.heap[w.heap.size + 1 + 1]? = some (.cells #[.int .i64 3] 26) := by rw [hWb]; exact set_row j7
    have KD : Wb.heap[D]? = some (.deferred (some [])) := (bt2.block D (Nat.lt_of_lt_of_le (Array.getElem?_eq_some_iff.1 hK).1 bt1.size) (by omega)).trans ((bt1.block D (Array.getElem?_eq_some_iff.1 hK).1 (by omega)).trans hK)
    have BZ : Below w.heap.size w Wb := bt2.below (bt1.below i2 (by omega) (by omega)) (Nat.le_trans (by omega) bt1.size) (by omega)
    have HWB : Hid (Wb = (W.setCell ⟨w.heap.size + 1, 0, none⟩ (.int .i64 0)).setCell ⟨w.heap.size + 1 + 1, 0, none⟩ (.int .i64 3)) := by unfold Hid; rw [hWb, hWa]
    rw [hWa] at d1 f1
    have HE := hid (And.intro RV (And.intro RE (And.intro KD BZ)))
    clear i1 i2 i3 i4 i5 i6 i7 i8 hK hD hWa hWb bt1 bt2 j6 j7 RV RE KD BZ h4 h8
    go_wp2_with fail
    rw [← HWB.out]
    obtain ⟨RV, RE, KD, BZ⟩ := HE.out
    have hKz : Wb.heap[D]? = some (.deferred (some [])) := KD
    have hbf : Below w.heap.size w (Wb.putObj D (.deferred none)) := BZ.trans (belowK_b (w := w) (Nat.le_refl _) Wb D _ _ (by have := HDD.out; have := HS8.out; have := HS4.out; omega) hKz rfl rfl)
    have rz : (Wb.putObj D (.deferred none)).heap[w.heap.size + 1]? = some (.cells #[.int .i64 0] 3) := (World.putObj_heap_other (by have := HDD.out; have := HS8.out; have := HS4.out; omega)).trans RV
    have ry : (Wb.putObj D (.deferred none)).heap[w.heap.size + 1 + 1]? = some (.cells #[.int .i64 3] 26) := (World.putObj_heap_other (by have := HDD.out; have := HS8.out; have := HS4.out; omega)).trans RE
    have g0 : (Wb.putObj D (.deferred none)).cell? ⟨w.heap.size + 1, 0, none⟩ = some (.int .i64 0) := by rw [cell_of_row _ _ _ _ _ _ rz]; rfl
    have g1 : (Wb.putObj D (.deferred none)).cell? ⟨w.heap.size + 1 + 1, 0, none⟩ = some (.int .i64 3) := by rw [cell_of_row _ _ _ _ _ _ ry]; rfl
    refine ⟨by simp, .inl ⟨_, _, rfl, run_takeDeferred hKz, ?_⟩⟩
    refine ⟨_, (by simp [results, Try.results23, go_sem, g0, g1]; rfl), ?_, hbf⟩
    rw [HGV.out]
  case stop =>
    rintro D c W hD ⟨i0, i1, i2, v, i3, i4, i5⟩ hK
    subst i0
    have HGV : Hid (getV (lookT t p) = .tuple #[.int .i64 v, .int .i64 0]) := by unfold Hid; rw [← HRES.out, i3]; rfl
    have HDD := hid hD
    have HE := hid (And.intro i4 (And.intro i5 (And.intro hK i2)))
    clear i1 i2 i3 i4 i5 hK hD
    refine wpIn_wide.2 ?_
    go_wp2_with fail
    obtain ⟨RV, RE, KD, BZ⟩ := HE.out
    have hKz : W.heap[D]? = some (.deferred (some [])) := KD
    have hbf : Below w.heap.size w (W.putObj D (.deferred none)) := BZ.trans (belowK_b (w := w) (Nat.le_refl _) W D _ _ (by have := HDD.out; have := HS8.out; have := HS4.out; omega) hKz rfl rfl)
    have rz : (W.putObj D (.deferred none)).heap[w.heap.size + 1]? = some (.cells #[.int .i64 v] 3) := (World.putObj_heap_other (by have := HDD.out; have := HS8.out; have := HS4.out; omega)).trans RV
    have ry : (W.putObj D (.deferred none)).heap[w.heap.size + 1 + 1]? = some (.cells #[.int .i64 0] 26) := (World.putObj_heap_other (by have := HDD.out; have := HS8.out; have := HS4.out; omega)).trans RE
    have g0 : (W.putObj D (.deferred none)).cell? ⟨w.heap.size + 1, 0, none⟩ = some (.int .i64 v) := by rw [cell_of_row _ _ _ _ _ _ rz]; rfl
    have g1 : (W.putObj D (.deferred none)).cell? ⟨w.heap.size + 1 + 1, 0, none⟩ = some (.int .i64 0) := by rw [cell_of_row _ _ _ _ _ _ ry]; rfl
    refine ⟨by simp, .inl ⟨_, _, rfl, run_takeDeferred hKz, ?_⟩⟩
    refine ⟨_, (by simp [results, Try.results23, go_sem, g0, g1]; rfl), ?_, hbf⟩
    rw [HGV.out]
end Go.Proofs.Ytmnafocmbcgdiab
