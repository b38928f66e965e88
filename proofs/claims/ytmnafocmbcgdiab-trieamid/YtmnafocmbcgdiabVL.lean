/-
  trie.hang below a node, in its high half.
-/
import Derived.Test.YtmnafocmbcgdiabVJ
namespace Go.Proofs.Ytmnafocmbcgdiab
open Go.ChangeShapes Go.WideShapes Go.ChangeAt Go.RowKit Tri N
set_option maxHeartbeats 1000000
set_option maxRecDepth 100000

theorem hang_down1 {X : Nat → Prop} (b c1 : Nat) (k : K) (u : Option Int) (l r : MT) (p : K) (c : Nat) (v : Option Int) (w : World) (hX : ∀ b, X b → b < w.heap.size) (hc : BoxAt w X c v) (hm : Lies w X (.node b c1 k u l r)) (hn : nodes l.tr + nodes r.tr < 1152921504606846976 - 4) (hk : k.Ok) (hp : p.Ok) (hne : k ≠ p) (hf : com p k = k) (hsd : side p.x k.n = 1) (ih : ∀ u : World, w.heap.size ≤ u.heap.size → Lies u X r → BoxAt u X c v → Calls Try.prog 22 #[r.ptr, pv p, vptr c v] u (HangPost X u (hang r.tr p v))) :
    Calls Try.prog 22 #[.pointer (some ⟨b, 0, none⟩), pv p, vptr c v] w (HangPost X w (join k u l.tr (hang r.tr p v))) := by
  have hm0 := hm
  obtain ⟨_, hrow, hbu, hl, hr⟩ := hm
  obtain ⟨wa, hwa, hs⟩ := HS.begin (p := p) hrow
  have hb0 := hs.be
  have HCM : Hid (∀ u, Calls Try.prog 37 #[pv p, pv k] u fun e w' => e = .returned (pv (com p k)) ∧ Below u.heap.size u w') := fun u => common_any u hp hk
  have hq : ∀ u : World, (Op.equalIn 10000 31 (.agg #[.int .u32 (k.x : Int), .int .i64 (k.n : Int)]) (.agg #[.int .u32 (p.x : Int), .int .i64 (p.n : Int)])).run Try.prog u = .ok false u := fun u => by rw [eqK]; simp [hne]
  have HWA := hid hwa
  obtain ⟨vp, hvp⟩ := vptr_is c v
  obtain ⟨vq, hvq⟩ := vptr_is c1 u
  obtain ⟨lp, hlp⟩ := ptr_is l
  obtain ⟨rp, hrp⟩ := ptr_is r
  have hq2 : ∀ u : World, (Op.equalIn 10000 31 (.agg #[.int .u32 ((com p k).x : Int), .int .i64 ((com p k).n : Int)]) (.agg #[.int .u32 (k.x : Int), .int .i64 (k.n : Int)])).run Try.prog u = .ok true u := fun u => by rw [eqK]; simp [hf]
  have HHF := fun u => hid (half_any p.x k.n u hk.1)
  rw [hsd] at HHF
  have HIH : Hid (∀ u, Below w.heap.size w u → Calls Try.prog 22 #[r.ptr, pv p, vptr c v] u (HangPost X u (hang r.tr p v))) := fun u hu => ih u hu.size (hr.below hu) (hc.below hu)
  have HJ : Hid (∀ (u' : World) (m : MT), Below w.heap.size w u' → Lies u' X m → m.tr = hang r.tr p v → Calls Try.prog 36 #[pv k, vptr c1 u, .agg #[l.ptr, m.ptr]] u' (HangPost X u' (join k u l.tr (hang r.tr p v)))) := fun u' m hu hm he => by
    have h1 := nodes_hang r.tr p v
    rw [← he] at h1 ⊢
    exact join_any k c1 u l m u' (fun b hb => by have := hX b hb; have := hu.size; omega) (hbu.below hu) (hl.below hu) hm (by omega) (by have := vals_le l.tr; have := vals_le m.tr; omega)
  rw [hvp] at HIH
  rw [hvp]
  rw [hvq] at HJ
  rw [hlp] at HJ
  rw [hrp] at HIH
  obtain ⟨f, hfe⟩ : ∃ f, f = com p k := ⟨_, rfl⟩
  rw [← hfe] at hq2 HCM hf
  have HFE := hid hf
  rw [hvq, hlp, hrp] at hs
  generalize vals (.node k u l.tr r.tr) = cv at *
  generalize nodes (.node k u l.tr r.tr) = cn at *
  have HS1 := hid hs
  generalize join k u l.tr (hang r.tr p v) = T at *
  unfold pv at ⊢
  clear hwa hb0 hc hX hrow hbu hl hr hvp hvq hlp hrp hn hs hne hm0 hk hp ih hfe hsd hf
  have x0 : wa.cell? ⟨w.heap.size, 0, none⟩ = some (.int .u32 (p.x : Int)) := by rw [cell_of_row _ _ _ _ _ _ HS1.out.pb]; rfl
  have x1 : wa.cell? ⟨w.heap.size, 1, none⟩ = some (.int .i64 (p.n : Int)) := by rw [cell_of_row _ _ _ _ _ _ HS1.out.pb]; rfl
  have n0 : wa.cell? ⟨b, 0, none⟩ = some (.int .u32 (k.x : Int)) := by rw [cell_of_row _ _ _ _ _ _ HS1.out.nd]; rfl
  have n1 : wa.cell? ⟨b, 1, none⟩ = some (.int .i64 (k.n : Int)) := by rw [cell_of_row _ _ _ _ _ _ HS1.out.nd]; rfl
  go_enter Try.func22, Try.ntmps22
  go_upto_region 2 with fail
  rw [← HWA.out]
  go_upto_region 4 with fail
  refine wp_region_still_tail 5 (by kernel_rfl) (by kernel_rfl) ?_
  simp only [List.take_succ_cons, List.take_zero, List.drop_succ_cons, List.drop_zero]
  iterate 5 still_step
  refine wpStill_nil ?_
  go_upto_region 6 with fail
  obtain ⟨wd, hwd⟩ : ∃ W, W = wa.drew := ⟨_, rfl⟩
  rw [← hwd]
  have HS2 : Hid (HS w wd b p k (.pointer vq) (.pointer lp) (.pointer rp) (.pointer none) (.pointer none) cv cn) := by unfold Hid; rw [hwd]; exact HS1.out.drew
  clear hwd x0 x1 n0 n1
  refine wp_region_mono' 7 dst6 (FG b wd.heap.size p k f) (by kernel_rfl) (by kernel_rfl) (FG.keeps _ _ _ _ _) ?_ ?_
  · simp only [List.take_succ_cons, List.take_zero, N.stepsOk]
    refine ⟨?_, ?_, ?_, ?_, ?_, ?_, ?_, trivial⟩
    · intro a u vs hb hold hdep
      have hu := HS2.out.grow hb
      refine wp_val (ex_load _ ⟨w.heap.size, 0, none⟩ (.tmp 4) _ rfl (hold 4 (dl6 (by decide))) (load_pre (x := .int .u32 (p.x : Int)) (y := .int .i64 (p.n : Int)) ?_ ?_)) ⟨_, rfl, rfl, hb, Below.refl _ _⟩
      · rw [cell_of_row _ _ _ _ _ _ hu.pb]; rfl
      · rw [cell_of_row _ _ _ _ _ _ hu.pb]; rfl
    · intro a u vs hb hold hdep
      exact wp_val (ex_move (.tmp 0) _ rfl (hold 0 (dl6 (by decide)))) ⟨_, rfl, rfl, hb, Below.refl _ _⟩
    · intro a u vs hb hold hdep
      have h0 := hdep ⟨1, .data⟩ (by simp) rfl (by decide)
      exact wp_val (ex_nil ⟨b, 0, none⟩ (.tmp 30) rfl (h0.1.trans h0.2)) ⟨_, rfl, rfl, hb, Below.refl _ _⟩
    · intro a u vs hb hold hdep
      have h0 := hdep ⟨2, .data⟩ (by simp) rfl (by decide)
      exact wp_val (ex_field _ ⟨b, 0, none⟩ (.tmp 31) 0 _ rfl (h0.1.trans h0.2) (fld_nd u).1) ⟨_, rfl, rfl, hb, Below.refl _ _⟩
    · intro a u vs hb hold hdep
      have h0 := hdep ⟨3, .data⟩ (by simp) rfl (by decide)
      have hu := HS2.out.grow hb
      refine wp_val (ex_load _ ⟨b, 0, none⟩ (.tmp 32) _ rfl (h0.1.trans h0.2) (load_pre (x := .int .u32 (k.x : Int)) (y := .int .i64 (k.n : Int)) ?_ ?_)) ⟨_, rfl, rfl, hb, Below.refl _ _⟩
      · rw [cell_of_row _ _ _ _ _ _ hu.nd]; rfl
      · rw [cell_of_row _ _ _ _ _ _ hu.nd]; rfl
    · intro a u vs hb hold hdep
      have h0 := hdep ⟨0, .data⟩ (by simp) rfl (by decide)
      have h4 := hdep ⟨4, .data⟩ (by simp) rfl (by decide)
      have e0 : a.eval (.tmp 29) = pv p := h0.1.trans h0.2
      have e4 : a.eval (.tmp 33) = pv k := h4.1.trans h4.2
      refine wp_call 37 _ _ rfl (enters_of Try.func37 (by kernel_rfl) rfl) #[pv p, pv k] (by simp only [List.map_toArray, List.map_cons, List.map_nil, e0, e4]) ?_
      refine (HCM.out u).mono ?_
      rintro _ u' ⟨rfl, hb'⟩
      exact ⟨_, rfl, _, rfl, rfl, hb.trans (hb'.mono hb.size), hb'⟩
    · intro a u vs hb hold hdep
      refine wp_val (ex_allocP u rfl) ?_
      have hb' : Below u.heap.size u (u.alloc (.cells #[.int .u32 0, .int .i64 0] 31)) := (Below.refl _ _).alloc (Nat.le_refl _) _
      exact ⟨_, rfl, ⟨_, rfl, hb.size, heap_alloc_new u _⟩, hb.trans (hb'.mono hb.size), hb'⟩
  intro vs u hb hF
  have e0 : vs 0 = pv p := hF 0 (by decide)
  have e1 : vs 1 = .pointer (some ⟨b, 0, none⟩) := hF 1 (by decide)
  have e2 : vs 2 = .pointer (some ⟨b, 0, none⟩) := hF 2 (by decide)
  have e3 : vs 3 = .pointer (some ⟨b, 0, none⟩) := hF 3 (by decide)
  have e4 : vs 4 = pv k := hF 4 (by decide)
  have e5 : vs 5 = pv f := hF 5 (by decide)
  obtain ⟨g, e6, g6, k6⟩ := hF 6 (by decide)
  clear hF
  simp only [List.drop_succ_cons, List.drop_zero, puts, List.range, List.range.loop, List.foldr, dst6, List.getD_cons_zero, List.getD_cons_succ, if_true, e0, e1, e2, e3, e4, e5, e6, Act.put, List.setIfInBounds_toArray, List.set_cons_zero, List.set_cons_succ]
  clear e0 e1 e2 e3 e4 e5 e6
  refine wpList_st rfl 31 _ _ rfl g #[.int .u32 (f.x : Int), .int .i64 (f.n : Int)] rfl rfl _ _ k6 (by kernel_rfl) rfl (by simp [Value.oneCell']) ?_
  intro wf hwf hbt
  have hg : w.heap.size + 2 ≤ g := Nat.le_trans HS2.out.sz g6
  have HG := hid hg
  have HS3 : Hid (HS w wf b p k (.pointer vq) (.pointer lp) (.pointer rp) (.pointer none) (.pointer none) cv cn) := (HS2.out.grow hb).but hbt hg
  have HFK := hid hwf
  unfold pv
  clear hb hwf hbt g6 k6 hg
  have x0 : wf.cell? ⟨w.heap.size, 0, none⟩ = some (.int .u32 (p.x : Int)) := by rw [cell_of_row _ _ _ _ _ _ HS3.out.pb]; rfl
  have x1 : wf.cell? ⟨w.heap.size, 1, none⟩ = some (.int .i64 (p.n : Int)) := by rw [cell_of_row _ _ _ _ _ _ HS3.out.pb]; rfl
  have n0 : wf.cell? ⟨b, 0, none⟩ = some (.int .u32 (k.x : Int)) := by rw [cell_of_row _ _ _ _ _ _ HS3.out.nd]; rfl
  have n1 : wf.cell? ⟨b, 1, none⟩ = some (.int .i64 (k.n : Int)) := by rw [cell_of_row _ _ _ _ _ _ HS3.out.nd]; rfl
  have k0 : wf.cell? ⟨g, 0, none⟩ = some (.int .u32 (f.x : Int)) := by rw [cell_of_row _ _ _ _ _ _ HFK.out]; rfl
  have k1 : wf.cell? ⟨g, 1, none⟩ = some (.int .i64 (f.n : Int)) := by rw [cell_of_row _ _ _ _ _ _ HFK.out]; rfl
  go_upto_region 7 with fail
  refine wp_region_still_tail 5 (by kernel_rfl) (by kernel_rfl) ?_
  simp only [List.take_succ_cons, List.take_zero, List.drop_succ_cons, List.drop_zero]
  iterate 5 still_step
  refine wpStill_nil ?_
  go_upto_region 8 with fail
  obtain ⟨wg, hwg⟩ : ∃ W, W = wf.drew := ⟨_, rfl⟩
  rw [← hwg]
  have HS4 : Hid (HS w wg b p k (.pointer vq) (.pointer lp) (.pointer rp) (.pointer none) (.pointer none) cv cn) := by unfold Hid; rw [hwg]; exact HS3.out.drew
  have HFK4 : Hid (wg.heap[g]? = some (.cells #[.int .u32 (f.x : Int), .int .i64 (f.n : Int)] 31)) := by unfold Hid; rw [hwg]; exact HFK.out
  clear hwg
  clear x0 x1 n0 n1 k0 k1
  have x0 : wg.cell? ⟨w.heap.size, 0, none⟩ = some (.int .u32 (p.x : Int)) := by rw [cell_of_row _ _ _ _ _ _ HS4.out.pb]; rfl
  have x1 : wg.cell? ⟨w.heap.size, 1, none⟩ = some (.int .i64 (p.n : Int)) := by rw [cell_of_row _ _ _ _ _ _ HS4.out.pb]; rfl
  have n3 : wg.cell? ⟨b, 3, none⟩ = some (.pointer lp) := by rw [cell_of_row _ _ _ _ _ _ HS4.out.nd]; rfl
  have n4 : wg.cell? ⟨b, 4, none⟩ = some (.pointer rp) := by rw [cell_of_row _ _ _ _ _ _ HS4.out.nd]; rfl
  have k0 : wg.cell? ⟨g, 0, none⟩ = some (.int .u32 (f.x : Int)) := by rw [cell_of_row _ _ _ _ _ _ HFK4.out]; rfl
  have k1 : wg.cell? ⟨g, 1, none⟩ = some (.int .i64 (f.n : Int)) := by rw [cell_of_row _ _ _ _ _ _ HFK4.out]; rfl
  have y0 : wg.cell? ⟨w.heap.size + 1, 0, none⟩ = some (.pointer none) := by rw [cell_of_row _ _ _ _ _ _ HS4.out.hb]; rfl
  have y1 : wg.cell? ⟨w.heap.size + 1, 1, none⟩ = some (.pointer none) := by rw [cell_of_row _ _ _ _ _ _ HS4.out.hb]; rfl
  have yf0 : wg.frozen? ⟨w.heap.size + 1, 0, none⟩ = false := frozen_of_row _ _ _ _ _ HS4.out.hb
  have yf1 : wg.frozen? ⟨w.heap.size + 1, 1, none⟩ = false := frozen_of_row _ _ _ _ _ HS4.out.hb
  go_upto_region 9 with fail
  obtain ⟨wh, hwh⟩ : ∃ W, W = (wg.setCell ⟨w.heap.size + 1, 0, none⟩ (.pointer lp)).setCell ⟨w.heap.size + 1, 1, none⟩ (.pointer rp) := ⟨_, rfl⟩
  rw [← hwh]
  have hbh : But (w.heap.size + 1) wg wh := by rw [hwh]; exact (But.set _ 0 _ _).trans (But.set _ 1 _ _)
  have HS5 : Hid (HS w wh b p k (.pointer vq) (.pointer lp) (.pointer rp) (.pointer lp) (.pointer rp) cv cn) := HS4.out.put hbh (by rw [hwh]; exact set_two' HS4.out.hb)
  have HFK5 : Hid (wh.heap[g]? = some (.cells #[.int .u32 (f.x : Int), .int .i64 (f.n : Int)] 31)) := (hbh.block g (Array.getElem?_eq_some_iff.1 HFK4.out).1 (by have := HG.out; omega)).trans HFK4.out
  clear hwh hbh y0 y1 yf0 yf1 x0 x1 n3 n4 k0 k1
  have EFN : Hid ((f.n : Int) = (k.n : Int)) := by unfold Hid; rw [HFE.out]
  have x0 : wh.cell? ⟨w.heap.size, 0, none⟩ = some (.int .u32 (p.x : Int)) := by rw [cell_of_row _ _ _ _ _ _ HS5.out.pb]; rfl
  have x1 : wh.cell? ⟨w.heap.size, 1, none⟩ = some (.int .i64 (p.n : Int)) := by rw [cell_of_row _ _ _ _ _ _ HS5.out.pb]; rfl
  have k0 : wh.cell? ⟨g, 0, none⟩ = some (.int .u32 (f.x : Int)) := by rw [cell_of_row _ _ _ _ _ _ HFK5.out]; rfl
  have k1 : wh.cell? ⟨g, 1, none⟩ = some (.int .i64 (k.n : Int)) := by rw [← EFN.out]; rw [cell_of_row _ _ _ _ _ _ HFK5.out]; rfl
  go_upto_region 10 with (go_at_call 38; refine (HHF _).out.mono ?_; rintro e _ ⟨rfl, ew⟩; obtain rfl := ew.symm)
  clear x0 x1 k0 k1
  refine wp_region_mono' 8 dst10 (FD X (w.heap.size + 1) 1 (.pointer rp) p (.pointer vp) (hang r.tr p v)) (by kernel_rfl) (by kernel_rfl) (FD.keeps _ _ _ _ _ _ _) ?_ ?_
  · simp only [List.take_succ_cons, List.take_zero, N.stepsOk]
    refine ⟨?_, ?_, ?_, ?_, ?_, ?_, ?_, ?_, trivial⟩
    · intro a u vs hb hold hdep
      exact wp_val (ex_move (.tmp 9) _ rfl (hold 9 (dl10 (by decide)))) ⟨_, rfl, rfl, hb, Below.refl _ _⟩
    · intro a u vs hb hold hdep
      exact wp_val (ex_move (.tmp 9) _ rfl (hold 9 (dl10 (by decide)))) ⟨_, rfl, rfl, hb, Below.refl _ _⟩
    · intro a u vs hb hold hdep
      have h0 := hdep ⟨1, .data⟩ (by simp) rfl (by decide)
      exact wp_val (ex_index _ (.tmp 7) (.tmp 51) _ _ _ rfl (hold 7 (dl10 (by decide))) (h0.1.trans h0.2) (idx_two (i := 1) (by decide) u)) ⟨_, rfl, rfl, hb, Below.refl _ _⟩
    · intro a u vs hb hold hdep
      have h0 := hdep ⟨2, .data⟩ (by simp) rfl (by decide)
      have hu := HS5.out.grow hb
      refine wp_val (ex_load _ ⟨w.heap.size + 1, 0 + 1, none⟩ (.tmp 52) _ rfl (h0.1.trans h0.2) (load_nd ?_)) ⟨_, rfl, rfl, hb, Below.refl _ _⟩
      rw [cell_of_row _ _ _ _ _ _ hu.hb]; rfl
    · intro a u vs hb hold hdep
      have hu := HS5.out.grow hb
      refine wp_val (ex_load _ ⟨w.heap.size, 0, none⟩ (.tmp 4) _ rfl (hold 4 (dl10 (by decide))) (load_pre (x := .int .u32 (p.x : Int)) (y := .int .i64 (p.n : Int)) ?_ ?_)) ⟨_, rfl, rfl, hb, Below.refl _ _⟩
      · rw [cell_of_row _ _ _ _ _ _ hu.pb]; rfl
      · rw [cell_of_row _ _ _ _ _ _ hu.pb]; rfl
    · intro a u vs hb hold hdep
      exact wp_val (ex_move (.tmp 2) _ rfl (hold 2 (dl10 (by decide)))) ⟨_, rfl, rfl, hb, Below.refl _ _⟩
    · intro a u vs hb hold hdep
      have h3 := hdep ⟨3, .data⟩ (by simp) rfl (by decide)
      have h4 := hdep ⟨4, .data⟩ (by simp) rfl (by decide)
      have h5 := hdep ⟨5, .data⟩ (by simp) rfl (by decide)
      have e3 : a.eval (.tmp 53) = (.pointer rp) := h3.1.trans h3.2
      have e4 : a.eval (.tmp 54) = pv p := h4.1.trans h4.2
      have e5 : a.eval (.tmp 55) = .pointer vp := h5.1.trans h5.2
      refine wp_call 22 _ _ rfl (enters_of Try.func22 (by kernel_rfl) rfl) #[(.pointer rp), pv p, .pointer vp] (by simp only [List.map_toArray, List.map_cons, List.map_nil, e3, e4, e5]) ?_
      have hu := HS5.out.grow hb
      refine (HIH.out u hu.be).mono ?_
      rintro _ u' ⟨m, rfl, m1, m2, hb'⟩
      exact ⟨_, rfl, _, rfl, ⟨m, rfl, m1, m2⟩, hb.trans (hb'.mono hb.size), hb'⟩
    · intro a u vs hb hold hdep
      have h0 := hdep ⟨0, .data⟩ (by simp) rfl (by decide)
      exact wp_val (ex_index _ (.tmp 7) (.tmp 50) _ _ _ rfl (hold 7 (dl10 (by decide))) (h0.1.trans h0.2) (idx_two (i := 1) (by decide) u)) ⟨_, rfl, rfl, hb, Below.refl _ _⟩
  intro vs u hb hF
  obtain ⟨m, e6, m1, m2⟩ := hF 6 (by decide)
  have e7 : vs 7 = .pointer (some ⟨w.heap.size + 1, 1, none⟩) := hF 7 (by decide)
  clear hF
  obtain ⟨mp, hmp⟩ := ptr_is m
  rw [hmp] at e6
  simp only [List.drop_succ_cons, List.drop_zero, puts, List.range, List.range.loop, List.foldr, dst10, List.getD_cons_zero, List.getD_cons_succ, if_true, e6, e7, Act.put, List.setIfInBounds_toArray, List.set_cons_zero, List.set_cons_succ]
  clear e6 e7
  generalize vs 0 = q0
  generalize vs 1 = q1
  generalize vs 2 = q2
  generalize vs 3 = q3
  generalize vs 4 = q4
  generalize vs 5 = q5
  have hu := HS5.out.grow hb
  refine wpList_st1 rfl 48 _ _ rfl (w.heap.size + 1) 1 (.pointer mp) rfl rfl rfl _ _ _ hu.hb (by kernel_rfl) (by show 1 < 2; omega) rfl ?_
  intro wi hwi hbi
  have HS6 : Hid (HS w wi b p k (.pointer vq) (.pointer lp) (.pointer rp) (.pointer lp) (.pointer mp) cv cn) := hu.put hbi hwi
  have HFK6 : Hid (wi.heap[g]? = some (.cells #[.int .u32 (f.x : Int), .int .i64 (f.n : Int)] 31)) := by
    have hlt := (Array.getElem?_eq_some_iff.1 HFK5.out).1
    exact (hbi.block g (Nat.lt_of_lt_of_le hlt hb.size) (by have := HG.out; omega)).trans (below_keeps hb HFK5.out hlt)
  have m3 : Lies wi X m := m2.but hu.hb (by decide) (by decide) hbi
  have HJ2 : Hid (∀ u', Below wi.heap.size wi u' → Calls Try.prog 36 #[pv k, .pointer vq, .agg #[.pointer lp, .pointer mp]] u' (HangPost X u' T)) := fun u' hu' => by
    have h := HJ.out u' m (HS6.out.be.trans (hu'.mono HS6.out.be.size)) (m3.below hu') m1
    rwa [hmp] at h
  have HFE2 : Hid ((f.x : Int) = (k.x : Int) ∧ (f.n : Int) = (k.n : Int)) := by unfold Hid; rw [HFE.out]; exact ⟨rfl, rfl⟩
  clear hb hu hwi hbi m1 m2 m3 hmp
  have n2 : wi.cell? ⟨b, 2, none⟩ = some (.pointer vq) := by rw [cell_of_row _ _ _ _ _ _ HS6.out.nd]; rfl
  have k0 : wi.cell? ⟨g, 0, none⟩ = some (.int .u32 (k.x : Int)) := by rw [← HFE2.out.1, cell_of_row _ _ _ _ _ _ HFK6.out]; rfl
  have k1 : wi.cell? ⟨g, 1, none⟩ = some (.int .i64 (k.n : Int)) := by rw [← HFE2.out.2, cell_of_row _ _ _ _ _ _ HFK6.out]; rfl
  have y0 : wi.cell? ⟨w.heap.size + 1, 0, none⟩ = some (.pointer lp) := by rw [cell_of_row _ _ _ _ _ _ HS6.out.hb]; rfl
  have y1 : wi.cell? ⟨w.heap.size + 1, 1, none⟩ = some (.pointer mp) := by rw [cell_of_row _ _ _ _ _ _ HS6.out.hb]; rfl
  unfold pv at HJ2
  go_upto_region 11 with fail
  refine wp_region_still_tail 6 (by kernel_rfl) (by kernel_rfl) ?_
  simp only [List.take_succ_cons, List.take_zero, List.drop_succ_cons, List.drop_zero]
  iterate 6 still_step
  refine wpStill_nil ?_
  go_wp2_with fail
  have HS7 : Hid (HS w wi.drew b p k (.pointer vq) (.pointer lp) (.pointer rp) (.pointer lp) (.pointer mp) cv cn) := HS6.out.drew
  refine (HJ2.out wi.drew ⟨rfl, rfl, rfl, Nat.le_refl _, fun _ _ => rfl⟩).mono ?_
  rintro _ w' ⟨m', rfl, h1, h2, h3⟩
  have HF : Hid (m'.tr = T ∧ Lies w' X m' ∧ Below w.heap.size w w') := ⟨h1, h2, HS7.out.be.trans (h3.mono HS7.out.be.size)⟩
  obtain ⟨mq, hmq⟩ := ptr_is m'
  rw [hmq]
  have HMP := hid hmq
  clear h1 h2 h3 hmq
  go_wp2_with fail
  go_ret
  exact ⟨m', by rw [HMP.out]; rfl, HF.out⟩
end Go.Proofs.Ytmnafocmbcgdiab
