import Derived.Test.YtpdnnikkaojnkaaGreatZA
import Derived.RangeFuncNested
import Derived.RangeFuncBound
import Derived.RangeFuncCalls
import Derived.RangeFuncLeaves
import Derived.Shelf.Abstract
import Derived.Shelf.RegionOpen
import Derived.OwnWalkIn
import Derived.TacticsInMore
import Derived.LoopNIn
import Derived.LoopIn
import Derived.Deep.LoopGhost
namespace Go.Proofs.YtpdnnikkaojnkaaGreat.Rt
open Go.Proofs.YtpdnnikkaojnkaaGreat Go.ChangeShapes Go.WideShapes Go.ChangeAt Go.RowKit Tri N
set_option maxHeartbeats 1000000
set_option maxRecDepth 100000
def dst15 (i : Nat) : Tmp := [82, 83, 84, 85, 86, 87, 88, 89, 90].getD i 0
theorem dl15 {s : Nat} (h : s ∉ [82, 83, 84, 85, 86, 87, 88, 89, 90]) : ∀ j, j < 9 -> dst15 j ≠ s := fun j hj e => h (by
 unfold dst15 at e
 rw [<- e, List.getD_eq_getElem?_getD, List.getElem?_eq_getElem (by exact hj)]
 exact List.getElem_mem _)
def FE (X : Nat -> Prop) (s g sd : Nat) (f p : K) (vp : Value) (t : Tr) (i : Nat) (v : Value) (u : World) : Prop :=
 match i with
 | 0 => v = .pointer (some ⟨s, 0, none⟩)
 | 1 => v = .int .u32 (p.x : Int)
 | 2 => v = .pointer (some ⟨g, 0 + 1, none⟩)
 | 3 => v = .int .i64 (f.n : Int)
 | 4 => v = .int .i64 (sd : Int)
 | 5 => v = pv p
 | 6 => v = vp
 | 7 => ∃ m : MT, v = m.ptr /\ m.tr = t /\ Lies u X m
 | _ => v = .pointer (some ⟨s + 1, 0 + sd, none⟩)
theorem FE.keeps (X : Nat -> Prop) (s g sd : Nat) (f p : K) (vp : Value) (t : Tr) : ∀ (i : Nat) (v : Value) (w w' : World), FE X s g sd f p vp t i v w -> Below w.heap.size w w' -> FE X s g sd f p vp t i v w' := fun i v w w' h hb => by
 match i with
 | 0 => exact h
 | 1 => exact h
 | 2 => exact h
 | 3 => exact h
 | 4 => exact h
 | 5 => exact h
 | 6 => exact h
 | 7 =>
  obtain ⟨m, h1, h2, h3⟩ := h
  exact ⟨m, h1, h2, h3.below hb⟩
 | n + 8 => exact h
theorem hang_fork0 {X : Nat -> Prop} (b c1 : Nat) (k : K) (u : Option Vt) (l r : MT) (p : K) (c : Nat) (v : Option Vt) (w : World) (hX : ∀ b, X b -> b < w.heap.size) (hc : BoxAt w X c v) (hm : Lies w X (.node b c1 k u l r)) (hn : nodes l.tr + nodes r.tr < 1152921504606846976 - 4) (hk : k.Ok) (hp : p.Ok) (hne : k ≠ p) (hf1 : com p k ≠ k) (hf2 : com p k ≠ p) (hsd : side k.x (com p k).n = 0) (hsp : side p.x (com p k).n = 1) :
  Calls Tryz.prog 149 #[.pointer (some ⟨b, 0, none⟩), pv p, vptr c v] w (HangPost X w (join (com p k) none (.node k u l.tr r.tr) (join p v .nil .nil))) := by
 have hm0 := hm
 obtain ⟨_, hrow, hbu, hl, hr⟩ := hm
 obtain ⟨wa, hwa, hs⟩ := HS.begin (p := p) hrow
 have hb0 := hs.be
 have HCM : Hid (∀ u, Calls Tryz.prog 151 #[pv p, pv k] u fun e w' => e = .returned (pv (com p k)) /\ Below u.heap.size u w') := fun u => common_any u hp hk
 have hq : ∀ u : World, (Op.equalIn 10000 36 (.agg #[.int .u32 (k.x : Int), .int .i64 (k.n : Int)]) (.agg #[.int .u32 (p.x : Int), .int .i64 (p.n : Int)])).run Tryz.prog u = .ok false u := fun u => by rw [eqK]; simp [hne]
 have HWA := hid hwa
 obtain ⟨vp, hvp⟩ := vptr_is c v
 obtain ⟨vq, hvq⟩ := vptr_is c1 u
 obtain ⟨lp, hlp⟩ := ptr_is l
 obtain ⟨rp, hrp⟩ := ptr_is r
 have hq2 : ∀ u : World, (Op.equalIn 10000 36 (.agg #[.int .u32 ((com p k).x : Int), .int .i64 ((com p k).n : Int)]) (.agg #[.int .u32 (k.x : Int), .int .i64 (k.n : Int)])).run Tryz.prog u = .ok false u := fun u => by rw [eqK]; simp [hf1]
 have hq3 : ∀ u : World, (Op.equalIn 10000 36 (.agg #[.int .u32 ((com p k).x : Int), .int .i64 ((com p k).n : Int)]) (.agg #[.int .u32 (p.x : Int), .int .i64 (p.n : Int)])).run Tryz.prog u = .ok false u := fun u => by rw [eqK]; simp [hf2]
 have hcn : (com p k).n <= 32 := (com_facts hp hk).1.1
 have HHF := fun u => hid (half_any k.x (com p k).n u hcn)
 rw [hsd] at HHF
 have HHP := fun u => hid (half_any p.x (com p k).n u hcn)
 rw [hsp] at HHP
 have HIH : Hid (∀ u, Below w.heap.size w u -> Calls Tryz.prog 149 #[.pointer none, pv p, vptr c v] u (HangPost X u (join p v .nil .nil))) := fun u hu => hang_nil p c v u (fun b hb => by have := hX b hb; have := hu.size; omega) (hc.below hu)
 have HJ : Hid (∀ (u' : World) (m : MT), Below w.heap.size w u' -> Lies u' X m -> m.tr = join p v .nil .nil -> Calls Tryz.prog 150 #[pv (com p k), .pointer none, .agg #[(.pointer (some ⟨b, 0, none⟩)), m.ptr]] u' (HangPost X u' (join (com p k) none (.node k u l.tr r.tr) (join p v .nil .nil)))) := fun u' m hu hm he => by
  have h1 := nodes_join p v .nil .nil
  rw [<- he] at h1 ⊢
  have h0 : nodes Tr.nil = 0 := rfl
  have h2 := vals_le m.tr
  exact join_any (com p k) 0 none (.node b c1 k u l r) m u' (fun b hb => by have := hX b hb; have := hu.size; omega) (fun a ha => by cases ha) (hm0.below hu) hm (by simp only [MT.tr, nodes]; omega) (by have := vals_le l.tr; have := vals_le r.tr; simp only [MT.tr, vals]; split <;> omega)
 rw [hvp] at HIH
 rw [hvp]
 obtain ⟨f, hfe⟩ : ∃ f, f = com p k := ⟨_, rfl⟩
 rw [<- hfe] at hq2 hq3 HCM hf2 HHF HJ HHP
 rw [<- hfe]
 rw [hvq, hlp, hrp] at hs
 generalize vals (.node k u l.tr r.tr) = cv at *
 generalize nodes (.node k u l.tr r.tr) = cn at *
 have HS1 := hid hs
 generalize join f none (.node k u l.tr r.tr) (join p v .nil .nil) = T at *
 unfold pv at ⊢
 clear hwa hb0 hc hX hrow hbu hl hr hvp hvq hlp hrp hn hs hne hm0 hk hp hfe hsd hf1 hf2 hcn hsp
 have x0 : wa.cell? ⟨w.heap.size, 0, none⟩ = some (.int .u32 (p.x : Int)) := crw HS1.out.pb rfl
 have x1 : wa.cell? ⟨w.heap.size, 1, none⟩ = some (.int .i64 (p.n : Int)) := crw HS1.out.pb rfl
 have n0 : wa.cell? ⟨b, 0, none⟩ = some (.int .u32 (k.x : Int)) := crw HS1.out.nd rfl
 have n1 : wa.cell? ⟨b, 1, none⟩ = some (.int .i64 (k.n : Int)) := crw HS1.out.nd rfl
 go_enter Tryz.func149, Tryz.ntmps149
 go_upto_region 2 with fail
 rw [<- HWA.out]
 go_upto_region 4 with fail
 refine wp_region_still_tail 5 (by kernel_rfl) (by kernel_rfl) ?_
 simp only [List.take_succ_cons, List.take_zero, List.drop_succ_cons, List.drop_zero]
 iterate 5 still_step
 refine wpStill_nil ?_
 go_upto_region 6 with fail
 obtain ⟨wd, hwd⟩ : ∃ W, W = wa.drew := ⟨_, rfl⟩
 rw [<- hwd]
 have HS2 : Hid (HS w wd b p k (.pointer vq) (.pointer lp) (.pointer rp) (.pointer none) (.pointer none) cv cn) := by unfold Hid; rw [hwd]; exact HS1.out.drew
 clear hwd x0 x1 n0 n1
 refine wp_region_mono' 7 dst6 (FG b wd.heap.size p k f) (by kernel_rfl) (by kernel_rfl) (FG.keeps _ _ _ _ _) ?_ ?_
 ·simp only [List.take_succ_cons, List.take_zero, N.stepsOk]
  refine ⟨?_, ?_, ?_, ?_, ?_, ?_, ?_, trivial⟩
  ·intro a u vs hb hold hdep
   have hu := HS2.out.grow hb
   refine wp_val (ex_load _ ⟨w.heap.size, 0, none⟩ (.tmp 4) _ rfl (hold 4 (dl6 (by decide))) (load_pre (x := .int .u32 (p.x : Int)) (y := .int .i64 (p.n : Int)) ?_ ?_)) ⟨_, rfl, rfl, hb, bR⟩
   ·rw [cell_of_row _ _ _ _ _ _ hu.pb]; rfl
   ·rw [cell_of_row _ _ _ _ _ _ hu.pb]; rfl
  ·intro a u vs hb hold hdep
   exact wp_val (ex_move (.tmp 0) _ rfl (hold 0 (dl6 (by decide)))) ⟨_, rfl, rfl, hb, bR⟩
  ·intro a u vs hb hold hdep
   have h0 := hdep ⟨1, .data⟩ (by simp) rfl (by decide)
   exact wp_val (ex_nil ⟨b, 0, none⟩ (.tmp 30) rfl (h0.1.trans h0.2)) ⟨_, rfl, rfl, hb, bR⟩
  ·intro a u vs hb hold hdep
   have h0 := hdep ⟨2, .data⟩ (by simp) rfl (by decide)
   exact wp_val (ex_field _ ⟨b, 0, none⟩ (.tmp 31) 0 _ rfl (h0.1.trans h0.2) (fld_nd u).1) ⟨_, rfl, rfl, hb, bR⟩
  ·intro a u vs hb hold hdep
   have h0 := hdep ⟨3, .data⟩ (by simp) rfl (by decide)
   have hu := HS2.out.grow hb
   refine wp_val (ex_load _ ⟨b, 0, none⟩ (.tmp 32) _ rfl (h0.1.trans h0.2) (load_pre (x := .int .u32 (k.x : Int)) (y := .int .i64 (k.n : Int)) ?_ ?_)) ⟨_, rfl, rfl, hb, bR⟩
   ·rw [cell_of_row _ _ _ _ _ _ hu.nd]; rfl
   ·rw [cell_of_row _ _ _ _ _ _ hu.nd]; rfl
  ·intro a u vs hb hold hdep
   have h0 := hdep ⟨0, .data⟩ (by simp) rfl (by decide)
   have h4 := hdep ⟨4, .data⟩ (by simp) rfl (by decide)
   have e0 : a.eval (.tmp 29) = pv p := h0.1.trans h0.2
   have e4 : a.eval (.tmp 33) = pv k := h4.1.trans h4.2
   refine wp_call 151 _ _ rfl (enters_of Tryz.func151 (by kernel_rfl) rfl) #[pv p, pv k] (by simp only [List.map_toArray, List.map_cons, List.map_nil, e0, e4]) ?_
   refine (HCM.out u).mono ?_
   rintro _ u' ⟨rfl, hb'⟩
   exact ⟨_, rfl, _, rfl, rfl, hb.trans (hb'.mono hb.size), hb'⟩
  ·intro a u vs hb hold hdep
   refine wp_val (ex_allocP u rfl) ?_
   have hb' : Below u.heap.size u (u.alloc (.cells #[.int .u32 0, .int .i64 0] 36)) := bR.alloc nL _
   exact ⟨_, rfl, ⟨_, rfl, hb.size, heap_alloc_new u _⟩, hb.trans (hb'.mono hb.size), hb'⟩
 intro vs u hb hF
 have e0 : vs 0 = pv p := hF 0 (by decide)
 have e1 : vs 1 = .pointer (some ⟨b, 0, none⟩) := hF 1 (by decide)
 have e2 : vs 2 = .pointer (some ⟨b, 0, none⟩) := hF 2 (by decide)
 have e3 : vs 3 = .pointer (some ⟨b, 0, none⟩) := hF 3 (by decide)
 have e4 : vs 4 = pv k := hF 4 (by decide)
 have e5 : vs 5 = pv f := hF 5 (by decide)
 obtain ⟨g, e6, g6, k6⟩ := hF 6 (by decide)
 clear hF
 simp only [List.drop_succ_cons, List.drop_zero, puts, List.range, List.range.loop, List.foldr, dst6, List.getD_cons_zero, List.getD_cons_succ, if_true, e0, e1, e2, e3, e4, e5, e6, Act.put, List.setIfInBounds_toArray, List.set_cons_zero, List.set_cons_succ]
 clear e0 e1 e2 e3 e4 e5 e6
 refine wpList_st rfl 36 _ _ rfl g #[.int .u32 (f.x : Int), .int .i64 (f.n : Int)] rfl rfl _ _ k6 (by kernel_rfl) rfl (by simp [Value.oneCell']) ?_
 intro wf hwf hbt
 have hg : w.heap.size + 2 <= g := Nat.le_trans HS2.out.sz g6
 have HG := hid hg
 have HS3 : Hid (HS w wf b p k (.pointer vq) (.pointer lp) (.pointer rp) (.pointer none) (.pointer none) cv cn) := (HS2.out.grow hb).but hbt hg
 have HFK := hid hwf
 unfold pv
 clear hb hwf hbt g6 k6 hg
 have x0 : wf.cell? ⟨w.heap.size, 0, none⟩ = some (.int .u32 (p.x : Int)) := crw HS3.out.pb rfl
 have x1 : wf.cell? ⟨w.heap.size, 1, none⟩ = some (.int .i64 (p.n : Int)) := crw HS3.out.pb rfl
 have n0 : wf.cell? ⟨b, 0, none⟩ = some (.int .u32 (k.x : Int)) := crw HS3.out.nd rfl
 have n1 : wf.cell? ⟨b, 1, none⟩ = some (.int .i64 (k.n : Int)) := crw HS3.out.nd rfl
 have k0 : wf.cell? ⟨g, 0, none⟩ = some (.int .u32 (f.x : Int)) := crw HFK.out rfl
 have k1 : wf.cell? ⟨g, 1, none⟩ = some (.int .i64 (f.n : Int)) := crw HFK.out rfl
 go_upto_region 7 with fail
 refine wp_region_still_tail 5 (by kernel_rfl) (by kernel_rfl) ?_
 simp only [List.take_succ_cons, List.take_zero, List.drop_succ_cons, List.drop_zero]
 iterate 5 still_step
 refine wpStill_nil ?_
 go_upto_region 12 with fail
 obtain ⟨wg, hwg⟩ : ∃ W, W = wf.drew := ⟨_, rfl⟩
 rw [<- hwg]
 have HS4 : Hid (HS w wg b p k (.pointer vq) (.pointer lp) (.pointer rp) (.pointer none) (.pointer none) cv cn) := by unfold Hid; rw [hwg]; exact HS3.out.drew
 have HFK4 : Hid (wg.heap[g]? = some (.cells #[.int .u32 (f.x : Int), .int .i64 (f.n : Int)] 36)) := by unfold Hid; rw [hwg]; exact HFK.out
 clear hwg
 clear x0 x1 n0 n1 k0 k1
 have n0 : wg.cell? ⟨b, 0, none⟩ = some (.int .u32 (k.x : Int)) := crw HS4.out.nd rfl
 have n1 : wg.cell? ⟨b, 1, none⟩ = some (.int .i64 (k.n : Int)) := crw HS4.out.nd rfl
 have k0 : wg.cell? ⟨g, 0, none⟩ = some (.int .u32 (f.x : Int)) := crw HFK4.out rfl
 have k1 : wg.cell? ⟨g, 1, none⟩ = some (.int .i64 (f.n : Int)) := crw HFK4.out rfl
 refine wp_region_still_tail 10 (by kernel_rfl) (by kernel_rfl) ?_
 simp only [List.take_succ_cons, List.take_zero, List.drop_succ_cons, List.drop_zero]
 iterate 7 still_step
 still_call (HHF _).out
 iterate 2 still_step
 refine wpStill_nil ?_
 have hu := HS4.out.drew
 refine wpList_st1 rfl 137 _ _ rfl (w.heap.size + 1) 0 (.pointer (some ⟨b, 0, none⟩)) rfl rfl rfl _ _ _ hu.hb (by kernel_rfl) (by show 0 < 2; omega) rfl ?_
 intro wi hwi hbi
 have HS6 : Hid (HS w wi b p k (.pointer vq) (.pointer lp) (.pointer rp) (.pointer (some ⟨b, 0, none⟩)) (.pointer none) cv cn) := hu.put hbi hwi
 have HFK6 : Hid (wi.heap[g]? = some (.cells #[.int .u32 (f.x : Int), .int .i64 (f.n : Int)] 36)) := by
  have hlt := (gsl HFK4.out)
  exact (hbi.block g hlt (by have := HG.out; omega)).trans HFK4.out
 clear hu hwi hbi n0 n1 k0 k1
 have x0 : wi.cell? ⟨w.heap.size, 0, none⟩ = some (.int .u32 (p.x : Int)) := crw HS6.out.pb rfl
 have x1 : wi.cell? ⟨w.heap.size, 1, none⟩ = some (.int .i64 (p.n : Int)) := crw HS6.out.pb rfl
 have k0 : wi.cell? ⟨g, 0, none⟩ = some (.int .u32 (f.x : Int)) := crw HFK6.out rfl
 have k1 : wi.cell? ⟨g, 1, none⟩ = some (.int .i64 (f.n : Int)) := crw HFK6.out rfl
 have y0 : wi.cell? ⟨w.heap.size + 1, 0, none⟩ = some (.pointer (some ⟨b, 0, none⟩)) := crw HS6.out.hb rfl
 have y1 : wi.cell? ⟨w.heap.size + 1, 1, none⟩ = some (.pointer none) := crw HS6.out.hb rfl
 go_upto_region 15 with fail
 clear x0 x1 y0 y1 k0 k1
 refine wp_region_mono' 9 dst15 (FE X w.heap.size g 1 f p (.pointer vp) (join p v .nil .nil)) (by kernel_rfl) (by kernel_rfl) (FE.keeps _ _ _ _ _ _ _ _) ?_ ?_
 ·simp only [List.take_succ_cons, List.take_zero, N.stepsOk]
  refine ⟨?_, ?_, ?_, ?_, ?_, ?_, ?_, ?_, ?_, trivial⟩
  ·intro a u vs hb hold hdep
   exact wp_val (ex_field _ ⟨w.heap.size, 0, none⟩ (.tmp 4) 0 _ rfl (hold 4 (dl15 (by decide))) (fld_pr u).1) ⟨_, rfl, rfl, hb, bR⟩
  ·intro a u vs hb hold hdep
   have h0 := hdep ⟨0, .data⟩ (by simp) rfl (by decide)
   have hu := HS6.out.grow hb
   refine wp_val (ex_load _ ⟨w.heap.size, 0, none⟩ (.tmp 82) _ rfl (h0.1.trans h0.2) (load_ad (x := (p.x : Int)) ?_)) ⟨_, rfl, rfl, hb, bR⟩
   rw [cell_of_row _ _ _ _ _ _ hu.pb]; rfl
  ·intro a u vs hb hold hdep
   exact wp_val (ex_field _ ⟨g, 0, none⟩ (.tmp 8) 1 _ rfl (hold 8 (dl15 (by decide))) (fld_pr u).2) ⟨_, rfl, rfl, hb, bR⟩
  ·intro a u vs hb hold hdep
   have h0 := hdep ⟨2, .data⟩ (by simp) rfl (by decide)
   refine wp_val (ex_load _ ⟨g, 0 + 1, none⟩ (.tmp 84) _ rfl (h0.1.trans h0.2) (load_in (x := (f.n : Int)) ?_)) ⟨_, rfl, rfl, hb, bR⟩
   rw [cell_of_row _ _ _ _ _ _ (below_keeps hb HFK6.out (gsl HFK6.out))]; rfl
  ·intro a u vs hb hold hdep
   have h1 := hdep ⟨1, .data⟩ (by simp) rfl (by decide)
   have h3 := hdep ⟨3, .data⟩ (by simp) rfl (by decide)
   have e1 : a.eval (.tmp 83) = .int .u32 (p.x : Int) := h1.1.trans h1.2
   have e3 : a.eval (.tmp 85) = .int .i64 (f.n : Int) := h3.1.trans h3.2
   refine wp_call 93 _ _ rfl (enters_of Tryz.func93 (by kernel_rfl) rfl) #[.int .u32 (p.x : Int), .int .i64 (f.n : Int)] (by simp only [List.map_toArray, List.map_cons, List.map_nil, e1, e3]) ?_
   refine (HHP u).out.mono ?_
   rintro _ u' ⟨rfl, rfl⟩
   exact ⟨_, rfl, _, rfl, rfl, hb, bR⟩
  ·intro a u vs hb hold hdep
   have hu := HS6.out.grow hb
   refine wp_val (ex_load _ ⟨w.heap.size, 0, none⟩ (.tmp 4) _ rfl (hold 4 (dl15 (by decide))) (load_pre (x := .int .u32 (p.x : Int)) (y := .int .i64 (p.n : Int)) ?_ ?_)) ⟨_, rfl, rfl, hb, bR⟩
   ·rw [cell_of_row _ _ _ _ _ _ hu.pb]; rfl
   ·rw [cell_of_row _ _ _ _ _ _ hu.pb]; rfl
  ·intro a u vs hb hold hdep
   exact wp_val (ex_move (.tmp 2) _ rfl (hold 2 (dl15 (by decide)))) ⟨_, rfl, rfl, hb, bR⟩
  ·intro a u vs hb hold hdep
   have h5 := hdep ⟨5, .data⟩ (by simp) rfl (by decide)
   have h6 := hdep ⟨6, .data⟩ (by simp) rfl (by decide)
   have e5 : a.eval (.tmp 87) = pv p := h5.1.trans h5.2
   have e6 : a.eval (.tmp 88) = .pointer vp := h6.1.trans h6.2
   have ec : a.eval (.const (.pointer none)) = .pointer none := rfl
   refine wp_call 149 _ _ rfl (enters_of Tryz.func149 (by kernel_rfl) rfl) #[.pointer none, pv p, .pointer vp] (by simp only [List.map_toArray, List.map_cons, List.map_nil, e5, e6, ec]) ?_
   have hu := HS6.out.grow hb
   refine (HIH.out u hu.be).mono ?_
   rintro _ u' ⟨m, rfl, m1, m2, hb'⟩
   exact ⟨_, rfl, _, rfl, ⟨m, rfl, m1, m2⟩, hb.trans (hb'.mono hb.size), hb'⟩
  ·intro a u vs hb hold hdep
   have h0 := hdep ⟨4, .data⟩ (by simp) rfl (by decide)
   exact wp_val (ex_index _ (.tmp 7) (.tmp 86) _ _ _ rfl (hold 7 (dl15 (by decide))) (h0.1.trans h0.2) (idx_two (i := 1) (by decide) u)) ⟨_, rfl, rfl, hb, bR⟩
 intro vs u hb hF
 obtain ⟨m, e7, m1, m2⟩ := hF 7 (by decide)
 have e8 : vs 8 = .pointer (some ⟨w.heap.size + 1, 1, none⟩) := hF 8 (by decide)
 clear hF
 obtain ⟨mp, hmp⟩ := ptr_is m
 rw [hmp] at e7
 simp only [List.drop_succ_cons, List.drop_zero, puts, List.range, List.range.loop, List.foldr, dst15, List.getD_cons_zero, List.getD_cons_succ, if_true, e7, e8, Act.put, List.setIfInBounds_toArray, List.set_cons_zero, List.set_cons_succ]
 clear e7 e8
 generalize vs 0 = q0
 generalize vs 1 = q1
 generalize vs 2 = q2
 generalize vs 3 = q3
 generalize vs 4 = q4
 generalize vs 5 = q5
 generalize vs 6 = q6
 have hu := HS6.out.grow hb
 refine wpList_st1 rfl 137 _ _ rfl (w.heap.size + 1) 1 (.pointer mp) rfl rfl rfl _ _ _ hu.hb (by kernel_rfl) (by show 1 < 2; omega) rfl ?_
 intro wj hwj hbj
 have HS7 : Hid (HS w wj b p k (.pointer vq) (.pointer lp) (.pointer rp) (.pointer (some ⟨b, 0, none⟩)) (.pointer mp) cv cn) := hu.put hbj hwj
 have HFK7 : Hid (wj.heap[g]? = some (.cells #[.int .u32 (f.x : Int), .int .i64 (f.n : Int)] 36)) := by
  have hlt := (gsl HFK6.out)
  exact (hbj.block g (Nat.lt_of_lt_of_le hlt hb.size) (by have := HG.out; omega)).trans (below_keeps hb HFK6.out hlt)
 have m3 : Lies wj X m := m2.but hu.hb (by decide) (by decide) hbj
 have HJ2 : Hid (Calls Tryz.prog 150 #[pv f, .pointer none, .agg #[(.pointer (some ⟨b, 0, none⟩)), (.pointer mp)]] wj (HangPost X wj T)) := by
  have h := HJ.out wj m HS7.out.be m3 m1
  rw [hmp] at h
  exact h
 clear hb hu hwj hbj m1 m2 m3 hmp
 have k0 : wj.cell? ⟨g, 0, none⟩ = some (.int .u32 (f.x : Int)) := crw HFK7.out rfl
 have k1 : wj.cell? ⟨g, 1, none⟩ = some (.int .i64 (f.n : Int)) := crw HFK7.out rfl
 have y0 : wj.cell? ⟨w.heap.size + 1, 0, none⟩ = some (.pointer (some ⟨b, 0, none⟩)) := crw HS7.out.hb rfl
 have y1 : wj.cell? ⟨w.heap.size + 1, 1, none⟩ = some (.pointer mp) := crw HS7.out.hb rfl
 unfold pv at HJ2
 go_wp2_with fail
 refine HJ2.out.mono ?_
 rintro _ w' ⟨m', rfl, h1, h2, h3⟩
 have HF : Hid (m'.tr = T /\ Lies w' X m' /\ Below w.heap.size w w') := ⟨h1, h2, HS7.out.be.trans (h3.mono HS7.out.be.size)⟩
 obtain ⟨mq, hmq⟩ := ptr_is m'
 rw [hmq]
 have HMP := hid hmq
 clear h1 h2 h3 hmq
 go_wp2_with fail
 go_ret
 exact ⟨m', by rw [HMP.out]; rfl, HF.out⟩
theorem hang_fork1 {X : Nat -> Prop} (b c1 : Nat) (k : K) (u : Option Vt) (l r : MT) (p : K) (c : Nat) (v : Option Vt) (w : World) (hX : ∀ b, X b -> b < w.heap.size) (hc : BoxAt w X c v) (hm : Lies w X (.node b c1 k u l r)) (hn : nodes l.tr + nodes r.tr < 1152921504606846976 - 4) (hk : k.Ok) (hp : p.Ok) (hne : k ≠ p) (hf1 : com p k ≠ k) (hf2 : com p k ≠ p) (hsd : side k.x (com p k).n = 1) (hsp : side p.x (com p k).n = 0) :
  Calls Tryz.prog 149 #[.pointer (some ⟨b, 0, none⟩), pv p, vptr c v] w (HangPost X w (join (com p k) none (join p v .nil .nil) (.node k u l.tr r.tr))) := by
 have hm0 := hm
 obtain ⟨_, hrow, hbu, hl, hr⟩ := hm
 obtain ⟨wa, hwa, hs⟩ := HS.begin (p := p) hrow
 have hb0 := hs.be
 have HCM : Hid (∀ u, Calls Tryz.prog 151 #[pv p, pv k] u fun e w' => e = .returned (pv (com p k)) /\ Below u.heap.size u w') := fun u => common_any u hp hk
 have hq : ∀ u : World, (Op.equalIn 10000 36 (.agg #[.int .u32 (k.x : Int), .int .i64 (k.n : Int)]) (.agg #[.int .u32 (p.x : Int), .int .i64 (p.n : Int)])).run Tryz.prog u = .ok false u := fun u => by rw [eqK]; simp [hne]
 have HWA := hid hwa
 obtain ⟨vp, hvp⟩ := vptr_is c v
 obtain ⟨vq, hvq⟩ := vptr_is c1 u
 obtain ⟨lp, hlp⟩ := ptr_is l
 obtain ⟨rp, hrp⟩ := ptr_is r
 have hq2 : ∀ u : World, (Op.equalIn 10000 36 (.agg #[.int .u32 ((com p k).x : Int), .int .i64 ((com p k).n : Int)]) (.agg #[.int .u32 (k.x : Int), .int .i64 (k.n : Int)])).run Tryz.prog u = .ok false u := fun u => by rw [eqK]; simp [hf1]
 have hq3 : ∀ u : World, (Op.equalIn 10000 36 (.agg #[.int .u32 ((com p k).x : Int), .int .i64 ((com p k).n : Int)]) (.agg #[.int .u32 (p.x : Int), .int .i64 (p.n : Int)])).run Tryz.prog u = .ok false u := fun u => by rw [eqK]; simp [hf2]
 have hcn : (com p k).n <= 32 := (com_facts hp hk).1.1
 have HHF := fun u => hid (half_any k.x (com p k).n u hcn)
 rw [hsd] at HHF
 have HHP := fun u => hid (half_any p.x (com p k).n u hcn)
 rw [hsp] at HHP
 have HIH : Hid (∀ u, Below w.heap.size w u -> Calls Tryz.prog 149 #[.pointer none, pv p, vptr c v] u (HangPost X u (join p v .nil .nil))) := fun u hu => hang_nil p c v u (fun b hb => by have := hX b hb; have := hu.size; omega) (hc.below hu)
 have HJ : Hid (∀ (u' : World) (m : MT), Below w.heap.size w u' -> Lies u' X m -> m.tr = join p v .nil .nil -> Calls Tryz.prog 150 #[pv (com p k), .pointer none, .agg #[m.ptr, (.pointer (some ⟨b, 0, none⟩))]] u' (HangPost X u' (join (com p k) none (join p v .nil .nil) (.node k u l.tr r.tr)))) := fun u' m hu hm he => by
  have h1 := nodes_join p v .nil .nil
  rw [<- he] at h1 ⊢
  have h0 : nodes Tr.nil = 0 := rfl
  have h2 := vals_le m.tr
  exact join_any (com p k) 0 none m (.node b c1 k u l r) u' (fun b hb => by have := hX b hb; have := hu.size; omega) (fun a ha => by cases ha) hm (hm0.below hu) (by simp only [MT.tr, nodes]; omega) (by have := vals_le l.tr; have := vals_le r.tr; simp only [MT.tr, vals]; split <;> omega)
 rw [hvp] at HIH
 rw [hvp]
 obtain ⟨f, hfe⟩ : ∃ f, f = com p k := ⟨_, rfl⟩
 rw [<- hfe] at hq2 hq3 HCM hf2 HHF HJ HHP
 rw [<- hfe]
 rw [hvq, hlp, hrp] at hs
 generalize vals (.node k u l.tr r.tr) = cv at *
 generalize nodes (.node k u l.tr r.tr) = cn at *
 have HS1 := hid hs
 generalize join f none (join p v .nil .nil) (.node k u l.tr r.tr) = T at *
 unfold pv at ⊢
 clear hwa hb0 hc hX hrow hbu hl hr hvp hvq hlp hrp hn hs hne hm0 hk hp hfe hsd hf1 hf2 hcn hsp
 have x0 : wa.cell? ⟨w.heap.size, 0, none⟩ = some (.int .u32 (p.x : Int)) := crw HS1.out.pb rfl
 have x1 : wa.cell? ⟨w.heap.size, 1, none⟩ = some (.int .i64 (p.n : Int)) := crw HS1.out.pb rfl
 have n0 : wa.cell? ⟨b, 0, none⟩ = some (.int .u32 (k.x : Int)) := crw HS1.out.nd rfl
 have n1 : wa.cell? ⟨b, 1, none⟩ = some (.int .i64 (k.n : Int)) := crw HS1.out.nd rfl
 go_enter Tryz.func149, Tryz.ntmps149
 go_upto_region 2 with fail
 rw [<- HWA.out]
 go_upto_region 4 with fail
 refine wp_region_still_tail 5 (by kernel_rfl) (by kernel_rfl) ?_
 simp only [List.take_succ_cons, List.take_zero, List.drop_succ_cons, List.drop_zero]
 iterate 5 still_step
 refine wpStill_nil ?_
 go_upto_region 6 with fail
 obtain ⟨wd, hwd⟩ : ∃ W, W = wa.drew := ⟨_, rfl⟩
 rw [<- hwd]
 have HS2 : Hid (HS w wd b p k (.pointer vq) (.pointer lp) (.pointer rp) (.pointer none) (.pointer none) cv cn) := by unfold Hid; rw [hwd]; exact HS1.out.drew
 clear hwd x0 x1 n0 n1
 refine wp_region_mono' 7 dst6 (FG b wd.heap.size p k f) (by kernel_rfl) (by kernel_rfl) (FG.keeps _ _ _ _ _) ?_ ?_
 ·simp only [List.take_succ_cons, List.take_zero, N.stepsOk]
  refine ⟨?_, ?_, ?_, ?_, ?_, ?_, ?_, trivial⟩
  ·intro a u vs hb hold hdep
   have hu := HS2.out.grow hb
   refine wp_val (ex_load _ ⟨w.heap.size, 0, none⟩ (.tmp 4) _ rfl (hold 4 (dl6 (by decide))) (load_pre (x := .int .u32 (p.x : Int)) (y := .int .i64 (p.n : Int)) ?_ ?_)) ⟨_, rfl, rfl, hb, bR⟩
   ·rw [cell_of_row _ _ _ _ _ _ hu.pb]; rfl
   ·rw [cell_of_row _ _ _ _ _ _ hu.pb]; rfl
  ·intro a u vs hb hold hdep
   exact wp_val (ex_move (.tmp 0) _ rfl (hold 0 (dl6 (by decide)))) ⟨_, rfl, rfl, hb, bR⟩
  ·intro a u vs hb hold hdep
   have h0 := hdep ⟨1, .data⟩ (by simp) rfl (by decide)
   exact wp_val (ex_nil ⟨b, 0, none⟩ (.tmp 30) rfl (h0.1.trans h0.2)) ⟨_, rfl, rfl, hb, bR⟩
  ·intro a u vs hb hold hdep
   have h0 := hdep ⟨2, .data⟩ (by simp) rfl (by decide)
   exact wp_val (ex_field _ ⟨b, 0, none⟩ (.tmp 31) 0 _ rfl (h0.1.trans h0.2) (fld_nd u).1) ⟨_, rfl, rfl, hb, bR⟩
  ·intro a u vs hb hold hdep
   have h0 := hdep ⟨3, .data⟩ (by simp) rfl (by decide)
   have hu := HS2.out.grow hb
   refine wp_val (ex_load _ ⟨b, 0, none⟩ (.tmp 32) _ rfl (h0.1.trans h0.2) (load_pre (x := .int .u32 (k.x : Int)) (y := .int .i64 (k.n : Int)) ?_ ?_)) ⟨_, rfl, rfl, hb, bR⟩
   ·rw [cell_of_row _ _ _ _ _ _ hu.nd]; rfl
   ·rw [cell_of_row _ _ _ _ _ _ hu.nd]; rfl
  ·intro a u vs hb hold hdep
   have h0 := hdep ⟨0, .data⟩ (by simp) rfl (by decide)
   have h4 := hdep ⟨4, .data⟩ (by simp) rfl (by decide)
   have e0 : a.eval (.tmp 29) = pv p := h0.1.trans h0.2
   have e4 : a.eval (.tmp 33) = pv k := h4.1.trans h4.2
   refine wp_call 151 _ _ rfl (enters_of Tryz.func151 (by kernel_rfl) rfl) #[pv p, pv k] (by simp only [List.map_toArray, List.map_cons, List.map_nil, e0, e4]) ?_
   refine (HCM.out u).mono ?_
   rintro _ u' ⟨rfl, hb'⟩
   exact ⟨_, rfl, _, rfl, rfl, hb.trans (hb'.mono hb.size), hb'⟩
  ·intro a u vs hb hold hdep
   refine wp_val (ex_allocP u rfl) ?_
   have hb' : Below u.heap.size u (u.alloc (.cells #[.int .u32 0, .int .i64 0] 36)) := bR.alloc nL _
   exact ⟨_, rfl, ⟨_, rfl, hb.size, heap_alloc_new u _⟩, hb.trans (hb'.mono hb.size), hb'⟩
 intro vs u hb hF
 have e0 : vs 0 = pv p := hF 0 (by decide)
 have e1 : vs 1 = .pointer (some ⟨b, 0, none⟩) := hF 1 (by decide)
 have e2 : vs 2 = .pointer (some ⟨b, 0, none⟩) := hF 2 (by decide)
 have e3 : vs 3 = .pointer (some ⟨b, 0, none⟩) := hF 3 (by decide)
 have e4 : vs 4 = pv k := hF 4 (by decide)
 have e5 : vs 5 = pv f := hF 5 (by decide)
 obtain ⟨g, e6, g6, k6⟩ := hF 6 (by decide)
 clear hF
 simp only [List.drop_succ_cons, List.drop_zero, puts, List.range, List.range.loop, List.foldr, dst6, List.getD_cons_zero, List.getD_cons_succ, if_true, e0, e1, e2, e3, e4, e5, e6, Act.put, List.setIfInBounds_toArray, List.set_cons_zero, List.set_cons_succ]
 clear e0 e1 e2 e3 e4 e5 e6
 refine wpList_st rfl 36 _ _ rfl g #[.int .u32 (f.x : Int), .int .i64 (f.n : Int)] rfl rfl _ _ k6 (by kernel_rfl) rfl (by simp [Value.oneCell']) ?_
 intro wf hwf hbt
 have hg : w.heap.size + 2 <= g := Nat.le_trans HS2.out.sz g6
 have HG := hid hg
 have HS3 : Hid (HS w wf b p k (.pointer vq) (.pointer lp) (.pointer rp) (.pointer none) (.pointer none) cv cn) := (HS2.out.grow hb).but hbt hg
 have HFK := hid hwf
 unfold pv
 clear hb hwf hbt g6 k6 hg
 have x0 : wf.cell? ⟨w.heap.size, 0, none⟩ = some (.int .u32 (p.x : Int)) := crw HS3.out.pb rfl
 have x1 : wf.cell? ⟨w.heap.size, 1, none⟩ = some (.int .i64 (p.n : Int)) := crw HS3.out.pb rfl
 have n0 : wf.cell? ⟨b, 0, none⟩ = some (.int .u32 (k.x : Int)) := crw HS3.out.nd rfl
 have n1 : wf.cell? ⟨b, 1, none⟩ = some (.int .i64 (k.n : Int)) := crw HS3.out.nd rfl
 have k0 : wf.cell? ⟨g, 0, none⟩ = some (.int .u32 (f.x : Int)) := crw HFK.out rfl
 have k1 : wf.cell? ⟨g, 1, none⟩ = some (.int .i64 (f.n : Int)) := crw HFK.out rfl
 go_upto_region 7 with fail
 refine wp_region_still_tail 5 (by kernel_rfl) (by kernel_rfl) ?_
 simp only [List.take_succ_cons, List.take_zero, List.drop_succ_cons, List.drop_zero]
 iterate 5 still_step
 refine wpStill_nil ?_
 go_upto_region 12 with fail
 obtain ⟨wg, hwg⟩ : ∃ W, W = wf.drew := ⟨_, rfl⟩
 rw [<- hwg]
 have HS4 : Hid (HS w wg b p k (.pointer vq) (.pointer lp) (.pointer rp) (.pointer none) (.pointer none) cv cn) := by unfold Hid; rw [hwg]; exact HS3.out.drew
 have HFK4 : Hid (wg.heap[g]? = some (.cells #[.int .u32 (f.x : Int), .int .i64 (f.n : Int)] 36)) := by unfold Hid; rw [hwg]; exact HFK.out
 clear hwg
 clear x0 x1 n0 n1 k0 k1
 have n0 : wg.cell? ⟨b, 0, none⟩ = some (.int .u32 (k.x : Int)) := crw HS4.out.nd rfl
 have n1 : wg.cell? ⟨b, 1, none⟩ = some (.int .i64 (k.n : Int)) := crw HS4.out.nd rfl
 have k0 : wg.cell? ⟨g, 0, none⟩ = some (.int .u32 (f.x : Int)) := crw HFK4.out rfl
 have k1 : wg.cell? ⟨g, 1, none⟩ = some (.int .i64 (f.n : Int)) := crw HFK4.out rfl
 refine wp_region_still_tail 10 (by kernel_rfl) (by kernel_rfl) ?_
 simp only [List.take_succ_cons, List.take_zero, List.drop_succ_cons, List.drop_zero]
 iterate 7 still_step
 still_call (HHF _).out
 iterate 2 still_step
 refine wpStill_nil ?_
 have hu := HS4.out.drew
 refine wpList_st1 rfl 137 _ _ rfl (w.heap.size + 1) 1 (.pointer (some ⟨b, 0, none⟩)) rfl rfl rfl _ _ _ hu.hb (by kernel_rfl) (by show 1 < 2; omega) rfl ?_
 intro wi hwi hbi
 have HS6 : Hid (HS w wi b p k (.pointer vq) (.pointer lp) (.pointer rp) (.pointer none) (.pointer (some ⟨b, 0, none⟩)) cv cn) := hu.put hbi hwi
 have HFK6 : Hid (wi.heap[g]? = some (.cells #[.int .u32 (f.x : Int), .int .i64 (f.n : Int)] 36)) := by
  have hlt := (gsl HFK4.out)
  exact (hbi.block g hlt (by have := HG.out; omega)).trans HFK4.out
 clear hu hwi hbi n0 n1 k0 k1
 have x0 : wi.cell? ⟨w.heap.size, 0, none⟩ = some (.int .u32 (p.x : Int)) := crw HS6.out.pb rfl
 have x1 : wi.cell? ⟨w.heap.size, 1, none⟩ = some (.int .i64 (p.n : Int)) := crw HS6.out.pb rfl
 have k0 : wi.cell? ⟨g, 0, none⟩ = some (.int .u32 (f.x : Int)) := crw HFK6.out rfl
 have k1 : wi.cell? ⟨g, 1, none⟩ = some (.int .i64 (f.n : Int)) := crw HFK6.out rfl
 have y0 : wi.cell? ⟨w.heap.size + 1, 0, none⟩ = some (.pointer none) := crw HS6.out.hb rfl
 have y1 : wi.cell? ⟨w.heap.size + 1, 1, none⟩ = some (.pointer (some ⟨b, 0, none⟩)) := crw HS6.out.hb rfl
 go_upto_region 15 with fail
 clear x0 x1 y0 y1 k0 k1
 refine wp_region_mono' 9 dst15 (FE X w.heap.size g 0 f p (.pointer vp) (join p v .nil .nil)) (by kernel_rfl) (by kernel_rfl) (FE.keeps _ _ _ _ _ _ _ _) ?_ ?_
 ·simp only [List.take_succ_cons, List.take_zero, N.stepsOk]
  refine ⟨?_, ?_, ?_, ?_, ?_, ?_, ?_, ?_, ?_, trivial⟩
  ·intro a u vs hb hold hdep
   exact wp_val (ex_field _ ⟨w.heap.size, 0, none⟩ (.tmp 4) 0 _ rfl (hold 4 (dl15 (by decide))) (fld_pr u).1) ⟨_, rfl, rfl, hb, bR⟩
  ·intro a u vs hb hold hdep
   have h0 := hdep ⟨0, .data⟩ (by simp) rfl (by decide)
   have hu := HS6.out.grow hb
   refine wp_val (ex_load _ ⟨w.heap.size, 0, none⟩ (.tmp 82) _ rfl (h0.1.trans h0.2) (load_ad (x := (p.x : Int)) ?_)) ⟨_, rfl, rfl, hb, bR⟩
   rw [cell_of_row _ _ _ _ _ _ hu.pb]; rfl
  ·intro a u vs hb hold hdep
   exact wp_val (ex_field _ ⟨g, 0, none⟩ (.tmp 8) 1 _ rfl (hold 8 (dl15 (by decide))) (fld_pr u).2) ⟨_, rfl, rfl, hb, bR⟩
  ·intro a u vs hb hold hdep
   have h0 := hdep ⟨2, .data⟩ (by simp) rfl (by decide)
   refine wp_val (ex_load _ ⟨g, 0 + 1, none⟩ (.tmp 84) _ rfl (h0.1.trans h0.2) (load_in (x := (f.n : Int)) ?_)) ⟨_, rfl, rfl, hb, bR⟩
   rw [cell_of_row _ _ _ _ _ _ (below_keeps hb HFK6.out (gsl HFK6.out))]; rfl
  ·intro a u vs hb hold hdep
   have h1 := hdep ⟨1, .data⟩ (by simp) rfl (by decide)
   have h3 := hdep ⟨3, .data⟩ (by simp) rfl (by decide)
   have e1 : a.eval (.tmp 83) = .int .u32 (p.x : Int) := h1.1.trans h1.2
   have e3 : a.eval (.tmp 85) = .int .i64 (f.n : Int) := h3.1.trans h3.2
   refine wp_call 93 _ _ rfl (enters_of Tryz.func93 (by kernel_rfl) rfl) #[.int .u32 (p.x : Int), .int .i64 (f.n : Int)] (by simp only [List.map_toArray, List.map_cons, List.map_nil, e1, e3]) ?_
   refine (HHP u).out.mono ?_
   rintro _ u' ⟨rfl, rfl⟩
   exact ⟨_, rfl, _, rfl, rfl, hb, bR⟩
  ·intro a u vs hb hold hdep
   have hu := HS6.out.grow hb
   refine wp_val (ex_load _ ⟨w.heap.size, 0, none⟩ (.tmp 4) _ rfl (hold 4 (dl15 (by decide))) (load_pre (x := .int .u32 (p.x : Int)) (y := .int .i64 (p.n : Int)) ?_ ?_)) ⟨_, rfl, rfl, hb, bR⟩
   ·rw [cell_of_row _ _ _ _ _ _ hu.pb]; rfl
   ·rw [cell_of_row _ _ _ _ _ _ hu.pb]; rfl
  ·intro a u vs hb hold hdep
   exact wp_val (ex_move (.tmp 2) _ rfl (hold 2 (dl15 (by decide)))) ⟨_, rfl, rfl, hb, bR⟩
  ·intro a u vs hb hold hdep
   have h5 := hdep ⟨5, .data⟩ (by simp) rfl (by decide)
   have h6 := hdep ⟨6, .data⟩ (by simp) rfl (by decide)
   have e5 : a.eval (.tmp 87) = pv p := h5.1.trans h5.2
   have e6 : a.eval (.tmp 88) = .pointer vp := h6.1.trans h6.2
   have ec : a.eval (.const (.pointer none)) = .pointer none := rfl
   refine wp_call 149 _ _ rfl (enters_of Tryz.func149 (by kernel_rfl) rfl) #[.pointer none, pv p, .pointer vp] (by simp only [List.map_toArray, List.map_cons, List.map_nil, e5, e6, ec]) ?_
   have hu := HS6.out.grow hb
   refine (HIH.out u hu.be).mono ?_
   rintro _ u' ⟨m, rfl, m1, m2, hb'⟩
   exact ⟨_, rfl, _, rfl, ⟨m, rfl, m1, m2⟩, hb.trans (hb'.mono hb.size), hb'⟩
  ·intro a u vs hb hold hdep
   have h0 := hdep ⟨4, .data⟩ (by simp) rfl (by decide)
   exact wp_val (ex_index _ (.tmp 7) (.tmp 86) _ _ _ rfl (hold 7 (dl15 (by decide))) (h0.1.trans h0.2) (idx_two (i := 0) (by decide) u)) ⟨_, rfl, rfl, hb, bR⟩
 intro vs u hb hF
 obtain ⟨m, e7, m1, m2⟩ := hF 7 (by decide)
 have e8 : vs 8 = .pointer (some ⟨w.heap.size + 1, 0, none⟩) := hF 8 (by decide)
 clear hF
 obtain ⟨mp, hmp⟩ := ptr_is m
 rw [hmp] at e7
 simp only [List.drop_succ_cons, List.drop_zero, puts, List.range, List.range.loop, List.foldr, dst15, List.getD_cons_zero, List.getD_cons_succ, if_true, e7, e8, Act.put, List.setIfInBounds_toArray, List.set_cons_zero, List.set_cons_succ]
 clear e7 e8
 generalize vs 0 = q0
 generalize vs 1 = q1
 generalize vs 2 = q2
 generalize vs 3 = q3
 generalize vs 4 = q4
 generalize vs 5 = q5
 generalize vs 6 = q6
 have hu := HS6.out.grow hb
 refine wpList_st1 rfl 137 _ _ rfl (w.heap.size + 1) 0 (.pointer mp) rfl rfl rfl _ _ _ hu.hb (by kernel_rfl) (by show 0 < 2; omega) rfl ?_
 intro wj hwj hbj
 have HS7 : Hid (HS w wj b p k (.pointer vq) (.pointer lp) (.pointer rp) (.pointer mp) (.pointer (some ⟨b, 0, none⟩)) cv cn) := hu.put hbj hwj
 have HFK7 : Hid (wj.heap[g]? = some (.cells #[.int .u32 (f.x : Int), .int .i64 (f.n : Int)] 36)) := by
  have hlt := (gsl HFK6.out)
  exact (hbj.block g (Nat.lt_of_lt_of_le hlt hb.size) (by have := HG.out; omega)).trans (below_keeps hb HFK6.out hlt)
 have m3 : Lies wj X m := m2.but hu.hb (by decide) (by decide) hbj
 have HJ2 : Hid (Calls Tryz.prog 150 #[pv f, .pointer none, .agg #[(.pointer mp), (.pointer (some ⟨b, 0, none⟩))]] wj (HangPost X wj T)) := by
  have h := HJ.out wj m HS7.out.be m3 m1
  rw [hmp] at h
  exact h
 clear hb hu hwj hbj m1 m2 m3 hmp
 have k0 : wj.cell? ⟨g, 0, none⟩ = some (.int .u32 (f.x : Int)) := crw HFK7.out rfl
 have k1 : wj.cell? ⟨g, 1, none⟩ = some (.int .i64 (f.n : Int)) := crw HFK7.out rfl
 have y0 : wj.cell? ⟨w.heap.size + 1, 0, none⟩ = some (.pointer mp) := crw HS7.out.hb rfl
 have y1 : wj.cell? ⟨w.heap.size + 1, 1, none⟩ = some (.pointer (some ⟨b, 0, none⟩)) := crw HS7.out.hb rfl
 unfold pv at HJ2
 go_wp2_with fail
 refine HJ2.out.mono ?_
 rintro _ w' ⟨m', rfl, h1, h2, h3⟩
 have HF : Hid (m'.tr = T /\ Lies w' X m' /\ Below w.heap.size w w') := ⟨h1, h2, HS7.out.be.trans (h3.mono HS7.out.be.size)⟩
 obtain ⟨mq, hmq⟩ := ptr_is m'
 rw [hmq]
 have HMP := hid hmq
 clear h1 h2 h3 hmq
 go_wp2_with fail
 go_ret
 exact ⟨m', by rw [HMP.out]; rfl, HF.out⟩
theorem hang_any {X : Nat -> Prop} (p : K) (hp : p.Ok) (c : Nat) (v : Option Vt) (m : MT) : ∀ (lo hi : Nat) (w : World), WF lo hi m.tr -> nodes m.tr < 1152921504606846976 - 4 -> (∀ b, X b -> b < w.heap.size) -> BoxAt w X c v -> Lies w X m ->
  Calls Tryz.prog 149 #[m.ptr, pv p, vptr c v] w (HangPost X w (hang m.tr p v)) := by
 induction m with
 | nil =>
  intro lo hi w _ _ hX hc _
  exact hang_nil p c v w hX hc
 | node b c1 k u l r il ir =>
  intro lo hi w hW hn hX hc hm
  obtain ⟨hk, _, _, hWl, hWr, _⟩ := hW
  have hn2 : nodes l.tr + nodes r.tr + 1 < 1152921504606846976 - 4 := hn
  show Calls Tryz.prog 149 #[.pointer (some ⟨b, 0, none⟩), pv p, vptr c v] w (HangPost X w (hang (.node k u l.tr r.tr) p v))
  rw [hang]
  by_cases e0 : k = p
  ·rw [if_pos e0]
   subst e0
   exact hang_same b c1 k u l r c v w hX hc hm (by omega)
  ·rw [if_neg e0]
   by_cases e1 : com p k = k
   ·rw [if_pos e1]
    have hs := side_lt p.x k.n
    by_cases e2 : side p.x k.n = 0
    ·rw [if_pos e2]
     exact hang_down0 b c1 k u l r p c v w hX hc hm (by omega) hk hp e0 e1 e2 (fun u' hs' hl' hc' => il _ _ u' hWl (by omega) (fun b hb => by have := hX b hb; omega) hc' hl')
    ·rw [if_neg e2]
     exact hang_down1 b c1 k u l r p c v w hX hc hm (by omega) hk hp e0 e1 (by omega) (fun u' hs' hl' hc' => ir _ _ u' hWr (by omega) (fun b hb => by have := hX b hb; omega) hc' hl')
   ·rw [if_neg e1]
    by_cases e2 : com p k = p
    ·rw [if_pos e2]
     have hs := side_lt k.x p.n
     by_cases e3 : side k.x p.n = 0
     ·rw [if_pos e3]
      exact hang_above0 b c1 k u l r p c v w hX hc hm (by omega) hk hp e0 e1 e2 (by rw [e2]; exact e3)
     ·rw [if_neg e3]
      exact hang_above1 b c1 k u l r p c v w hX hc hm (by omega) hk hp e0 e1 e2 (by rw [e2]; omega)
    ·rw [if_neg e2]
     rcases fork_sides hp hk e2 e1 with ⟨s1, s2⟩ | ⟨s1, s2⟩
     ·rw [if_pos s1]
      exact hang_fork0 b c1 k u l r p c v w hX hc hm (by omega) hk hp e0 e1 e2 s1 s2
     ·rw [if_neg (by omega)]
      exact hang_fork1 b c1 k u l r p c v w hX hc hm (by omega) hk hp e0 e1 e2 s1 s2
structure TrieAt (w : World) (X : Nat -> Prop) (tb : Nat) (t : Tr) : Prop where
 mem : X tb
 lt : ∀ b, X b -> b < w.heap.size
 tree : ∃ m : MT, w.heap[tb]? = some (.cells #[m.ptr] 139) /\ m.tr = t /\ Lies w X m
 wf : WF top.x (top.x + top.s) t
theorem WF_nodes {lo hi : Nat} {t : Tr} (h : WF lo hi t) : nodes t <= 2 * (hi - lo) - 1 := by
 induction t generalizing lo hi with
 | nil => simp [nodes]
 | node k u l r il ir =>
  obtain ⟨a, b, c, d, e, _⟩ := h
  have h1 := il d
  have h2 := ir e
  have h3 := h2_le k
  have h4 := k.s_pos
  simp only [nodes]
  omega
theorem fld_tr {b : Nat} (u : World) : (Instr.fieldAt 139 (.pointer (some ⟨b, 0, none⟩)) 0).run Tryz.prog u = .ok (.pointer (some ⟨b, 0, none⟩)) u := by
 simp [go_sem]
def FP (X : Nat -> Prop) (tb : Nat) (mp : Value) (p : K) (t : Tr) (i : Nat) (v : Value) (u : World) : Prop :=
 match i with
 | 0 => v = .pointer (some ⟨tb, 0, none⟩)
 | 1 => v = .pointer (some ⟨tb, 0, none⟩)
 | 2 => v = .pointer (some ⟨tb, 0, none⟩)
 | 3 => v = .pointer (some ⟨tb, 0, none⟩)
 | 4 => v = mp
 | 5 => v = pv p
 | _ => ∃ m : MT, v = m.ptr /\ m.tr = t /\ Lies u X m
theorem FP.keeps (X : Nat -> Prop) (tb : Nat) (mp : Value) (p : K) (t : Tr) : ∀ (i : Nat) (v : Value) (w w' : World), FP X tb mp p t i v w -> Below w.heap.size w w' -> FP X tb mp p t i v w' := fun i v w w' h hb => by
 match i with
 | 0 => exact h
 | 1 => exact h
 | 2 => exact h
 | 3 => exact h
 | 4 => exact h
 | 5 => exact h
 | n + 6 =>
  obtain ⟨m, h1, h2, h3⟩ := h
  exact ⟨m, h1, h2, h3.below hb⟩
theorem put_any {X : Nat -> Prop} {tb : Nat} {t : Tr} (p : K) (a : Vt) (w : World) (hT : TrieAt w X tb t) (hp : p.Ok) :
  Calls Tryz.prog 148 #[.pointer (some ⟨tb, 0, none⟩), pv p, .agg #[.int .u32 (a.x : Int), .int .i64 a.n, .int .u32 (a.via : Int), .bool a.loc]] w fun e w' => e = .returned (.int .i64 0) /\ TrieAt w' X tb (hang t p (some a)) /\ Chg (fun b => b = tb) w w' := by
 obtain ⟨hmem, hlt, ⟨m, hrow, hmt, hL⟩, hwf⟩ := hT
 obtain ⟨w1, hw1⟩ : ∃ w1, w1 = w.alloc (.cells #[.int .u32 (p.x : Int), .int .i64 (p.n : Int)] 36) := ⟨_, rfl⟩
 obtain ⟨w2, hw2⟩ : ∃ w2, w2 = w1.alloc (.cells #[.int .u32 (a.x : Int), .int .i64 a.n, .int .u32 (a.via : Int), .bool a.loc] 38) := ⟨_, rfl⟩
 have hs1 : w1.heap.size = w.heap.size + 1 := by rw [hw1]; simp
 have hs2 : w2.heap.size = w.heap.size + 2 := by rw [hw2]; simp; omega
 have hb1 : Below w.heap.size w w1 := by rw [hw1]; exact bR.alloc nL _
 have hb2 : Below w1.heap.size w1 w2 := by rw [hw2]; exact bR.alloc nL _
 have hb0 : Below w.heap.size w w2 := hb1.trans (hb2.mono (by omega))
 have r1 : w2.heap[w.heap.size]? = some (.cells #[.int .u32 (p.x : Int), .int .i64 (p.n : Int)] 36) := by
  rw [hb2.block _ (by omega), hw1]; exact heap_alloc_new w _
 have r2 : w2.heap[w.heap.size + 1]? = some (.cells #[.int .u32 (a.x : Int), .int .i64 a.n, .int .u32 (a.via : Int), .bool a.loc] 38) := by rw [hw2, <- hs1]; exact heap_alloc_new w1 _
 have x0 : w2.cell? ⟨w.heap.size, 0, none⟩ = some (.int .u32 (p.x : Int)) := crw r1 rfl
 have x1 : w2.cell? ⟨w.heap.size, 1, none⟩ = some (.int .i64 (p.n : Int)) := crw r1 rfl
 have HV := hid (valid_ok w2 hp)
 have HWA : Hid (w2 = (w.alloc (.cells #[.int .u32 (p.x : Int), .int .i64 (p.n : Int)] 36)).alloc (.cells #[.int .u32 (a.x : Int), .int .i64 a.n, .int .u32 (a.via : Int), .bool a.loc] 38)) := by unfold Hid; rw [hw2, hw1]
 have hlt0 := (gsl hrow)
 have HH : Hid (∀ u, Below w2.heap.size w2 u -> Calls Tryz.prog 149 #[m.ptr, pv p, vptr (w.heap.size + 1) (some a)] u (HangPost X u (hang t p (some a)))) := fun u hu => by
  have hn := WF_nodes hwf
  rw [top_s, <- hmt] at hn
  rw [<- hmt] at hwf ⊢
  have hbu := hb0.trans (hu.mono (by omega))
  refine hang_any p hp _ _ m _ _ u hwf (by show nodes m.tr < _; simp only [top] at hn; omega) (fun b hb => by have := hlt b hb; have := hbu.size; omega) (fun a' ha => ?_) (hL.below hbu)
  obtain rfl : a = a' := by injection ha
  exact ⟨fun hx => by have := hlt _ hx; omega, below_keeps hu r2 (by omega)⟩
 have R1 := hid r1
 have HB0 := hid hb0
 have HS2 := hid hs2
 have HROW : Hid (w2.heap[tb]? = some (.cells #[m.ptr] 139)) := below_keeps hb0 hrow hlt0
 have HLT := hid hlt0
 have HLA := hid hlt
 have HMEM := hid hmem
 have HWF := hid (hang_facts (v := some a) top_ok hwf hp hp.top).1
 obtain ⟨mp, hmp⟩ := ptr_is m
 rw [hmp] at HH HROW
 generalize hang t p (some a) = T at *
 unfold pv at HV ⊢
 clear hw1 hw2 hs1 hs2 hb1 hb2 hb0 r1 r2 hrow hmt hL hwf hlt0 hlt hmem hmp
 go_enter Tryz.func148, Tryz.ntmps148
 go_upto_region 1 with fail
 rw [<- HWA.out]
 go_wp2_with fail
 refine HV.out.mono ?_
 rintro _ w3 ⟨rfl, hb3⟩
 have HB3 := hid hb3
 clear hb3 x0 x1
 go_upto_region 3 with fail
 have HB23 : Hid (Below w.heap.size w w3) := HB0.out.trans (HB3.out.mono (by have := HS2.out; omega))
 refine wp_region_mono' 7 (fun i => 10 + i) (FP X tb (.pointer mp) p T) (by kernel_rfl) (by kernel_rfl) (FP.keeps _ _ _ _ _) ?_ ?_
 ·simp only [List.take_succ_cons, List.take_zero, N.stepsOk]
  refine ⟨?_, ?_, ?_, ?_, ?_, ?_, ?_, trivial⟩
  ·intro a u vs hb hold hdep
   exact wp_val (ex_move (.tmp 0) _ rfl (hold 0 (fun j hj => low (by decide)))) ⟨_, rfl, rfl, hb, bR⟩
  ·intro a u vs hb hold hdep
   exact wp_val (ex_move (.tmp 0) _ rfl (hold 0 (fun j hj => low (by decide)))) ⟨_, rfl, rfl, hb, bR⟩
  ·intro a u vs hb hold hdep
   have h0 := hdep ⟨1, .data⟩ (by simp) rfl (by decide)
   exact wp_val (ex_nil ⟨tb, 0, none⟩ (.tmp 11) rfl (h0.1.trans h0.2)) ⟨_, rfl, rfl, hb, bR⟩
  ·intro a u vs hb hold hdep
   have h0 := hdep ⟨2, .data⟩ (by simp) rfl (by decide)
   exact wp_val (ex_field _ ⟨tb, 0, none⟩ (.tmp 12) 0 _ rfl (h0.1.trans h0.2) (fld_tr u)) ⟨_, rfl, rfl, hb, bR⟩
  ·intro a u vs hb hold hdep
   have h0 := hdep ⟨3, .data⟩ (by simp) rfl (by decide)
   refine wp_val (ex_load _ ⟨tb, 0, none⟩ (.tmp 13) _ rfl (h0.1.trans h0.2) (load_nd ?_)) ⟨_, rfl, rfl, hb, bR⟩
   have hlt := (gsl HROW.out)
   rw [cell_of_row _ _ _ _ _ _ (below_keeps hb (below_keeps HB3.out HROW.out hlt) (Nat.lt_of_lt_of_le hlt HB3.out.size))]; rfl
  ·intro a u vs hb hold hdep
   have hlt : w.heap.size < w2.heap.size := by have := HS2.out; omega
   have hr := below_keeps hb (below_keeps HB3.out R1.out hlt) (Nat.lt_of_lt_of_le hlt HB3.out.size)
   refine wp_val (ex_load _ ⟨w.heap.size, 0, none⟩ (.tmp 4) _ rfl (hold 4 (fun j hj => low (by decide))) (load_pre (x := .int .u32 (p.x : Int)) (y := .int .i64 (p.n : Int)) ?_ ?_)) ⟨_, rfl, rfl, hb, bR⟩
   ·rw [cell_of_row _ _ _ _ _ _ hr]; rfl
   ·rw [cell_of_row _ _ _ _ _ _ hr]; rfl
  ·intro a u vs hb hold hdep
   have h4 := hdep ⟨4, .data⟩ (by simp) rfl (by decide)
   have h5 := hdep ⟨5, .data⟩ (by simp) rfl (by decide)
   have e4 : a.eval (.tmp 14) = .pointer mp := h4.1.trans h4.2
   have e5 : a.eval (.tmp 15) = pv p := h5.1.trans h5.2
   have e6 : a.eval (.tmp 5) = .pointer (some ⟨w.heap.size + 1, 0, none⟩) := hold 5 (fun j hj => low (by decide))
   refine wp_call 149 _ _ rfl (enters_of Tryz.func149 (by kernel_rfl) rfl) #[.pointer mp, pv p, .pointer (some ⟨w.heap.size + 1, 0, none⟩)] (by simp only [List.map_toArray, List.map_cons, List.map_nil, e4, e5, e6]) ?_
   refine (HH.out u (HB3.out.trans (hb.mono HB3.out.size))).mono ?_
   rintro _ u' ⟨m, rfl, m1, m2, hb'⟩
   exact ⟨_, rfl, _, rfl, ⟨m, rfl, m1, m2⟩, hb.trans (hb'.mono hb.size), hb'⟩
 intro vs u hb hF
 have e0 : vs 0 = .pointer (some ⟨tb, 0, none⟩) := hF 0 (by decide)
 obtain ⟨m, e6, m1, m2⟩ := hF 6 (by decide)
 clear hF
 obtain ⟨mq, hmq⟩ := ptr_is m
 rw [hmq] at e6
 simp only [List.drop_succ_cons, List.drop_zero, puts, List.range, List.range.loop, List.foldr, Nat.reduceAdd, if_true, e0, e6, Act.put, List.setIfInBounds_toArray, List.set_cons_zero, List.set_cons_succ]
 clear e0 e6
 generalize vs 1 = q1
 generalize vs 2 = q2
 generalize vs 3 = q3
 generalize vs 4 = q4
 generalize vs 5 = q5
 have hlt := (gsl HROW.out)
 have hr := below_keeps hb (below_keeps HB3.out HROW.out hlt) (Nat.lt_of_lt_of_le hlt HB3.out.size)
 have t0 : u.cell? ⟨tb, 0, none⟩ = some (.pointer mp) := crw hr rfl
 have t0f : u.frozen? ⟨tb, 0, none⟩ = false := frozen_of_row _ _ _ _ _ hr
 have HR := hid hr
 have hbu := HB23.out.trans (hb.mono HB23.out.size)
 have hbt : But tb u (u.setCell ⟨tb, 0, none⟩ (.pointer mq)) := But.set _ _ _ _
 have HFIN : Hid (TrieAt (u.setCell ⟨tb, 0, none⟩ (.pointer mq)) X tb T /\ Chg (fun b => b = tb) w (u.setCell ⟨tb, 0, none⟩ (.pointer mq))) := by
  refine ⟨⟨HMEM.out, fun b hb' => ?_, ⟨m, ?_, m1, m2.chg (Chg.of_but hbt HMEM.out)⟩, HWF.out⟩, (Chg.of_below hbu).trans (Chg.of_but hbt rfl)⟩
  ·have h1 := HLA.out b hb'
   have h2 := hbu.size
   have h3 := hbt.size
   omega
  ·rw [set_row hr, hmq]; rfl
 clear hlt hr hb m1 m2 hbu hbt hmq
 go_wp2_with fail
 go_ret
 exact ⟨rfl, HFIN.out⟩
end Go.Proofs.YtpdnnikkaojnkaaGreat.Rt
namespace Go.Proofs.YtpdnnikkaojnkaaGreat.Rt
open Go.Proofs.YtpdnnikkaojnkaaGreat Go.RowKit Go.Shelf
def onPost (B k : Nat) (I : Nat -> World -> Prop) (W : World) : Exit -> Act -> World -> Prop
 | .normal, _, W' => KeepsFrom B W W' /\ I (k + 1) W'
 | _, _, _ => False
def Gives {α : Type} (F : Fence) (n : Nat) (P : Program) (g : Nat) (lb : Array Value) (encs : α -> Array Value) (xs : List α) (Fx : Nat -> World -> Prop) : Prop :=
 ∀ (l : Nat) (J : Nat -> World -> Prop) (W : World), AbidesFrom W.heap.size J -> (∀ k W, J k W -> Fx k W) ->
  (∀ k x W1, J k W1 -> xs[k]? = some x -> YieldAt F (n - 1) P l (encs x) W1 fun e W' => e = .returned (.bool true) /\ J (k + 1) W') ->
  J 0 W -> CallsIn F n P g (#[.func (.yield l) #[] #[]] ++ lb) W fun e W' => (∃ v, e = .returned v) /\ J xs.length W'
theorem wpIn_gives {F : Fence} {n : Nat} {P : Program} {α : Type} {g : Operand} {ps : Array Tmp} {assign body : Code} {Q : Exit -> Act -> World -> Prop} {a : Act} {w : World}
  (hro : F.round = none) (h1 : 1 <= n) {gf : Nat} {lb : Array Value} (hg : a.eval g = .func (.func gf) #[] lb) (hFg : F.fn gf) (eg : ∀ args w, (callFunc gf args).run P w = .ok (.enter gf args) w)
  {encs : α -> Array Value} {xs : List α} {Fx : Nat -> World -> Prop} (hseq : Gives F (n - 1) P gf lb encs xs Fx) (hps : ∀ x, (encs x).size = ps.size)
  (I : Nat -> World -> Prop) (hI : OwnFrom w.heap.size I) (hF : ∀ k W, I k W -> Fx k W) (h0 : I 0 w) (a₁ : α -> Act)
  (hassign : ∀ (l : Nat) (x : α) (W : World) (K : Act -> World -> Prop), K (a₁ x) W ->
   assign.wpIn (F.inRound l) (n - 1 - 1) P (Exit.then K (fun _ _ _ => False)) { tmps := (ps.zip (encs x)).foldl (fun t (p, v) => t.setIfInBounds p v) a.tmps, defers := [] } W)
  (hbody : ∀ (l k : Nat) (x : α) (W : World), I k W -> xs[k]? = some x -> body.wpIn (F.inRound l) (n - 1 - 1) P (onPost w.heap.size k I W) (a₁ x) W)
  (hdone : ∀ (D : Nat) (W : World), w.heap.size <= D -> I xs.length W -> W.heap[D]? = some (.deferred (some [])) -> Q .normal { a with defers := { target := .collected D, args := #[] } :: a.defers } W) :
  (Code.rangeFunc g ps assign body).wpIn F n P Q a w := by
 refine wpIn_rangeFunc fun fn hfn => ?_
 rw [hro]
 let R : LoopState -> Option Code -> Loop := fun st pe => { state := st, pending := pe, fn, tmps := a.tmps, params := ps, assign, body, defers := w.heap.size }
 obtain ⟨W1, hW1⟩ : ∃ W1, (w.alloc (.deferred (some []))).alloc (.loop (R .ready none)) = W1 := ⟨_, rfl⟩
 have hs1 : W1.heap.size = w.heap.size + 2 := by rw [<- hW1]; simp
 have hl1 : W1.heap[w.heap.size + 1]? = some (.loop (R .ready none)) := by
  have := World.alloc_heap_new (w.alloc (.deferred (some []))) (.loop (R .ready none))
  rw [World.size_alloc] at this
  rw [<- hW1]; exact this
 have hd1 : W1.heap[w.heap.size]? = some (.deferred (some [])) := by
  rw [<- hW1]; exact (Below.heap_alloc _ _ _ (by simp)).trans (World.alloc_heap_new w _)
 refine ⟨w.heap.size + 1, [{ target := .collected w.heap.size, args := #[] }], W1, { target := .fn (.func gf) lb, args := #[.func (.yield (w.heap.size + 1)) #[] #[]] }, W1, gf, #[.func (.yield (w.heap.size + 1)) #[] #[]] ++ lb, W1, ?_, ?_, ?_, ?_, fun _ => h1, ?_⟩
 ·rw [<- hW1]; exact run_enterLoop_outer _ _ _ _ _
 ·simp only [resolve, hg]; simp [go_sem]
 ·intro f' hf'; simp [Target.leads] at hf'; subst hf'; exact hFg
 ·simp [invoke, go_sem, eg]
 ·refine (hseq (w.heap.size + 1) (fun k W => I k W /\ W.heap[w.heap.size + 1]? = some (.loop (R .ready none)) /\ W.heap[w.heap.size]? = some (.deferred (some []))) W1 ?_ (fun k W h => hF k W h.1) ?_ ⟨?_, hl1, hd1⟩).mono ?_
  ·rintro k A B row ⟨i1, i2, i3⟩ hg' hr
   have hr' : ∀ r, row = some r -> ∃ o : Obj, A.heap[r]? = some o /\ o.isWalk = true := fun r e => (hr r e).2
   refine ⟨hI k A B row i1 hg' (fun r e => ?_), (grownBy_keeps hg' hr' i2 rfl).trans i2, (grownBy_keeps hg' hr' i3 rfl).trans i3⟩
   obtain ⟨q1, o, q2, q3⟩ := hr r e
   exact ⟨by omega, o, q2, Obj.not_cells_of_walk q3⟩
  ·rintro k x W ⟨i1, i2, i3⟩ hx
   have hlt := (gsl i2)
   obtain ⟨Wb, hWb⟩ : ∃ Wb, Wb = W.putObj (w.heap.size + 1) (.loop { R .ready none with state := .busy }) := ⟨_, rfl⟩
   have b2 : Wb.heap[w.heap.size + 1]? = some (.loop { R .ready none with state := .busy }) := by rw [hWb]; exact World.putObj_heap_same hlt
   have b3 : Wb.heap[w.heap.size]? = some (.deferred (some [])) := by rw [hWb]; exact (World.putObj_heap_other (by omega)).trans i3
   have b1 : I k Wb := by rw [hWb]; exact hI.putObj _ i1 (by omega) i2 rfl
   refine ⟨fn, _, assign, body, run_yield (P := P) (args := encs x) i2 (hps x), roundIn_of_wpIn hfn (hassign _ x W _ ⟨_, run_beginRound i2 rfl, ?_⟩)⟩
   rw [<- hWb]
   refine wpIn_mono (hbody _ k x Wb b1 hx) ?_
   rintro e a3 W3 hp
   cases e with
   | normal =>
    obtain ⟨k1, k2⟩ := hp
    have c2 := k1.same _ _ (by omega) b2 rfl
    have c3 := k1.same _ _ nL b3 rfl
    exact ⟨_, _, run_endRound (P := P) none c2, rfl, hI.putObj _ k2 (by omega) c2 rfl, World.putObj_heap_same (gsl c2), (World.putObj_heap_other (by omega)).trans c3⟩
   | ret => exact hp.elim
   | exit id => exact hp.elim
   | goto t => exact hp.elim
   | panic ch => exact hp.elim
   | outgrown => exact hp.elim
  ·rw [<- hW1]; exact hI.alloc _ (hI.alloc _ h0)
  ·rintro e W2 ⟨⟨v, rfl⟩, i1, i2, i3⟩
   exact ⟨none, _, run_endLoop (P := P) i2 (by simp [R]), hdone _ _ nL (hI.putObj _ i1 (by omega) i2 rfl) ((World.putObj_heap_other (by omega)).trans i3)⟩
end Go.Proofs.YtpdnnikkaojnkaaGreat.Rt
namespace Go.Proofs.YtpdnnikkaojnkaaGreat.Rt
open Go.Proofs.YtpdnnikkaojnkaaGreat Go.ChangeShapes Go.WideShapes Go.ChangeAt Go.RowKit Go.Shelf Tri N
attribute [local go_sem] Oper.semAt_some
set_option maxHeartbeats 4000000
set_option maxRecDepth 100000
def path : MT -> Nat -> List MT
 | .nil, _ => []
 | .node b c k u l r, a => if hasK k a then .node b c k u l r :: (if side a k.n = 0 then path l a else path r a) else []
theorem wp_region_beh {P : Program} {id : Nat} {Q : Exit -> Act -> World -> Prop} {a : Act} {w : World} {l : List Oper} (hm : P.follows .mixedOrders = true) (hB : Region.lexB .any l.toArray = true)
  (h : wpQuiet P l.toArray (fun w' => ∃ u : Beh w, w' = u.wd) (fun a' => ∀ w', (∃ u : Beh w, w' = u.wd) -> Q .normal a' w') l a) : (Code.region id l.toArray true).wp P Q a w :=
 wp_region_quiet (C := fun w' => ∃ u : Beh w, w' = u.wd) hm hB ⟨⟨_, below_drewN bR 1⟩, rfl⟩ (by simpa using h)
structure HdF (X : Nat -> Prop) (tbx abx : Nat) (m : MT) (a : Nat) (W : World) : Prop where
 tb : W.heap[tbx]? = some (.cells #[m.ptr] 137)
 ab : W.heap[abx]? = some (.cells #[.int .u32 (a : Int)] 34)
 ls : Lies W X m
theorem holding_gives (n : Nat) (hn : 2 <= n) (X : Nat -> Prop) (tbx abx : Nat) (m : MT) (a : Nat) {lo hi : Nat} (hwf : WF lo hi m.tr) :
  Gives Fence.wide n Tryz.prog 91 #[.pointer (some ⟨tbx, 0, none⟩), .pointer (some ⟨abx, 0, none⟩)] (fun q : MT => #[q.ptr]) (path m a) (fun _ W => HdF X tbx abx m a W) := by
 intro l J W hJ hJF hY h0
 obtain ⟨mp, hmp⟩ := ptr_is m
 have hF0 := hJF _ _ h0
 have t0 : W.cell? ⟨tbx, 0, none⟩ = some (.pointer mp) := by rw [<- hmp, cell_of_row _ _ _ _ _ _ hF0.tb]; rfl
 refine callsIn_of_wp Tryz.func91 rfl trivial ?_ rfl
 refine wpIn_wide.2 ?_
 simp only [Tryz.ntmps91, List.size_toArray, List.length_cons, List.length_nil, Nat.reduceAdd, Nat.reduceSub, Array.replicate_succ, Array.replicate_zero, List.push_toArray, List.append_toArray, List.nil_append, List.cons_append]
 have HJ : Hid (∀ k A B, J k A -> Below A.heap.size A B -> J k B) := fun k A B h hb => hJ k A B none h ⟨hb.os, hb.tape, hb.output, hb.size, fun j hj _ => hb.block j hj⟩ (fun r e => by cases e)
 have HREL : Hid (∃ q : MT, Value.pointer mp = q.ptr /\ (path m a).length = (path q a).length /\ (path m a).drop ((path m a).length - (path m a).length) = path q a /\ (∃ lo hi, WF lo hi q.tr) /\ (∀ W', Lies W' X m -> Lies W' X q) /\ J ((path m a).length - (path m a).length) W) :=
  ⟨m, hmp.symm, rfl, by simp, ⟨lo, hi, hwf⟩, fun _ h => h, by simpa using h0⟩
 have HJF := hid hJF
 have HY := hid hY
 clear hJ hJF hY hwf h0 hmp hF0
 go_upto_region 1 with fail
 clear t0
 obtain ⟨N, hN⟩ : ∃ N, N = (path m a).length := ⟨_, rfl⟩
 rw [<- hN] at HREL
 have HN := hid hN
 clear hN
 go_loopg [4] N (fun gk p wr => Hid (∃ q : MT, p = q.ptr /\ gk = (path q a).length /\ (path m a).drop (N - gk) = path q a /\ (∃ lo hi, WF lo hi q.tr) /\ (∀ W', Lies W' X m -> Lies W' X q) /\ J (N - gk) wr))
 case atStart => exact HREL.out
 case round =>
  obtain ⟨q, rfl, hgk, hdr, ⟨lo', hi', hq⟩, hsub, hJq⟩ := hrel.out
  have hFx := HJF.out _ _ hJq
  clear hrel HREL
  cases q with
  | nil =>
   have hl : gk = 0 := hgk
   subst hl
   have HJ1 : Hid (∀ t : Beh wr, J (path m a).length t.wd) := fun t => by have h := HJ.out _ _ _ hJq t.ok; rw [Nat.sub_zero, HN.out] at h; exact h
   clear hgk hdr hq hsub hJq hFx HY HJF HJ
   simp only [MT.ptr]
   go_upto_region 1 with fail
   refine wp_region_beh (by kernel_rfl) (by kernel_rfl) ?_
   repeat (go_big_quiet_step (fail))
   refine wpQuiet_nil ?_
   rintro _ ⟨t, rfl⟩
   go_wp2_with fail
   go_end0
   exact ⟨⟨_, rfl⟩, HJ1.out t⟩
  | node b c k u l r =>
   obtain ⟨ok, _, _, wl, wr', _⟩ := hq
   obtain ⟨_, hrow, _, hLl, hLr⟩ := hsub _ hFx.ls
   have hlt := (gsl hrow)
   have hltA := (gsl hFx.ab)
   have n0 : ∀ t : Beh wr, t.wd.cell? ⟨b, 0, none⟩ = some (.int .u32 (k.x : Int)) := fun t => by rw [cell_of_row _ _ _ _ _ _ (below_keeps t.ok hrow hlt)]; rfl
   have n1 : ∀ t : Beh wr, t.wd.cell? ⟨b, 1, none⟩ = some (.int .i64 (k.n : Int)) := fun t => by rw [cell_of_row _ _ _ _ _ _ (below_keeps t.ok hrow hlt)]; rfl
   have a0 : ∀ t : Beh wr, t.wd.cell? ⟨abx, 0, none⟩ = some (.int .u32 (a : Int)) := fun t => by rw [cell_of_row _ _ _ _ _ _ (below_keeps t.ok hFx.ab hltA)]; rfl
   have HC : ∀ t : Beh wr, Hid (Calls Tryz.prog 92 #[pv k, .int .u32 (a : Int)] t.wd fun e w'' => e = .returned (.bool (hasK k a)) /\ ∃ t' : Beh wr, w'' = t'.wd) := fun t => Calls.beh (contains_ok a _ ok)
   unfold pv at HC
   cases hk : hasK k a with
   | false =>
    have hp : path (.node b c k u l r) a = [] := by rw [path, hk]; rfl
    have hl : gk = 0 := by rw [hgk, hp]; rfl
    subst hl
    have HJ1 : Hid (∀ t : Beh wr, J (path m a).length t.wd) := fun t => by have h := HJ.out _ _ _ hJq t.ok; rw [Nat.sub_zero, HN.out] at h; exact h
    rw [hk] at HC
    clear hgk hdr hsub hJq hFx HY HJF HJ hk hp wl wr' hrow hLl hLr
    simp only [MT.ptr]
    go_upto_region 1 with fail
    refine wp_region_beh (by kernel_rfl) (by kernel_rfl) ?_
    repeat (go_big_quiet_step (first | (go_at_call 92; exact (HC _).out)))
    refine wpQuiet_nil ?_
    rintro _ ⟨t, rfl⟩
    go_wp2_with fail
    go_end0
    exact ⟨⟨_, rfl⟩, HJ1.out t⟩
   | true =>
    obtain ⟨ch, hch⟩ : ∃ ch : MT, ch = if side a k.n = 0 then l else r := ⟨_, rfl⟩
    have hp : path (.node b c k u l r) a = .node b c k u l r :: path ch a := by rw [path, hk, hch]; simp only [if_true]; split <;> rfl
    rw [hk] at HC
    have hgk2 : gk = (path ch a).length + 1 := by rw [hgk, hp]; rfl
    have hat : (path m a)[N - gk]? = some (.node b c k u l r) := by
     have := congrArg (fun L => L[0]?) hdr
     rw [hp] at this
     simpa using this
    have hle : gk <= N := by
     have := congrArg List.length hdr
     rw [List.length_drop, <- HN.out, <- hgk] at this
     omega
    have hdr2 : (path m a).drop (N - (path ch a).length) = path ch a := by
     have e : N - (path ch a).length = (N - gk) + 1 := by omega
     rw [e, <- List.drop_drop, hdr, hp]; rfl
    have HNX : Hid (∀ wz, J (N - gk + 1) wz -> ∃ q : MT, ch.ptr = q.ptr /\ gk - 1 = (path q a).length /\ (path m a).drop (N - (gk - 1)) = path q a /\ (∃ lo hi, WF lo hi q.tr) /\ (∀ W', Lies W' X m -> Lies W' X q) /\ J (N - (gk - 1)) wz) := fun wz hz => by
     have e1 : gk - 1 = (path ch a).length := by omega
     have e2 : N - (gk - 1) = N - gk + 1 := by omega
     refine ⟨ch, rfl, e1, by rw [e1]; exact hdr2, ?_, fun W' hW' => ?_, by rw [e2]; exact hz⟩
     ·rw [hch]; split
      ·exact ⟨_, _, wl⟩
      ·exact ⟨_, _, wr'⟩
     ·have h := hsub W' hW'
      rw [hch]; split
      ·exact h.2.2.2.1
      ·exact h.2.2.2.2
    have HJ1 : Hid (∀ t : Beh wr, J (N - gk) t.wd) := fun t => HJ.out _ _ _ hJq t.ok
    have HAT := hid hat
    have HPOS : Hid (gk - 1 < gk) := by unfold Hid; omega
    have HSUB := hid hsub
    have HOK := hid ok
    have HCH := hid hch
    clear hgk hdr hsub hJq hFx hk hp wl wr' hrow hLl hLr hgk2 hat hle hdr2 hlt hltA ok hch
    simp only [MT.ptr]
    go_upto_region 1 with fail
    refine wp_region_beh (by kernel_rfl) (by kernel_rfl) ?_
    repeat (go_big_quiet_step (first | (go_at_call 92; exact (HC _).out)))
    refine wpQuiet_nil ?_
    rintro _ ⟨t, rfl⟩
    have hJt := HJ1.out t
    clear n0 n1 a0 HC HJ1
    obtain ⟨fn, tmps, assign, body, hy, hR⟩ := HY.out _ _ t.wd hJt HAT.out
    simp only [MT.ptr] at hy
    go_upto_region 3 with fail
    refine (wpIn_wide (n := n)).1 ?_
    gi_wp2
    refine ⟨fun _ => by omega, hR.mono ?_⟩
    rintro _ W3 ⟨rfl, hJ3⟩
    have HJ3 := hid hJ3
    have hF3 := HJF.out _ _ hJ3
    obtain ⟨_, hrow, _, _, _⟩ := HSUB.out _ hF3.ls
    have n1 : W3.cell? ⟨b, 1, none⟩ = some (.int .i64 (k.n : Int)) := crw hrow rfl
    have a0 : W3.cell? ⟨abx, 0, none⟩ = some (.int .u32 (a : Int)) := crw hF3.ab rfl
    have hs2 := side_lt a k.n
    clear hJ3 hy hR hJt HY HJF HSUB
    gi_wp2
    by_cases hs : side a k.n = 0
    ·skip
     have HCE : Hid (ch.ptr = l.ptr) := by unfold Hid; rw [HCH.out, if_pos hs]
     obtain ⟨cp, hcp⟩ := ptr_is l
     have n3 : W3.cell? ⟨b, 3, none⟩ = some (.pointer cp) := by rw [<- hcp, cell_of_row _ _ _ _ _ _ hrow]; rfl
     have HH := fun u => hid (half_any a k.n u HOK.out.1)
     rw [show side a k.n = 0 from hs] at HH
     have HCP := hid hcp
     clear hs hs2 hrow hcp hF3
     go_upto_region 2 with fail
     refine wp_region_still_tail 12 (by kernel_rfl) (by kernel_rfl) ?_
     simp only [List.take_succ_cons, List.take_zero, List.drop_succ_cons, List.drop_zero]
     iterate 7 still_step
     still_call (HH _).out
     iterate 4 still_step
     refine wpStill_nil ?_
     go_wp2_with fail
     go_roundg (gk - 1)
     case measure => exact HPOS.out
     case rel =>
      have h := HNX.out W3.drew (HJ.out _ _ _ HJ3.out ⟨rfl, rfl, rfl, nL, fun _ _ => rfl⟩)
      rw [HCE.out, HCP.out] at h
      exact h
    ·skip
     have HCE : Hid (ch.ptr = r.ptr) := by unfold Hid; rw [HCH.out, if_neg hs]
     obtain ⟨cp, hcp⟩ := ptr_is r
     have n3 : W3.cell? ⟨b, 4, none⟩ = some (.pointer cp) := by rw [<- hcp, cell_of_row _ _ _ _ _ _ hrow]; rfl
     have HH := fun u => hid (half_any a k.n u HOK.out.1)
     rw [show side a k.n = 1 from by omega] at HH
     have HCP := hid hcp
     clear hs hs2 hrow hcp hF3
     go_upto_region 2 with fail
     refine wp_region_still_tail 12 (by kernel_rfl) (by kernel_rfl) ?_
     simp only [List.take_succ_cons, List.take_zero, List.drop_succ_cons, List.drop_zero]
     iterate 7 still_step
     still_call (HH _).out
     iterate 4 still_step
     refine wpStill_nil ?_
     go_wp2_with fail
     go_roundg (gk - 1)
     case measure => exact HPOS.out
     case rel =>
      have h := HNX.out W3.drew (HJ.out _ _ _ HJ3.out ⟨rfl, rfl, rfl, nL, fun _ _ => rfl⟩)
      rw [HCE.out, HCP.out] at h
      exact h
attribute [local go_sem] Oper.semAt_some
def MT.hasV : MT -> Bool
 | .nil => false
 | .node _ _ _ u _ _ => u.isSome
def lvF (acc : MT) (L : List MT) : MT := L.foldl (fun x q => if q.hasV then q else x) acc
theorem lvF_snoc (acc : MT) (L : List MT) (q : MT) : lvF acc (L ++ [q]) = if q.hasV then q else lvF acc L := by
 unfold lvF
 rw [List.foldl_append]
 rfl
theorem lv_find (m : MT) (a : Nat) : ∀ acc : MT, (find m.tr a = none /\ lvF acc (path m a) = acc) \/ ∃ b c k v l r, find m.tr a = some (k, v) /\ lvF acc (path m a) = .node b c k (some v) l r /\ ∀ W X, Lies W X m -> Lies W X (.node b c k (some v) l r) := by
 induction m with
 | nil => intro acc; exact .inl ⟨rfl, rfl⟩
 | node b c k u l r il ir =>
  intro acc
  simp only [MT.tr, find, path]
  cases hk : hasK k a with
  | false => exact .inl ⟨rfl, rfl⟩
  | true =>
   simp only [if_true]
   have key : ∀ ch : MT, (∀ acc : MT, (find ch.tr a = none /\ lvF acc (path ch a) = acc) \/ ∃ b c k v l r, find ch.tr a = some (k, v) /\ lvF acc (path ch a) = .node b c k (some v) l r /\ ∀ W X, Lies W X ch -> Lies W X (.node b c k (some v) l r)) ->
     (∀ W X, Lies W X (.node b c k u l r) -> Lies W X ch) ->
     ((find ch.tr a).or (u.map fun v => (k, v)) = none /\ lvF acc (.node b c k u l r :: path ch a) = acc) \/ ∃ b' c' k' v' l' r', (find ch.tr a).or (u.map fun v => (k, v)) = some (k', v') /\ lvF acc (.node b c k u l r :: path ch a) = .node b' c' k' (some v') l' r' /\ ∀ W X, Lies W X (.node b c k u l r) -> Lies W X (.node b' c' k' (some v') l' r') := fun ch ih hL => by
    have e : lvF acc (.node b c k u l r :: path ch a) = lvF (if u.isSome then .node b c k u l r else acc) (path ch a) := rfl
    rw [e]
    rcases ih (if u.isSome then .node b c k u l r else acc) with ⟨h1, h2⟩ | ⟨b', c', k', v', l', r', h1, h2, h3⟩
    ·rw [h1, h2]
     cases u with
     | none => exact .inl ⟨rfl, rfl⟩
     | some v => exact .inr ⟨b, c, k, v, l, r, rfl, rfl, fun _ _ h => h⟩
    ·rw [h1, h2]
     exact .inr ⟨b', c', k', v', l', r', rfl, rfl, fun W X h => h3 W X (hL W X h)⟩
   by_cases hs : side a k.n = 0
   ·simp only [hs, if_true]
    exact key l il (fun W X h => h.2.2.2.1)
   ·simp only [hs, if_false]
    exact key r ir (fun W X h => h.2.2.2.2)
theorem path_node {m q : MT} {a : Nat} (h : q ∈ path m a) : (∃ b c k u l r, q = .node b c k u l r) /\ ∀ W X, Lies W X m -> Lies W X q := by
 induction m with
 | nil => simp [path] at h
 | node b c k u l r il ir =>
  rw [path] at h
  split at h
  ·rcases List.mem_cons.1 h with h | h
   ·exact ⟨⟨b, c, k, u, l, r, h⟩, fun W X hL => by rw [h]; exact hL⟩
   ·split at h
    ·exact ⟨(il h).1, fun W X hL => (il h).2 W X hL.2.2.2.1⟩
    ·exact ⟨(ir h).1, fun W X hL => (ir h).2 W X hL.2.2.2.2⟩
  ·simp at h
theorem holding_any (m : MT) (a : Nat) (w : World) :
  Calls Tryz.prog 77 #[m.ptr, .int .u32 (a : Int)] w fun e w' => e = .returned (.func (.func 91) #[] #[.pointer (some ⟨w.heap.size, 0, none⟩), .pointer (some ⟨w.heap.size + 1, 0, none⟩)]) /\ w' = (w.alloc (.cells #[m.ptr] 137)).alloc (.cells #[.int .u32 (a : Int)] 34) := by
 obtain ⟨mp, hmp⟩ := ptr_is m
 rw [hmp]
 go_enter Tryz.func77, Tryz.ntmps77
 go_wp2_with fail
 go_ret
 exact ⟨rfl, rfl⟩
theorem ownFrom_below' {B : Nat} {I : Nat -> World -> Prop} (hs : ∀ k W, I k W -> B <= W.heap.size) (h : ∀ k W W', I k W -> Below B W W' -> I k W') : OwnFrom B I := fun k W W' row hi hg hr =>
 h k W W' hi ⟨hg.os, hg.tape, hg.output, hg.size, fun j hj => hg.block j (Nat.lt_of_lt_of_le hj (hs k W hi)) (fun e => by have := (hr j e.symm).1; omega)⟩
theorem take_snoc {α : Type} {L : List α} {j : Nat} {x : α} (h : L[j]? = some x) : L.take (j + 1) = L.take j ++ [x] := by
 obtain ⟨hj, rfl⟩ := List.getElem?_eq_some_iff.1 h
 rw [List.take_succ_eq_append_getElem hj]
theorem load_vl {u : World} {b o : Nat} {v : Vt} (h0 : u.cell? ⟨b, o + 0, none⟩ = some (.int .u32 (v.x : Int))) (h1 : u.cell? ⟨b, o + 1, none⟩ = some (.int .i64 v.n)) (h2 : u.cell? ⟨b, o + 2, none⟩ = some (.int .u32 (v.via : Int))) (h3 : u.cell? ⟨b, o + 3, none⟩ = some (.bool v.loc)) : (Instr.loadAt 38 (.pointer (some ⟨b, o, none⟩))).run Tryz.prog u = .ok (.agg #[.int .u32 (v.x : Int), .int .i64 v.n, .int .u32 (v.via : Int), .bool v.loc]) u := by
 rw [Nat.add_zero] at h0
 simp [go_sem, h0, h1, h2, h3]
def foundV (k : K) (v : Vt) : Value := .tuple #[pv k, .agg #[.int .u32 (v.x : Int), .int .i64 v.n, .int .u32 (v.via : Int), .bool v.loc], .int .i64 0]
def dstZ (i : Nat) : Option Tmp := [some 27, some 28, some 29, some 30, some 31, some 32, some 33, some 34, some 35, some 36, none, none, some 6].getD i none
theorem dlZ {s : Nat} (h : some s ∉ [some 27, some 28, some 29, some 30, some 31, some 32, some 33, some 34, some 35, some 36, none, none, some 6]) : ∀ j, j < 13 -> dstZ j ≠ some s := fun j hj e => h (by
 unfold dstZ at e
 rw [<- e, List.getD_eq_getElem?_getD, List.getElem?_eq_getElem (by exact hj)]
 exact List.getElem_mem _)
def FZ (l : List Value) (s : Nat) (row row2 : Array Value) (i : Nat) (vs : Nat -> Value) (w : World) : Prop := l[i]? = some (vs i) /\ (i = 10 -> w.heap[s]? = some (.cells row 36)) /\ (i = 11 -> w.heap[s + 1]? = some (.cells row2 38))
def IZ (W : World) (s : Nat) (u : World) : Prop := Chg (fun b => b = s \/ b = s + 1) W u /\ (∃ x y, u.heap[s]? = some (.cells #[x, y] 36)) /\ ∃ y0 y1 y2 y3, u.heap[s + 1]? = some (.cells #[y0, y1, y2, y3] 38)
def RZ (s : Nat) (j : Nat) (w w' : World) : Prop := if j = 10 then But s w w' /\ s + 1 < w.heap.size else if j = 11 then But (s + 1) w w' /\ s < w.heap.size else w'.heap = w.heap
theorem FZ.keeps (l : List Value) (s : Nat) (row row2 : Array Value) (ops : List Oper) (I : World -> Prop) : ∀ (i j : Nat) (o : Oper) (vs : Nat -> Value) (v : Value) (w w' : World), i ≠ j -> ops[i]? = some o -> (∀ e ∈ o.after, Region.binds .any e = true -> e.on ≠ j) -> FZ l s row row2 i vs w -> I w -> RZ s j w w' -> FZ l s row row2 i (upd vs j v) w' := fun i j o vs v w w' hij _ _ h _ hr => by
 refine ⟨by rw [upd_ne _ hij]; exact h.1, fun hi => ?_, fun hi => ?_⟩
 ·unfold RZ at hr
  rw [if_neg (by omega)] at hr
  by_cases hj : j = 11
  ·rw [if_pos hj] at hr
   exact (hr.1.block s hr.2 (by omega)).trans (h.2.1 hi)
  ·rw [if_neg hj] at hr
   rw [hr]; exact h.2.1 hi
 ·unfold RZ at hr
  by_cases hj : j = 10
  ·rw [if_pos hj] at hr
   exact (hr.1.block (s + 1) hr.2 (by omega)).trans (h.2.2 hi)
  ·rw [if_neg hj, if_neg (by omega)] at hr
   rw [hr]; exact h.2.2 hi
theorem wp_stillZ {P : Program} {o : Oper} {a : Act} {W w : World} {Q : Exit -> Act -> World -> Prop} {l : List Value} {s : Nat} {row row2 : Array Value} {vs : Nat -> Value} {i : Nat} {d : Option Tmp} {v : Value} (hr : (execOp a.eval o).run P w = .ok (.value v) w) (ht : o.dst = d) (hv : l[i]? = some v) (hi : i ≠ 10 /\ i ≠ 11) (hI : IZ W s w) :
  o.wp P a w (fun a' w' => ∃ v', a' = a.put d v' /\ FZ l s row row2 i (upd vs i v') w' /\ IZ W s w' /\ RZ s i w w') Q :=
 wp_val hr (by rw [ht]; exact ⟨v, rfl, ⟨by rw [upd_eq]; exact hv, fun e => absurd e hi.1, fun e => absurd e hi.2⟩, hI, by unfold RZ; rw [if_neg hi.1, if_neg hi.2]⟩)
theorem ex_assign {P : Program} {o : Oper} {a : Act} {w : World} (x : Operand) (v : Value) (ho : o.op = .assign x) (hx : a.eval x = v) : (execOp a.eval o).run P w = .ok (.value v) w := by
 unfold execOp
 simp only [ho, hx, Sem.run_pure]
theorem find_some {X : Nat -> Prop} {tb : Nat} {t : Tr} (a : Nat) (w : World) (hT : TrieAt w X tb t) {k0 : K} {va : Vt} (hfd : find t a = some (k0, va)) :
  Calls Tryz.prog 55 #[.pointer (some ⟨tb, 0, none⟩), .int .u32 (a : Int)] w fun e w' => e = .returned (foundV k0 va) /\ Below w.heap.size w w' := by
 obtain ⟨hmem, hlt, ⟨m, hrow, hmt, hL⟩, hwf⟩ := hT
 have hlt0 := (gsl hrow)
 obtain ⟨w1, hw1⟩ : ∃ w1, w1 = w.alloc (.cells #[.int .u32 0, .int .i64 0] 36) := ⟨_, rfl⟩
 obtain ⟨wb, hwb⟩ : ∃ wb, wb = w1.alloc (.cells #[.int .u32 0, .int .i64 0, .int .u32 0, .bool false] 38) := ⟨_, rfl⟩
 obtain ⟨w2, hw2⟩ : ∃ w2, w2 = wb.alloc (.cells #[.pointer none] 137) := ⟨_, rfl⟩
 obtain ⟨w3, hw3⟩ : ∃ w3, w3 = w2.alloc (.cells #[m.ptr] 137) := ⟨_, rfl⟩
 obtain ⟨w4, hw4⟩ : ∃ w4, w4 = w3.alloc (.cells #[.int .u32 (a : Int)] 34) := ⟨_, rfl⟩
 have hs1 : w1.heap.size = w.heap.size + 1 := by rw [hw1]; simp
 have hsb : wb.heap.size = w.heap.size + 2 := by rw [hwb]; simp; omega
 have hs2 : w2.heap.size = w.heap.size + 3 := by rw [hw2]; simp; omega
 have hs3 : w3.heap.size = w.heap.size + 4 := by rw [hw3]; simp; omega
 have hs4 : w4.heap.size = w.heap.size + 5 := by rw [hw4]; simp; omega
 have b1 : Below w.heap.size w w1 := by rw [hw1]; exact bR.alloc nL _
 have bb : Below w1.heap.size w1 wb := by rw [hwb]; exact bR.alloc nL _
 have b2 : Below wb.heap.size wb w2 := by rw [hw2]; exact bR.alloc nL _
 have b3 : Below w2.heap.size w2 w3 := by rw [hw3]; exact bR.alloc nL _
 have b4 : Below w3.heap.size w3 w4 := by rw [hw4]; exact bR.alloc nL _
 have b02 : Below w.heap.size w w2 := (b1.trans (bb.mono (by omega))).trans (b2.mono (by omega))
 have b04 : Below w.heap.size w w4 := b02.trans ((b3.trans (b4.mono (by omega))).mono (by omega))
 have r0 : w4.heap[w.heap.size]? = some (.cells #[.int .u32 0, .int .i64 0] 36) := by
  rw [b4.block _ (by omega), b3.block _ (by omega), b2.block _ (by omega), bb.block _ (by omega), hw1]; exact heap_alloc_new w _
 have rv : w4.heap[w.heap.size + 1]? = some (.cells #[.int .u32 0, .int .i64 0, .int .u32 0, .bool false] 38) := by
  rw [b4.block _ (by omega), b3.block _ (by omega), b2.block _ (by omega), hwb, <- hs1]; exact heap_alloc_new w1 _
 have r1 : w4.heap[w.heap.size + 2]? = some (.cells #[.pointer none] 137) := by
  rw [b4.block _ (by omega), b3.block _ (by omega), hw2, <- hsb]; exact heap_alloc_new wb _
 have r2 : w4.heap[w.heap.size + 3]? = some (.cells #[m.ptr] 137) := by
  rw [b4.block _ (by omega), hw3, <- hs2]; exact heap_alloc_new w2 _
 have r3 : w4.heap[w.heap.size + 4]? = some (.cells #[.int .u32 (a : Int)] 34) := by
  rw [hw4, <- hs3]; exact heap_alloc_new w3 _
 have HW2 : Hid (w2 = ((w.alloc (.cells #[.int .u32 0, .int .i64 0] 36)).alloc (.cells #[.int .u32 0, .int .i64 0, .int .u32 0, .bool false] 38)).alloc (.cells #[.pointer none] 137)) := by unfold Hid; rw [hw2, hwb, hw1]
 have HHD := hid (holding_any m a w2)
 rw [<- hw3, <- hw4, hs2] at HHD
 have t0 : w2.cell? ⟨tb, 0, none⟩ = some m.ptr := by rw [cell_of_row _ _ _ _ _ _ (below_keeps b02 hrow hlt0)]; rfl
 obtain ⟨mp, hmp⟩ := ptr_is m
 have HI0 : Hid (w.heap.size + 5 <= w4.heap.size /\ Below w.heap.size w w4 /\ (w4.heap[w.heap.size]? = some (.cells #[.int .u32 0, .int .i64 0] 36) /\ w4.heap[w.heap.size + 1]? = some (.cells #[.int .u32 0, .int .i64 0, .int .u32 0, .bool false] 38)) /\ w4.heap[w.heap.size + 2]? = some (.cells #[(lvF .nil ((path m a).take 0)).ptr] 137) /\ w4.heap[w.heap.size + 3]? = some (.cells #[m.ptr] 137) /\ w4.heap[w.heap.size + 4]? = some (.cells #[.int .u32 (a : Int)] 34)) :=
  ⟨by omega, b04, ⟨r0, rv⟩, r1, r2, r3⟩
 have HS4 := hid hs4
 have HL := hid hL
 have HWF : Hid (WF top.x (top.x + top.s) m.tr) := by unfold Hid; rw [hmt]; exact hwf
 have HMT := hid hmt
 rw [hmp] at t0 HHD
 have HMP := hid hmp
 clear hwb hsb bb rv hw1 hw2 hw3 hw4 hs1 hs2 hs3 hs4 b1 b2 b3 b4 b02 b04 r0 r1 r2 r3 hrow hL hwf hlt hmem hmp hmt
 refine (callsIn_wide (n := 9)).1 ?_
 refine callsIn_of_wp_marks Tryz.func55 rfl trivial ?_ rfl
 refine wpIn_wide.2 ?_
 simp only [Tryz.ntmps55, List.size_toArray, List.length_cons, List.length_nil, Nat.reduceAdd, Nat.reduceSub, Array.replicate_succ, Array.replicate_zero, List.push_toArray, List.append_toArray, List.nil_append, List.cons_append]
 go_upto_region 2 with fail
 rw [<- HW2.out]
 go_wp2_with fail
 refine HHD.out.mono ?_
 rintro _ _ ⟨rfl, ew⟩
 obtain rfl := ew.symm
 go_wp2_with fail
 refine wpIn_wide.1 (wpIn_gives (n := 9) (F := Fence.wide) rfl (by omega) (gf := 91) (lb := #[.pointer (some ⟨w.heap.size + 3, 0, none⟩), .pointer (some ⟨w.heap.size + 3 + 1, 0, none⟩)]) rfl trivial (enters_of Tryz.func91 (by kernel_rfl) rfl)
  (holding_gives 8 (by omega) X (w.heap.size + 3) (w.heap.size + 3 + 1) m a HWF.out) (fun _ => rfl)
  (fun k W => w.heap.size + 5 <= W.heap.size /\ Below w.heap.size w W /\ (W.heap[w.heap.size]? = some (.cells #[.int .u32 0, .int .i64 0] 36) /\ W.heap[w.heap.size + 1]? = some (.cells #[.int .u32 0, .int .i64 0, .int .u32 0, .bool false] 38)) /\ W.heap[w.heap.size + 2]? = some (.cells #[(lvF .nil ((path m a).take k)).ptr] 137) /\ W.heap[w.heap.size + 3]? = some (.cells #[m.ptr] 137) /\ W.heap[w.heap.size + 4]? = some (.cells #[.int .u32 (a : Int)] 34)) ?hI ?hF ?h0
  (fun q => { tmps := #[.pointer (some ⟨tb, 0, none⟩), .int .u32 (a : Int), undef, undef, .pointer (some ⟨w.heap.size, 0, none⟩), .pointer (some ⟨w.heap.size + 1, 0, none⟩), .int .i64 0, .pointer (some ⟨w.heap.size + 2, 0, none⟩), q.ptr, undef, .pointer (some ⟨tb, 0, none⟩), .pointer (some ⟨tb, 0, none⟩), .pointer (some ⟨tb, 0, none⟩), .pointer mp, .int .u32 (a : Int), .func (.func 91) #[] #[.pointer (some ⟨w.heap.size + 3, 0, none⟩), .pointer (some ⟨w.heap.size + 3 + 1, 0, none⟩)], q.ptr, undef, undef, undef, undef, undef, undef, undef, undef, undef, undef, undef, undef, undef, undef, undef, undef, undef, undef, undef, undef], defers := [] }) ?assign ?body ?done)
 case hI =>
  rw [HS4.out]
  refine ownFrom_below' (fun k W hi => hi.1) ?_
  rintro k W W' ⟨i1, i2, i3, i4, i5, i6⟩ hb
  exact ⟨Nat.le_trans i1 hb.size, i2.trans (hb.mono (by omega)), ⟨below_keeps hb i3.1 (by omega), below_keeps hb i3.2 (by omega)⟩, below_keeps hb i4 (by omega), below_keeps hb i5 (by omega), below_keeps hb i6 (by omega)⟩
 case hF =>
  rintro k W ⟨i1, i2, i3, i4, i5, i6⟩
  exact ⟨i5, i6, HL.out.below i2⟩
 case h0 => exact HI0.out
 case assign =>
  intro l x W K hK
  obtain ⟨xp, hxp⟩ := ptr_is x
  rw [hxp] at hK ⊢
  gi_wp2
  exact hK
 case body =>
  rintro l k x W ⟨i1, i2, i3, i4, i5, i6⟩ hx
  obtain ⟨⟨b, c, kk, u, lt, rt, rfl⟩, hxl⟩ := path_node (List.mem_of_getElem? hx)
  obtain ⟨_, hrow, _, _, _⟩ := hxl _ _ (HL.out.below i2)
  have HTK := hid (take_snoc hx)
  cases u with
  | none =>
   have n2 : W.cell? ⟨b, 2, none⟩ = some (.pointer none) := crw hrow rfl
   have HFIN : Hid (KeepsFrom w4.heap.size W W /\ w.heap.size + 5 <= W.heap.size /\ Below w.heap.size w W /\ (W.heap[w.heap.size]? = some (.cells #[.int .u32 0, .int .i64 0] 36) /\ W.heap[w.heap.size + 1]? = some (.cells #[.int .u32 0, .int .i64 0, .int .u32 0, .bool false] 38)) /\ W.heap[w.heap.size + 2]? = some (.cells #[(lvF .nil ((path m a).take (k + 1))).ptr] 137) /\ W.heap[w.heap.size + 3]? = some (.cells #[m.ptr] 137) /\ W.heap[w.heap.size + 4]? = some (.cells #[.int .u32 (a : Int)] 34)) := by
    refine ⟨KeepsFrom.refl _ _, i1, i2, i3, ?_, i5, i6⟩
    rw [HTK.out, lvF_snoc]
    exact i4
   clear hrow i1 i2 i3 i4 i5 i6 hx hxl
   rw [show (MT.node b c kk none lt rt).ptr = .pointer (some ⟨b, 0, none⟩) from rfl]
   gi_wp2
   exact HFIN.out
  | some v =>
   have n2 : W.cell? ⟨b, 2, none⟩ = some (.pointer (some ⟨c, 0, none⟩)) := crw hrow rfl
   obtain ⟨lp, hlp⟩ := ptr_is (lvF .nil ((path m a).take k))
   have hc : W.cell? ⟨w.heap.size + 2, 0, none⟩ = some (.pointer lp) := by rw [<- hlp, cell_of_row _ _ _ _ _ _ i4]; rfl
   have hf : W.frozen? ⟨w.heap.size + 2, 0, none⟩ = false := frozen_of_row _ _ _ _ _ i4
   obtain ⟨W2, hW2⟩ : ∃ W2, W2 = W.setCell ⟨w.heap.size + 2, 0, none⟩ (.pointer (some ⟨b, 0, none⟩)) := ⟨_, rfl⟩
   have hbt : But (w.heap.size + 2) W W2 := by rw [hW2]; exact But.set _ _ _ _
   have HFIN : Hid (KeepsFrom w4.heap.size W W2 /\ w.heap.size + 5 <= W2.heap.size /\ Below w.heap.size w W2 /\ (W2.heap[w.heap.size]? = some (.cells #[.int .u32 0, .int .i64 0] 36) /\ W2.heap[w.heap.size + 1]? = some (.cells #[.int .u32 0, .int .i64 0, .int .u32 0, .bool false] 38)) /\ W2.heap[w.heap.size + 2]? = some (.cells #[(lvF .nil ((path m a).take (k + 1))).ptr] 137) /\ W2.heap[w.heap.size + 3]? = some (.cells #[m.ptr] 137) /\ W2.heap[w.heap.size + 4]? = some (.cells #[.int .u32 (a : Int)] 34)) := by
    refine ⟨by rw [hW2]; exact (KeepsOthers.setCell _ _ _).from _, Nat.le_trans i1 hbt.size, hbt.below i2 (by omega) (by omega), ⟨(hbt.block _ (by omega) (by omega)).trans i3.1, (hbt.block _ (by omega) (by omega)).trans i3.2⟩, ?_, (hbt.block _ (by omega) (by omega)).trans i5, (hbt.block _ (by omega) (by omega)).trans i6⟩
    rw [HTK.out, lvF_snoc, hW2, set_row i4]
    rfl
   have HW2' := hid hW2
   clear hrow i1 i2 i3 i4 i5 i6 hx hxl hbt hW2 hlp
   rw [show (MT.node b c kk (some v) lt rt).ptr = .pointer (some ⟨b, 0, none⟩) from rfl]
   gi_wp2
   rw [<- HW2'.out]
   exact HFIN.out
 case done =>
  rintro D W hD ⟨i1, i2, i3, i4, i5, i6⟩ hK
  rw [List.take_length] at i4
  have HKD := hid hK
  have HDD := hid hD
  have HI1 := hid i1
  have HI2 := hid i2
  have HI3 := hid i3
  rcases lv_find m a .nil with ⟨h1, h2⟩ | ⟨b, c, k, v, l, r, h1, h2, h3⟩
  ·rw [HMT.out, hfd] at h1
   cases h1
  ·rw [h2] at i4
   obtain ⟨_, hrow, hbox, _, _⟩ := h3 _ _ (HL.out.below i2)
   have y0 : W.cell? ⟨w.heap.size + 2, 0, none⟩ = some (.pointer (some ⟨b, 0, none⟩)) := crw i4 rfl
   have n0 : W.cell? ⟨b, 0, none⟩ = some (.int .u32 (k.x : Int)) := crw hrow rfl
   have n1 : W.cell? ⟨b, 1, none⟩ = some (.int .i64 (k.n : Int)) := crw hrow rfl
   have n2 : W.cell? ⟨b, 2, none⟩ = some (.pointer (some ⟨c, 0, none⟩)) := crw hrow rfl
   have v0 : W.cell? ⟨c, 0 + 0, none⟩ = some (.int .u32 (v.x : Int)) := by rw [cell_of_row _ _ _ _ _ _ (hbox v rfl).2]; rfl
   have v1 : W.cell? ⟨c, 0 + 1, none⟩ = some (.int .i64 v.n) := by rw [cell_of_row _ _ _ _ _ _ (hbox v rfl).2]; rfl
   have v2 : W.cell? ⟨c, 0 + 2, none⟩ = some (.int .u32 (v.via : Int)) := by rw [cell_of_row _ _ _ _ _ _ (hbox v rfl).2]; rfl
   have v3 : W.cell? ⟨c, 0 + 3, none⟩ = some (.bool v.loc) := by rw [cell_of_row _ _ _ _ _ _ (hbox v rfl).2]; rfl
   obtain ⟨rfl, rfl⟩ : k = k0 /\ v = va := by rw [HMT.out, hfd] at h1; have h := Option.some.inj h1; simp at h; exact ⟨h.1.symm, h.2.symm⟩
   have HLW : Hid (w.heap.size + 1 < W.heap.size) := by unfold Hid; omega
   have HBL : Hid (b ≠ w.heap.size /\ b ≠ w.heap.size + 1) := ⟨fun e => by rw [e, i3.1] at hrow; injection hrow with hrow; injection hrow with _ q; exact absurd q (by decide), fun e => by rw [e, i3.2] at hrow; injection hrow with hrow; injection hrow with _ q; exact absurd q (by decide)⟩
   have HCL : Hid (c ≠ w.heap.size /\ (c ≠ w.heap.size + 1)) := ⟨fun e => by have q := (hbox v rfl).2; rw [e, i3.1] at q; injection q with q; injection q with _ q; exact absurd q (by decide), fun e => by obtain ⟨_, _, hb0, _, _⟩ := h3 _ _ HL.out; have hlt := (Array.getElem?_eq_some_iff.1 (hb0 v rfl).2).1; omega⟩
   clear i1 i2 i3 i4 i5 i6 hK hD h1 h2 h3 hrow hbox
   go_upto_region 9 with fail
   refine wp_region_all' 13 dstZ (FZ [.pointer (some ⟨b, 0, none⟩), .pointer (some ⟨b, 0, none⟩), .pointer (some ⟨b, 0, none⟩), .agg #[.int .u32 (k.x : Int), .int .i64 (k.n : Int)], .pointer (some ⟨b, 0, none⟩), .pointer (some ⟨b, 0, none⟩), .pointer (some ⟨b, 2, none⟩), .pointer (some ⟨c, 0, none⟩), .pointer (some ⟨c, 0, none⟩), .agg #[.int .u32 (v.x : Int), .int .i64 v.n, .int .u32 (v.via : Int), .bool v.loc], undef, undef, .int .i64 0] w.heap.size #[.int .u32 (k.x : Int), .int .i64 (k.n : Int)] #[.int .u32 (v.x : Int), .int .i64 v.n, .int .u32 (v.via : Int), .bool v.loc]) (IZ W w.heap.size) (RZ w.heap.size) (by kernel_rfl) (by kernel_rfl) ⟨⟨rfl, rfl, rfl, nL, fun _ _ _ => rfl⟩, ⟨_, _, HI3.out.1⟩, _, _, _, _, HI3.out.2⟩ (FZ.keeps _ _ _ _ _ _) ?_ ?_
   ·simp only [N.stepsAll]
    refine ⟨?_, ?_, ?_, ?_, ?_, ?_, ?_, ?_, ?_, ?_, ?_, ?_, ?_, trivial⟩
    ·intro a' u vs hI hold hdep
     exact wp_stillZ (ex_load _ ⟨w.heap.size + 2, 0, none⟩ (.tmp 7) _ rfl (hold 7 (dlZ (by decide))) (load_nd (by rw [World.cell?_of_block (hI.1.block _ (World.block_lt_of_cell? _ _ y0) (by show ¬ (w.heap.size + 2 = w.heap.size \/ w.heap.size + 2 = w.heap.size + 1); omega))]; exact y0))) rfl rfl ⟨by decide, by decide⟩ hI
    ·intro a' u vs hI hold hdep
     have e : a'.eval (.tmp 27) = .pointer (some ⟨b, 0, none⟩) := by have h0 := hdep ⟨0, .data⟩ (by simp) rfl; exact (h0.2 27 rfl).trans (Option.some.inj h0.1.1).symm
     exact wp_stillZ (ex_nil _ (.tmp 27) rfl e) rfl rfl ⟨by decide, by decide⟩ hI
    ·intro a' u vs hI hold hdep
     have e : a'.eval (.tmp 28) = .pointer (some ⟨b, 0, none⟩) := by have h0 := hdep ⟨1, .data⟩ (by simp) rfl; exact (h0.2 28 rfl).trans (Option.some.inj h0.1.1).symm
     exact wp_stillZ (ex_field _ _ (.tmp 28) 0 _ rfl e (fld_nd u).1) rfl rfl ⟨by decide, by decide⟩ hI
    ·intro a' u vs hI hold hdep
     have e : a'.eval (.tmp 29) = .pointer (some ⟨b, 0, none⟩) := by have h0 := hdep ⟨2, .data⟩ (by simp) rfl; exact (h0.2 29 rfl).trans (Option.some.inj h0.1.1).symm
     exact wp_stillZ (ex_load _ ⟨b, 0, none⟩ (.tmp 29) _ rfl e (load_pre (by rw [World.cell?_of_block (hI.1.block _ (World.block_lt_of_cell? _ _ n0) (by have := HBL.out; show ¬ (b = w.heap.size \/ b = w.heap.size + 1); omega))]; exact n0) (by rw [World.cell?_of_block (hI.1.block _ (World.block_lt_of_cell? _ _ n1) (by have := HBL.out; show ¬ (b = w.heap.size \/ b = w.heap.size + 1); omega))]; exact n1))) rfl rfl ⟨by decide, by decide⟩ hI
    ·intro a' u vs hI hold hdep
     exact wp_stillZ (ex_load _ ⟨w.heap.size + 2, 0, none⟩ (.tmp 7) _ rfl (hold 7 (dlZ (by decide))) (load_nd (by rw [World.cell?_of_block (hI.1.block _ (World.block_lt_of_cell? _ _ y0) (by show ¬ (w.heap.size + 2 = w.heap.size \/ w.heap.size + 2 = w.heap.size + 1); omega))]; exact y0))) rfl rfl ⟨by decide, by decide⟩ hI
    ·intro a' u vs hI hold hdep
     have e : a'.eval (.tmp 31) = .pointer (some ⟨b, 0, none⟩) := by have h0 := hdep ⟨4, .data⟩ (by simp) rfl; exact (h0.2 31 rfl).trans (Option.some.inj h0.1.1).symm
     exact wp_stillZ (ex_nil _ (.tmp 31) rfl e) rfl rfl ⟨by decide, by decide⟩ hI
    ·intro a' u vs hI hold hdep
     have e : a'.eval (.tmp 32) = .pointer (some ⟨b, 0, none⟩) := by have h0 := hdep ⟨5, .data⟩ (by simp) rfl; exact (h0.2 32 rfl).trans (Option.some.inj h0.1.1).symm
     exact wp_stillZ (ex_field _ _ (.tmp 32) 1 _ rfl e (fld_nd u).2.1) rfl rfl ⟨by decide, by decide⟩ hI
    ·intro a' u vs hI hold hdep
     have e : a'.eval (.tmp 33) = .pointer (some ⟨b, 2, none⟩) := by have h0 := hdep ⟨6, .data⟩ (by simp) rfl; exact (h0.2 33 rfl).trans (Option.some.inj h0.1.1).symm
     exact wp_stillZ (ex_load _ ⟨b, 2, none⟩ (.tmp 33) _ rfl e (load_vp (by rw [World.cell?_of_block (hI.1.block _ (World.block_lt_of_cell? _ _ n2) (by have := HBL.out; show ¬ (b = w.heap.size \/ b = w.heap.size + 1); omega))]; exact n2))) rfl rfl ⟨by decide, by decide⟩ hI
    ·intro a' u vs hI hold hdep
     have e : a'.eval (.tmp 34) = .pointer (some ⟨c, 0, none⟩) := by have h0 := hdep ⟨7, .data⟩ (by simp) rfl; exact (h0.2 34 rfl).trans (Option.some.inj h0.1.1).symm
     exact wp_stillZ (ex_nil _ (.tmp 34) rfl e) rfl rfl ⟨by decide, by decide⟩ hI
    ·intro a' u vs hI hold hdep
     have e : a'.eval (.tmp 35) = .pointer (some ⟨c, 0, none⟩) := by have h0 := hdep ⟨8, .data⟩ (by simp) rfl; exact (h0.2 35 rfl).trans (Option.some.inj h0.1.1).symm
     exact wp_stillZ (ex_load _ ⟨c, 0, none⟩ (.tmp 35) _ rfl e (load_vl (v := v) (by rw [World.cell?_of_block (hI.1.block _ (World.block_lt_of_cell? _ _ v0) (by have := HCL.out; show ¬ (c = w.heap.size \/ c = w.heap.size + 1); omega))]; exact v0) (by rw [World.cell?_of_block (hI.1.block _ (World.block_lt_of_cell? _ _ v1) (by have := HCL.out; show ¬ (c = w.heap.size \/ c = w.heap.size + 1); omega))]; exact v1) (by rw [World.cell?_of_block (hI.1.block _ (World.block_lt_of_cell? _ _ v2) (by have := HCL.out; show ¬ (c = w.heap.size \/ c = w.heap.size + 1); omega))]; exact v2) (by rw [World.cell?_of_block (hI.1.block _ (World.block_lt_of_cell? _ _ v3) (by have := HCL.out; show ¬ (c = w.heap.size \/ c = w.heap.size + 1); omega))]; exact v3))) rfl rfl ⟨by decide, by decide⟩ hI
    ·intro a' u vs hI hold hdep
     have e : a'.eval (.tmp 30) = .agg #[.int .u32 (k.x : Int), .int .i64 (k.n : Int)] := by have h0 := hdep ⟨3, .data⟩ (by simp) rfl; exact (h0.2 30 rfl).trans (Option.some.inj h0.1.1).symm
     obtain ⟨hbI, ⟨x, y, hxy⟩, hI2⟩ := hI
     refine wp_store_row 36 (.tmp 4) (.tmp 30) rfl w.heap.size #[.int .u32 (k.x : Int), .int .i64 (k.n : Int)] (hold 4 (dlZ (by decide))) e _ _ hxy (by kernel_rfl) rfl (by simp [Value.oneCell']) ?_
     have hbt := But.setRow w.heap.size u #[.int .u32 (k.x : Int), .int .i64 (k.n : Int)]
     have hr := setRow_heap u w.heap.size _ #[.int .u32 (k.x : Int), .int .i64 (k.n : Int)] _ _ hxy
     have hlt : w.heap.size + 1 < u.heap.size := Nat.lt_of_lt_of_le HLW.out hbI.size
     obtain ⟨y0, y1, y2, y3, hI2⟩ := hI2
     exact ⟨undef, rfl, ⟨by rw [upd_eq]; rfl, fun _ => hr, fun e => absurd e (by decide)⟩, ⟨hbI.trans (Chg.of_but hbt (.inl rfl)), ⟨_, _, hr⟩, _, _, _, _, (hbt.block _ hlt (by omega)).trans hI2⟩, by unfold RZ; rw [if_pos rfl]; exact ⟨hbt, hlt⟩⟩
    ·intro a' u vs hI hold hdep
     have e : a'.eval (.tmp 36) = .agg #[.int .u32 (v.x : Int), .int .i64 v.n, .int .u32 (v.via : Int), .bool v.loc] := by have h0 := hdep ⟨9, .data⟩ (by simp) rfl; exact (h0.2 36 rfl).trans (Option.some.inj h0.1.1).symm
     obtain ⟨hbI, ⟨x, y, hxy⟩, y0, y1, y2, y3, hI2⟩ := hI
     refine wp_store_row 38 (.tmp 5) (.tmp 36) rfl (w.heap.size + 1) #[.int .u32 (v.x : Int), .int .i64 v.n, .int .u32 (v.via : Int), .bool v.loc] (hold 5 (dlZ (by decide))) e _ _ hI2 (by kernel_rfl) rfl (by simp [Value.oneCell']) ?_
     have hbt := But.setRow (w.heap.size + 1) u #[.int .u32 (v.x : Int), .int .i64 v.n, .int .u32 (v.via : Int), .bool v.loc]
     have hr := setRow_heap u (w.heap.size + 1) _ #[.int .u32 (v.x : Int), .int .i64 v.n, .int .u32 (v.via : Int), .bool v.loc] _ _ hI2
     have hlt : w.heap.size < u.heap.size := by have := Nat.lt_of_lt_of_le HLW.out hbI.size; omega
     exact ⟨undef, rfl, ⟨by rw [upd_eq]; rfl, fun e => absurd e (by decide), fun _ => hr⟩, ⟨hbI.trans (Chg.of_but hbt (.inr rfl)), ⟨_, _, (hbt.block _ hlt (by omega)).trans hxy⟩, _, _, _, _, hr⟩, by unfold RZ; rw [if_neg (by decide), if_pos rfl]; exact ⟨hbt, hlt⟩⟩
    ·intro a' u vs hI hold hdep
     exact wp_stillZ (ex_assign (.const (.int .i64 0)) _ rfl rfl) rfl rfl ⟨by decide, by decide⟩ hI
   intro vs W2 hI hF
   have e6 : vs 12 = .int .i64 0 := (Option.some.inj (hF 12 (by decide)).1).symm
   have r4 : W2.heap[w.heap.size]? = some (.cells #[.int .u32 (k.x : Int), .int .i64 (k.n : Int)] 36) := (hF 10 (by decide)).2.1 rfl
   have r5 : W2.heap[w.heap.size + 1]? = some (.cells #[.int .u32 (v.x : Int), .int .i64 v.n, .int .u32 (v.via : Int), .bool v.loc] 38) := (hF 11 (by decide)).2.2 rfl
   have hbt : Chg (fun b => b = w.heap.size \/ b = w.heap.size + 1) W W2 := hI.1
   clear hF hI
   simp only [putsO, List.range, List.range.loop, List.foldr, if_true, dstZ, List.getD_cons_zero, List.getD_cons_succ, Act.put, e6, List.setIfInBounds_toArray, List.set_cons_succ, List.set_cons_zero]
   generalize vs 0 = z0
   generalize vs 1 = z1
   generalize vs 2 = z2
   generalize vs 3 = z3
   generalize vs 4 = z4
   generalize vs 5 = z5
   generalize vs 6 = z6
   generalize vs 7 = z7
   generalize vs 8 = z8
   generalize vs 9 = z9
   generalize vs 10 = z10
   generalize vs 11 = z11
   go_wp2_with fail
   have hKz : W2.heap[D]? = some (.deferred (some [])) := (hbt.block D (gsl HKD.out) (by have := HDD.out; have := HS4.out; omega)).trans HKD.out
   have hbz : Below w.heap.size w W2 := ⟨hbt.os.trans HI2.out.os, hbt.tape.trans HI2.out.tape, hbt.output.trans HI2.out.output, Nat.le_trans HI2.out.size hbt.size, fun x hx => (hbt.block x (Nat.lt_of_lt_of_le hx HI2.out.size) (by omega)).trans (HI2.out.block x hx)⟩
   have hbf : Below w.heap.size w (W2.putObj D (.deferred none)) := hbz.trans (belowK_b (w := w) nL W2 D _ _ (by have := HDD.out; have := HS4.out; omega) hKz rfl rfl)
   have rz : (W2.putObj D (.deferred none)).heap[w.heap.size]? = some (.cells #[.int .u32 (k.x : Int), .int .i64 (k.n : Int)] 36) := (World.putObj_heap_other (by have := HDD.out; have := HS4.out; omega)).trans r4
   have rv : (W2.putObj D (.deferred none)).heap[w.heap.size + 1]? = some (.cells #[.int .u32 (v.x : Int), .int .i64 v.n, .int .u32 (v.via : Int), .bool v.loc] 38) := (World.putObj_heap_other (by have := HDD.out; have := HS4.out; omega)).trans r5
   have u0 : (W2.putObj D (.deferred none)).cell? ⟨w.heap.size + 1, 0, none⟩ = some (.int .u32 (v.x : Int)) := crw rv rfl
   have u1 : (W2.putObj D (.deferred none)).cell? ⟨w.heap.size + 1, 1, none⟩ = some (.int .i64 v.n) := crw rv rfl
   have u2 : (W2.putObj D (.deferred none)).cell? ⟨w.heap.size + 1, 2, none⟩ = some (.int .u32 (v.via : Int)) := crw rv rfl
   have u3 : (W2.putObj D (.deferred none)).cell? ⟨w.heap.size + 1, 3, none⟩ = some (.bool v.loc) := crw rv rfl
   have g0 : (W2.putObj D (.deferred none)).cell? ⟨w.heap.size, 0, none⟩ = some (.int .u32 (k.x : Int)) := crw rz rfl
   have g1 : (W2.putObj D (.deferred none)).cell? ⟨w.heap.size, 1, none⟩ = some (.int .i64 (k.n : Int)) := crw rz rfl
   refine ⟨by simp, .inl ⟨_, _, rfl, run_takeDeferred hKz, ?_⟩⟩
   refine ⟨_, (by simp [results, Tryz.results55, go_sem, g0, g1, u0, u1, u2, u3]; rfl), rfl, hbf⟩
end Go.Proofs.YtpdnnikkaojnkaaGreat.Rt
namespace Go.Proofs.YtpdnnikkaojnkaaGreat.Rt
open Go.Proofs.YtpdnnikkaojnkaaGreat Go.RowKit Go.Shelf
def toPost (B k : Nat) (I : Nat -> World -> Prop) (Ix : Code -> World -> Prop) (W : World) : Exit -> Act -> World -> Prop
 | .normal, _, W' => KeepsFrom B W W' /\ I (k + 1) W'
 | .ret, _, W' => KeepsFrom B W W' /\ Ix .ret W'
 | .exit id, _, W' => KeepsFrom B W W' /\ Ix (.exit id) W'
 | _, _, _ => False
def GivesTo {α : Type} (F : Fence) (n : Nat) (P : Program) (g : Nat) (lb : Array Value) (encs : α -> Array Value) (xs : List α) (Fx : Nat -> World -> Prop) : Prop :=
 ∀ (l : Nat) (J : Nat -> World -> Prop) (Z : Unit -> World -> Prop) (W : World), AbidesFrom W.heap.size J -> AbidesFrom W.heap.size Z -> (∀ k W, J k W -> Fx k W) ->
  (∀ k x W1, J k W1 -> xs[k]? = some x -> YieldAt F (n - 1) P l (encs x) W1 fun e W' => (e = .returned (.bool true) /\ J (k + 1) W') \/ (e = .returned (.bool false) /\ Z () W')) ->
  J 0 W -> CallsIn F n P g (#[.func (.yield l) #[] #[]] ++ lb) W fun e W' => (∃ v, e = .returned v) /\ (J xs.length W' \/ Z () W')
theorem wpIn_givesTo {F : Fence} {n : Nat} {P : Program} {α : Type} {g : Operand} {ps : Array Tmp} {assign body : Code} {Q : Exit -> Act -> World -> Prop} {a : Act} {w : World}
  (hro : F.round = none) (h1 : 1 <= n) {gf : Nat} {lb : Array Value} (hg : a.eval g = .func (.func gf) #[] lb) (hFg : F.fn gf) (eg : ∀ args w, (callFunc gf args).run P w = .ok (.enter gf args) w)
  {encs : α -> Array Value} {xs : List α} {Fx : Nat -> World -> Prop} (hseq : GivesTo F (n - 1) P gf lb encs xs Fx) (hps : ∀ x, (encs x).size = ps.size)
  (I : Nat -> World -> Prop) (Ix : Code -> World -> Prop) (hI : OwnFrom w.heap.size I) (hIx : OwnFrom w.heap.size Ix) (hF : ∀ k W, I k W -> Fx k W) (h0 : I 0 w) (a₁ : α -> Act)
  (hassign : ∀ (l : Nat) (x : α) (W : World) (K : Act -> World -> Prop), K (a₁ x) W ->
   assign.wpIn (F.inRound l) (n - 1 - 1) P (Exit.then K (fun _ _ _ => False)) { tmps := (ps.zip (encs x)).foldl (fun t (p, v) => t.setIfInBounds p v) a.tmps, defers := [] } W)
  (hbody : ∀ (l k : Nat) (x : α) (W : World), I k W -> xs[k]? = some x -> body.wpIn (F.inRound l) (n - 1 - 1) P (toPost w.heap.size k I Ix W) (a₁ x) W)
  (hdone : ∀ (D : Nat) (W : World), w.heap.size <= D -> I xs.length W -> W.heap[D]? = some (.deferred (some [])) -> Q .normal { a with defers := { target := .collected D, args := #[] } :: a.defers } W)
  (hstop : ∀ (D : Nat) (c : Code) (W : World), w.heap.size <= D -> Ix c W -> W.heap[D]? = some (.deferred (some [])) -> c.wpIn F n P Q { a with defers := { target := .collected D, args := #[] } :: a.defers } W) :
  (Code.rangeFunc g ps assign body).wpIn F n P Q a w := by
 refine wpIn_rangeFunc fun fn hfn => ?_
 rw [hro]
 let R : LoopState -> Option Code -> Loop := fun st pe => { state := st, pending := pe, fn, tmps := a.tmps, params := ps, assign, body, defers := w.heap.size }
 obtain ⟨W1, hW1⟩ : ∃ W1, (w.alloc (.deferred (some []))).alloc (.loop (R .ready none)) = W1 := ⟨_, rfl⟩
 have hs1 : W1.heap.size = w.heap.size + 2 := by rw [<- hW1]; simp
 have hl1 : W1.heap[w.heap.size + 1]? = some (.loop (R .ready none)) := by
  have := World.alloc_heap_new (w.alloc (.deferred (some []))) (.loop (R .ready none))
  rw [World.size_alloc] at this
  rw [<- hW1]; exact this
 have hd1 : W1.heap[w.heap.size]? = some (.deferred (some [])) := by
  rw [<- hW1]; exact (Below.heap_alloc _ _ _ (by simp)).trans (World.alloc_heap_new w _)
 have hnw : ∀ {A B : World} {row : Option Nat}, (∀ r, row = some r -> W1.heap.size <= r /\ ∃ o : Obj, A.heap[r]? = some o /\ o.isWalk = true) -> (∀ r, row = some r -> w.heap.size <= r /\ ∃ o : Obj, A.heap[r]? = some o /\ o.isCells = false) :=
  fun hr r e => by obtain ⟨hB, o, ho, hw⟩ := hr r e; exact ⟨by omega, o, ho, Obj.not_cells_of_walk hw⟩
 refine ⟨w.heap.size + 1, [{ target := .collected w.heap.size, args := #[] }], W1, { target := .fn (.func gf) lb, args := #[.func (.yield (w.heap.size + 1)) #[] #[]] }, W1, gf, #[.func (.yield (w.heap.size + 1)) #[] #[]] ++ lb, W1, ?_, ?_, ?_, ?_, fun _ => h1, ?_⟩
 ·rw [<- hW1]; exact run_enterLoop_outer _ _ _ _ _
 ·simp only [resolve, hg]; simp [go_sem]
 ·intro f' hf'; simp [Target.leads] at hf'; subst hf'; exact hFg
 ·simp [invoke, go_sem, eg]
 ·refine (hseq (w.heap.size + 1) (fun k W => I k W /\ W.heap[w.heap.size + 1]? = some (.loop (R .ready none)) /\ W.heap[w.heap.size]? = some (.deferred (some [])))
   (fun _ W => ∃ c, Ix c W /\ W.heap[w.heap.size + 1]? = some (.loop (R .done (some c))) /\ W.heap[w.heap.size]? = some (.deferred (some []))) W1 ?_ ?_ (fun k W h => hF k W h.1) ?_ ⟨?_, hl1, hd1⟩).mono ?_
  ·rintro k A B row ⟨i1, i2, i3⟩ hg' hr
   have hr' : ∀ r, row = some r -> ∃ o : Obj, A.heap[r]? = some o /\ o.isWalk = true := fun r e => (hr r e).2
   exact ⟨hI k A B row i1 hg' (hnw (B := B) hr), (grownBy_keeps hg' hr' i2 rfl).trans i2, (grownBy_keeps hg' hr' i3 rfl).trans i3⟩
  ·rintro k A B row ⟨c, i1, i2, i3⟩ hg' hr
   have hr' : ∀ r, row = some r -> ∃ o : Obj, A.heap[r]? = some o /\ o.isWalk = true := fun r e => (hr r e).2
   exact ⟨c, hIx c A B row i1 hg' (hnw (B := B) hr), (grownBy_keeps hg' hr' i2 rfl).trans i2, (grownBy_keeps hg' hr' i3 rfl).trans i3⟩
  ·rintro k x W ⟨i1, i2, i3⟩ hx
   have hlt := (gsl i2)
   obtain ⟨Wb, hWb⟩ : ∃ Wb, Wb = W.putObj (w.heap.size + 1) (.loop { R .ready none with state := .busy }) := ⟨_, rfl⟩
   have b2 : Wb.heap[w.heap.size + 1]? = some (.loop { R .ready none with state := .busy }) := by rw [hWb]; exact World.putObj_heap_same hlt
   have b3 : Wb.heap[w.heap.size]? = some (.deferred (some [])) := by rw [hWb]; exact (World.putObj_heap_other (by omega)).trans i3
   have b1 : I k Wb := by rw [hWb]; exact hI.putObj _ i1 (by omega) i2 rfl
   refine ⟨fn, _, assign, body, run_yield (P := P) (args := encs x) i2 (hps x), roundIn_of_wpIn hfn (hassign _ x W _ ⟨_, run_beginRound i2 rfl, ?_⟩)⟩
   rw [<- hWb]
   refine wpIn_mono (hbody _ k x Wb b1 hx) ?_
   rintro e a3 W3 hp
   cases e with
   | normal =>
    obtain ⟨k1, k2⟩ := hp
    have c2 := k1.same _ _ (by omega) b2 rfl
    have c3 := k1.same _ _ nL b3 rfl
    exact ⟨_, _, run_endRound (P := P) none c2, .inl ⟨rfl, hI.putObj _ k2 (by omega) c2 rfl, World.putObj_heap_same (gsl c2), (World.putObj_heap_other (by omega)).trans c3⟩⟩
   | ret =>
    obtain ⟨k1, k2⟩ := hp
    have c2 := k1.same _ _ (by omega) b2 rfl
    have c3 := k1.same _ _ nL b3 rfl
    exact ⟨_, _, run_endRound (P := P) (some .ret) c2, .inr ⟨rfl, .ret, hIx.putObj _ k2 (by omega) c2 rfl, World.putObj_heap_same (gsl c2), (World.putObj_heap_other (by omega)).trans c3⟩⟩
   | exit id =>
    obtain ⟨k1, k2⟩ := hp
    have c2 := k1.same _ _ (by omega) b2 rfl
    have c3 := k1.same _ _ nL b3 rfl
    exact ⟨_, _, run_endRound (P := P) (some (.exit id)) c2, .inr ⟨rfl, .exit id, hIx.putObj _ k2 (by omega) c2 rfl, World.putObj_heap_same (gsl c2), (World.putObj_heap_other (by omega)).trans c3⟩⟩
   | goto t => exact hp.elim
   | panic ch => exact hp.elim
   | outgrown => exact hp.elim
  ·rw [<- hW1]; exact hI.alloc _ (hI.alloc _ h0)
  ·rintro e W2 ⟨⟨v, rfl⟩, (⟨i1, i2, i3⟩ | ⟨c, i1, i2, i3⟩)⟩
   ·exact ⟨none, _, run_endLoop (P := P) i2 (by simp [R]), hdone _ _ nL (hI.putObj _ i1 (by omega) i2 rfl) ((World.putObj_heap_other (by omega)).trans i3)⟩
   ·exact ⟨some c, _, run_endLoop (P := P) i2 (by simp [R]), hstop _ c _ nL (hIx.putObj _ i1 (by omega) i2 rfl) ((World.putObj_heap_other (by omega)).trans i3)⟩
end Go.Proofs.YtpdnnikkaojnkaaGreat.Rt
namespace Go.Proofs.YtpdnnikkaojnkaaGreat.Rt
open Go.Proofs.YtpdnnikkaojnkaaGreat Go.ChangeShapes Go.WideShapes Go.ChangeAt Go.RowKit Go.Shelf Tri N
attribute [local go_sem] Oper.semAt_some
set_option maxHeartbeats 4000000
set_option maxRecDepth 100000
theorem holding_to (n : Nat) (hn : 2 <= n) (X : Nat -> Prop) (tbx abx : Nat) (m : MT) (a : Nat) {lo hi : Nat} (hwf : WF lo hi m.tr) :
  GivesTo Fence.wide n Tryz.prog 91 #[.pointer (some ⟨tbx, 0, none⟩), .pointer (some ⟨abx, 0, none⟩)] (fun q : MT => #[q.ptr]) (path m a) (fun _ W => HdF X tbx abx m a W) := by
 intro l J Z W hJ hZ hJF hY h0
 obtain ⟨mp, hmp⟩ := ptr_is m
 have hF0 := hJF _ _ h0
 have t0 : W.cell? ⟨tbx, 0, none⟩ = some (.pointer mp) := by rw [<- hmp, cell_of_row _ _ _ _ _ _ hF0.tb]; rfl
 refine callsIn_of_wp Tryz.func91 rfl trivial ?_ rfl
 refine wpIn_wide.2 ?_
 simp only [Tryz.ntmps91, List.size_toArray, List.length_cons, List.length_nil, Nat.reduceAdd, Nat.reduceSub, Array.replicate_succ, Array.replicate_zero, List.push_toArray, List.append_toArray, List.nil_append, List.cons_append]
 have HJ : Hid (∀ k A B, J k A -> Below A.heap.size A B -> J k B) := fun k A B h hb => hJ k A B none h ⟨hb.os, hb.tape, hb.output, hb.size, fun j hj _ => hb.block j hj⟩ (fun r e => by cases e)
 have HREL : Hid (∃ q : MT, Value.pointer mp = q.ptr /\ (path m a).length = (path q a).length /\ (path m a).drop ((path m a).length - (path m a).length) = path q a /\ (∃ lo hi, WF lo hi q.tr) /\ (∀ W', Lies W' X m -> Lies W' X q) /\ J ((path m a).length - (path m a).length) W) :=
  ⟨m, hmp.symm, rfl, by simp, ⟨lo, hi, hwf⟩, fun _ h => h, by simpa using h0⟩
 have HZ : Hid (∀ A B, Z () A -> Below A.heap.size A B -> Z () B) := fun A B h hb => hZ () A B none h ⟨hb.os, hb.tape, hb.output, hb.size, fun j hj _ => hb.block j hj⟩ (fun r e => by cases e)
 have HJF := hid hJF
 have HY := hid hY
 clear hJ hZ hJF hY hwf h0 hmp hF0
 go_upto_region 1 with fail
 clear t0
 obtain ⟨N, hN⟩ : ∃ N, N = (path m a).length := ⟨_, rfl⟩
 rw [<- hN] at HREL
 have HN := hid hN
 clear hN
 go_loopg [4] N (fun gk p wr => Hid (∃ q : MT, p = q.ptr /\ gk = (path q a).length /\ (path m a).drop (N - gk) = path q a /\ (∃ lo hi, WF lo hi q.tr) /\ (∀ W', Lies W' X m -> Lies W' X q) /\ J (N - gk) wr))
 case atStart => exact HREL.out
 case round =>
  obtain ⟨q, rfl, hgk, hdr, ⟨lo', hi', hq⟩, hsub, hJq⟩ := hrel.out
  have hFx := HJF.out _ _ hJq
  clear hrel HREL
  cases q with
  | nil =>
   have hl : gk = 0 := hgk
   subst hl
   have HJ1 : Hid (∀ t : Beh wr, J (path m a).length t.wd) := fun t => by have h := HJ.out _ _ _ hJq t.ok; rw [Nat.sub_zero, HN.out] at h; exact h
   clear hgk hdr hq hsub hJq hFx HY HJF HJ
   simp only [MT.ptr]
   go_upto_region 1 with fail
   refine wp_region_beh (by kernel_rfl) (by kernel_rfl) ?_
   repeat (go_big_quiet_step (fail))
   refine wpQuiet_nil ?_
   rintro _ ⟨t, rfl⟩
   go_wp2_with fail
   go_end0
   exact ⟨⟨_, rfl⟩, .inl (HJ1.out t)⟩
  | node b c k u l r =>
   obtain ⟨ok, _, _, wl, wr', _⟩ := hq
   obtain ⟨_, hrow, _, hLl, hLr⟩ := hsub _ hFx.ls
   have hlt := (gsl hrow)
   have hltA := (gsl hFx.ab)
   have n0 : ∀ t : Beh wr, t.wd.cell? ⟨b, 0, none⟩ = some (.int .u32 (k.x : Int)) := fun t => by rw [cell_of_row _ _ _ _ _ _ (below_keeps t.ok hrow hlt)]; rfl
   have n1 : ∀ t : Beh wr, t.wd.cell? ⟨b, 1, none⟩ = some (.int .i64 (k.n : Int)) := fun t => by rw [cell_of_row _ _ _ _ _ _ (below_keeps t.ok hrow hlt)]; rfl
   have a0 : ∀ t : Beh wr, t.wd.cell? ⟨abx, 0, none⟩ = some (.int .u32 (a : Int)) := fun t => by rw [cell_of_row _ _ _ _ _ _ (below_keeps t.ok hFx.ab hltA)]; rfl
   have HC : ∀ t : Beh wr, Hid (Calls Tryz.prog 92 #[pv k, .int .u32 (a : Int)] t.wd fun e w'' => e = .returned (.bool (hasK k a)) /\ ∃ t' : Beh wr, w'' = t'.wd) := fun t => Calls.beh (contains_ok a _ ok)
   unfold pv at HC
   cases hk : hasK k a with
   | false =>
    have hp : path (.node b c k u l r) a = [] := by rw [path, hk]; rfl
    have hl : gk = 0 := by rw [hgk, hp]; rfl
    subst hl
    have HJ1 : Hid (∀ t : Beh wr, J (path m a).length t.wd) := fun t => by have h := HJ.out _ _ _ hJq t.ok; rw [Nat.sub_zero, HN.out] at h; exact h
    rw [hk] at HC
    clear hgk hdr hsub hJq hFx HY HJF HJ hk hp wl wr' hrow hLl hLr
    simp only [MT.ptr]
    go_upto_region 1 with fail
    refine wp_region_beh (by kernel_rfl) (by kernel_rfl) ?_
    repeat (go_big_quiet_step (first | (go_at_call 92; exact (HC _).out)))
    refine wpQuiet_nil ?_
    rintro _ ⟨t, rfl⟩
    go_wp2_with fail
    go_end0
    exact ⟨⟨_, rfl⟩, .inl (HJ1.out t)⟩
   | true =>
    obtain ⟨ch, hch⟩ : ∃ ch : MT, ch = if side a k.n = 0 then l else r := ⟨_, rfl⟩
    have hp : path (.node b c k u l r) a = .node b c k u l r :: path ch a := by rw [path, hk, hch]; simp only [if_true]; split <;> rfl
    rw [hk] at HC
    have hgk2 : gk = (path ch a).length + 1 := by rw [hgk, hp]; rfl
    have hat : (path m a)[N - gk]? = some (.node b c k u l r) := by
     have := congrArg (fun L => L[0]?) hdr
     rw [hp] at this
     simpa using this
    have hle : gk <= N := by
     have := congrArg List.length hdr
     rw [List.length_drop, <- HN.out, <- hgk] at this
     omega
    have hdr2 : (path m a).drop (N - (path ch a).length) = path ch a := by
     have e : N - (path ch a).length = (N - gk) + 1 := by omega
     rw [e, <- List.drop_drop, hdr, hp]; rfl
    have HNX : Hid (∀ wz, J (N - gk + 1) wz -> ∃ q : MT, ch.ptr = q.ptr /\ gk - 1 = (path q a).length /\ (path m a).drop (N - (gk - 1)) = path q a /\ (∃ lo hi, WF lo hi q.tr) /\ (∀ W', Lies W' X m -> Lies W' X q) /\ J (N - (gk - 1)) wz) := fun wz hz => by
     have e1 : gk - 1 = (path ch a).length := by omega
     have e2 : N - (gk - 1) = N - gk + 1 := by omega
     refine ⟨ch, rfl, e1, by rw [e1]; exact hdr2, ?_, fun W' hW' => ?_, by rw [e2]; exact hz⟩
     ·rw [hch]; split
      ·exact ⟨_, _, wl⟩
      ·exact ⟨_, _, wr'⟩
     ·have h := hsub W' hW'
      rw [hch]; split
      ·exact h.2.2.2.1
      ·exact h.2.2.2.2
    have HJ1 : Hid (∀ t : Beh wr, J (N - gk) t.wd) := fun t => HJ.out _ _ _ hJq t.ok
    have HAT := hid hat
    have HPOS : Hid (gk - 1 < gk) := by unfold Hid; omega
    have HSUB := hid hsub
    have HOK := hid ok
    have HCH := hid hch
    clear hgk hdr hsub hJq hFx hk hp wl wr' hrow hLl hLr hgk2 hat hle hdr2 hlt hltA ok hch
    simp only [MT.ptr]
    go_upto_region 1 with fail
    refine wp_region_beh (by kernel_rfl) (by kernel_rfl) ?_
    repeat (go_big_quiet_step (first | (go_at_call 92; exact (HC _).out)))
    refine wpQuiet_nil ?_
    rintro _ ⟨t, rfl⟩
    have hJt := HJ1.out t
    clear n0 n1 a0 HC HJ1
    obtain ⟨fn, tmps, assign, body, hy, hR⟩ := HY.out _ _ t.wd hJt HAT.out
    simp only [MT.ptr] at hy
    go_upto_region 3 with fail
    refine (wpIn_wide (n := n)).1 ?_
    gi_wp2
    refine ⟨fun _ => by omega, hR.mono ?_⟩
    rintro _ W3 (⟨rfl, hJ3⟩ | ⟨rfl, hZ3⟩)
    case inr =>
     have HZ3 := hid hZ3
     clear hZ3 hy hR hJt HY HJF HSUB
     gi_wp2
     go_wp2_with fail
     exact bodyPost_ret (v := .tuple #[]) (by simp [results, Tryz.results91]) rfl ⟨⟨_, rfl⟩, .inr HZ3.out⟩
    have HJ3 := hid hJ3
    have hF3 := HJF.out _ _ hJ3
    obtain ⟨_, hrow, _, _, _⟩ := HSUB.out _ hF3.ls
    have n1 : W3.cell? ⟨b, 1, none⟩ = some (.int .i64 (k.n : Int)) := crw hrow rfl
    have a0 : W3.cell? ⟨abx, 0, none⟩ = some (.int .u32 (a : Int)) := crw hF3.ab rfl
    have hs2 := side_lt a k.n
    clear hJ3 hy hR hJt HY HJF HSUB
    gi_wp2
    by_cases hs : side a k.n = 0
    ·skip
     have HCE : Hid (ch.ptr = l.ptr) := by unfold Hid; rw [HCH.out, if_pos hs]
     obtain ⟨cp, hcp⟩ := ptr_is l
     have n3 : W3.cell? ⟨b, 3, none⟩ = some (.pointer cp) := by rw [<- hcp, cell_of_row _ _ _ _ _ _ hrow]; rfl
     have HH := fun u => hid (half_any a k.n u HOK.out.1)
     rw [show side a k.n = 0 from hs] at HH
     have HCP := hid hcp
     clear hs hs2 hrow hcp hF3
     go_upto_region 2 with fail
     refine wp_region_still_tail 12 (by kernel_rfl) (by kernel_rfl) ?_
     simp only [List.take_succ_cons, List.take_zero, List.drop_succ_cons, List.drop_zero]
     iterate 7 still_step
     still_call (HH _).out
     iterate 4 still_step
     refine wpStill_nil ?_
     go_wp2_with fail
     go_roundg (gk - 1)
     case measure => exact HPOS.out
     case rel =>
      have h := HNX.out W3.drew (HJ.out _ _ _ HJ3.out ⟨rfl, rfl, rfl, nL, fun _ _ => rfl⟩)
      rw [HCE.out, HCP.out] at h
      exact h
    ·skip
     have HCE : Hid (ch.ptr = r.ptr) := by unfold Hid; rw [HCH.out, if_neg hs]
     obtain ⟨cp, hcp⟩ := ptr_is r
     have n3 : W3.cell? ⟨b, 4, none⟩ = some (.pointer cp) := by rw [<- hcp, cell_of_row _ _ _ _ _ _ hrow]; rfl
     have HH := fun u => hid (half_any a k.n u HOK.out.1)
     rw [show side a k.n = 1 from by omega] at HH
     have HCP := hid hcp
     clear hs hs2 hrow hcp hF3
     go_upto_region 2 with fail
     refine wp_region_still_tail 12 (by kernel_rfl) (by kernel_rfl) ?_
     simp only [List.take_succ_cons, List.take_zero, List.drop_succ_cons, List.drop_zero]
     iterate 7 still_step
     still_call (HH _).out
     iterate 4 still_step
     refine wpStill_nil ?_
     go_wp2_with fail
     go_roundg (gk - 1)
     case measure => exact HPOS.out
     case rel =>
      have h := HNX.out W3.drew (HJ.out _ _ _ HJ3.out ⟨rfl, rfl, rfl, nL, fun _ _ => rfl⟩)
      rw [HCE.out, HCP.out] at h
      exact h
end Go.Proofs.YtpdnnikkaojnkaaGreat.Rt
namespace Go.Proofs.YtpdnnikkaojnkaaGreat.Rt
open Go.Proofs.YtpdnnikkaojnkaaGreat Go.ChangeShapes Go.WideShapes Go.ChangeAt Go.RowKit Tri N
set_option maxHeartbeats 1000000
set_option maxRecDepth 100000
def qv (x : Nat) (y : Int) : Value := .agg #[.int .u32 (x : Int), .int .i64 y]
def Bad (x : Nat) (y : Int) : Prop := y < 0 \/ 32 < y \/ x % 2 ^ (32 - y.toNat) ≠ 0
theorem bad_or {x : Nat} {y : Int} (hx : x < 4294967296) : Bad x y \/ ∃ k : K, k.Ok /\ x = k.x /\ y = (k.n : Int) := by
 unfold Bad
 by_cases h1 : y < 0
 ·exact .inl (.inl h1)
 ·by_cases h2 : 32 < y
  ·exact .inl (.inr (.inl h2))
  ·by_cases h3 : x % 2 ^ (32 - y.toNat) = 0
   ·refine .inr ⟨⟨x, y.toNat⟩, ⟨by show y.toNat <= 32; omega, Nat.dvd_of_mod_eq_zero h3, hx⟩, rfl, by show y = (y.toNat : Int); omega⟩
   ·exact .inl (.inr (.inr h3))
theorem check_bad {x : Nat} {y : Int} (w : World) (hx : x < 4294967296) (h : Bad x y) :
  Calls Tryz.prog 96 #[qv x y] w fun e w' => (∃ c : Int, e = .returned (.int .i64 c) /\ c ≠ 0) /\ Below w.heap.size w w' := by
 unfold qv
 by_cases h1 : y < 0
 ·go_enter Tryz.func96, Tryz.ntmps96
  go_wp2
  go_ret
  exact ⟨⟨11, rfl, by decide⟩, bR.alloc nL _⟩
 ·by_cases h2 : 32 < y
  ·go_enter Tryz.func96, Tryz.ntmps96
   go_wp2
   go_ret
   exact ⟨⟨11, rfl, by decide⟩, bR.alloc nL _⟩
  ·have h3 : x % 2 ^ (32 - y.toNat) ≠ 0 := by rcases h with h | h | h; exact absurd h h1; exact absurd h h2; exact h
   obtain ⟨n, hn⟩ : ∃ n : Nat, y = (n : Int) := ⟨y.toNat, by omega⟩
   subst hn
   have hn32 : n <= 32 := by omega
   rw [Int.toNat_natCast] at h3
   have hp := pow_le32 n
   have hA : bits .and .u32 (x : Int) ((2 ^ (32 - n) - 1 : Nat) : Int) = ((x % 2 ^ (32 - n) : Nat) : Int) := by
    rw [u32_and_nat _ _ hx (by have := Nat.pow_pos (n := 32 - n) (by omega : 0 < 2); omega), Nat.and_two_pow_sub_one_eq_mod]
   have hq : (bits .and .u32 (x : Int) ((2 ^ (32 - n) - 1 : Nat) : Int) != 0) = true := by
    rw [hA, bne_iff_ne]; intro e; exact h3 (by exact_mod_cast e)
   have HB := fun u => hid (bits_ok n u hn32)
   generalize 2 ^ (32 - n) - 1 = m at *
   clear hA h3 hp h
   go_enter Tryz.func96, Tryz.ntmps96
   go_wp2
   go_quiet ((go_at_call 117; exact Calls.quiet_of_same (HB _).out))
   go_wp2
   go_ret
   exact ⟨⟨12, rfl, by decide⟩, below_drewN (bR.alloc nL _) _⟩
theorem valid_bad {x : Nat} {y : Int} (w : World) (hx : x < 4294967296) (h : Bad x y) :
  Calls Tryz.prog 83 #[qv x y] w fun e w' => e = .returned (.bool false) /\ Below w.heap.size w w' := by
 have HC := fun u => hid (check_bad u hx h)
 unfold qv at *
 go_enter Tryz.func83, Tryz.ntmps83
 go_wp2_with fail
 refine (HC _).out.mono ?_
 rintro e w1 ⟨⟨c, rfl, hc⟩, hb1⟩
 have hb01 : Below w.heap.size w w1 := (bR.alloc nL _).trans (hb1.mono (by simp))
 have hq : (c == 0) = false := by simp [hc]
 clear hc
 go_wp2_with fail
 go_ret
 exact ⟨rfl, hb01⟩
end Go.Proofs.YtpdnnikkaojnkaaGreat.Rt
