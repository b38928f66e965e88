/-
  trie.hang beside a node.
-/
import Derived.Test.YtmnafocmbcgdiabVJ
namespace Go.Proofs.Ytmnafocmbcgdiab
open Go.ChangeShapes Go.WideShapes Go.ChangeAt Go.RowKit Tri N
set_option maxHeartbeats 1000000
set_option maxRecDepth 100000

def dst15 (i : Nat) : Tmp := [82, 83, 84, 85, 86, 87, 88, 89, 90].getD i 0
theorem dl15 {s : Nat} (h : s ∉ [82, 83, 84, 85, 86, 87, 88, 89, 90]) : ∀ j, j < 9 → dst15 j ≠ s := fun j hj e => h (by
  unfold dst15 at e
  rw [← e, List.getD_eq_getElem?_getD, List.getElem?_eq_getElem (by exact hj)]
  exact List.getElem_mem _)
/-- The region in which p's own node is made. -/
def FE (X : Nat → Prop) (s g sd : Nat) (f p : K) (vp : Value) (t : Tr) (i : Nat) (v : Value) (u : World) : Prop :=
  match i with
  | 0 => v = .pointer (some ⟨s, 0, none⟩)
  | 1 => v = .int .u32 (p.x : Int)
  | 2 => v = .pointer (some ⟨g, 0 + 1, none⟩)
  | 3 => v = .int .i64 (f.n : Int)
  | 4 => v = .int .i64 (sd : Int)
  | 5 => v = pv p
  | 6 => v = vp
  | 7 => ∃ m : MT, v = m.ptr ∧ m.tr = t ∧ Lies u X m
  | _ => v = .pointer (some ⟨s + 1, 0 + sd, none⟩)

theorem FE.keeps (X : Nat → Prop) (s g sd : Nat) (f p : K) (vp : Value) (t : Tr) : ∀ (i : Nat) (v : Value) (w w' : World), FE X s g sd f p vp t i v w → Below w.heap.size w w' → FE X s g sd f p vp t i v w' := fun i v w w' h hb => by
  match i with
  | 0 => exact h
  | 1 => exact h
  | 2 => exact h
  | 3 => exact h
  | 4 => exact h
  | 5 => exact h
  | 6 => exact h
  | 7 =>
    obtain ⟨m, h1, h2, h3⟩ := h
    exact ⟨m, h1, h2, h3.below hb⟩
  | n + 8 => exact h

theorem hang_fork0 {X : Nat → Prop} (b c1 : Nat) (k : K) (u : Option Int) (l r : MT) (p : K) (c : Nat) (v : Option Int) (w : World) (hX : ∀ b, X b → b < w.heap.size) (hc : BoxAt w X c v) (hm : Lies w X (.node b c1 k u l r)) (hn : nodes l.tr + nodes r.tr < 1152921504606846976 - 4) (hk : k.Ok) (hp : p.Ok) (hne : k ≠ p) (hf1 : com p k ≠ k) (hf2 : com p k ≠ p) (hsd : side k.x (com p k).n = 0) (hsp : side p.x (com p k).n = 1) :
    Calls Try.prog 22 #[.pointer (some ⟨b, 0, none⟩), pv p, vptr c v] w (HangPost X w (join (com p k) none (.node k u l.tr r.tr) (join p v .nil .nil))) := by
  have hm0 := hm
  obtain ⟨_, hrow, hbu, hl, hr⟩ := hm
  obtain ⟨wa, hwa, hs⟩ := HS.begin (p := p) hrow
  have hb0 := hs.be
  have HCM : Hid (∀ u, Calls Try.prog 37 #[pv p, pv k] u fun e w' => e = .returned (pv (com p k)) ∧ Below u.heap.size u w') := fun u => common_any u hp hk
  have hq : ∀ u : World, (Op.equalIn 10000 31 (.agg #[.int .u32 (k.x : Int), .int .i64 (k.n : Int)]) (.agg #[.int .u32 (p.x : Int), .int .i64 (p.n : Int)])).run Try.prog u = .ok false u := fun u => by rw [eqK]; simp [hne]
  have HWA := hid hwa
  obtain ⟨vp, hvp⟩ := vptr_is c v
  obtain ⟨vq, hvq⟩ := vptr_is c1 u
  obtain ⟨lp, hlp⟩ := ptr_is l
  obtain ⟨rp, hrp⟩ := ptr_is r
  have hq2 : ∀ u : World, (Op.equalIn 10000 31 (.agg #[.int .u32 ((com p k).x : Int), .int .i64 ((com p k).n : Int)]) (.agg #[.int .u32 (k.x : Int), .int .i64 (k.n : Int)])).run Try.prog u = .ok false u := fun u => by rw [eqK]; simp [hf1]
  have hq3 : ∀ u : World, (Op.equalIn 10000 31 (.agg #[.int .u32 ((com p k).x : Int), .int .i64 ((com p k).n : Int)]) (.agg #[.int .u32 (p.x : Int), .int .i64 (p.n : Int)])).run Try.prog u = .ok false u := fun u => by rw [eqK]; simp [hf2]
  have hcn : (com p k).n ≤ 32 := (com_facts hp hk).1.1
  have HHF := fun u => hid (half_any k.x (com p k).n u hcn)
  rw [hsd] at HHF
  have HHP := fun u => hid (half_any p.x (com p k).n u hcn)
  rw [hsp] at HHP
  have HIH : Hid (∀ u, Below w.heap.size w u → Calls Try.prog 22 #[.pointer none, pv p, vptr c v] u (HangPost X u (join p v .nil .nil))) := fun u hu => hang_nil p c v u (fun b hb => by have := hX b hb; have := hu.size; omega) (hc.below hu)
  have HJ : Hid (∀ (u' : World) (m : MT), Below w.heap.size w u' → Lies u' X m → m.tr = join p v .nil .nil → Calls Try.prog 36 #[pv (com p k), .pointer none, .agg #[(.pointer (some ⟨b, 0, none⟩)), m.ptr]] u' (HangPost X u' (join (com p k) none (.node k u l.tr r.tr) (join p v .nil .nil)))) := fun u' m hu hm he => by
    have h1 := nodes_join p v .nil .nil
    rw [← he] at h1 ⊢
    have h0 : nodes Tr.nil = 0 := rfl
    have h2 := vals_le m.tr
    exact join_any (com p k) 0 none (.node b c1 k u l r) m u' (fun b hb => by have := hX b hb; have := hu.size; omega) (fun a ha => by cases ha) (hm0.below hu) hm (by simp only [MT.tr, nodes]; omega) (by have := vals_le l.tr; have := vals_le r.tr; simp only [MT.tr, vals]; split <;> omega)
  rw [hvp] at HIH
  rw [hvp]
  obtain ⟨f, hfe⟩ : ∃ f, f = com p k := ⟨_, rfl⟩
  rw [← hfe] at hq2 hq3 HCM hf2 HHF HJ HHP
  rw [← hfe]
  rw [hvq, hlp, hrp] at hs
  generalize vals (.node k u l.tr r.tr) = cv at *
  generalize nodes (.node k u l.tr r.tr) = cn at *
  have HS1 := hid hs
  generalize join f none (.node k u l.tr r.tr) (join p v .nil .nil) = T at *
  unfold pv at ⊢
  clear hwa hb0 hc hX hrow hbu hl hr hvp hvq hlp hrp hn hs hne hm0 hk hp hfe hsd hf1 hf2 hcn hsp
  have x0 : wa.cell? ⟨w.heap.size, 0, none⟩ = some (.int .u32 (p.x : Int)) := by rw [cell_of_row _ _ _ _ _ _ HS1.out.pb]; rfl
  have x1 : wa.cell? ⟨w.heap.size, 1, none⟩ = some (.int .i64 (p.n : Int)) := by rw [cell_of_row _ _ _ _ _ _ HS1.out.pb]; rfl
  have n0 : wa.cell? ⟨b, 0, none⟩ = some (.int .u32 (k.x : Int)) := by rw [cell_of_row _ _ _ _ _ _ HS1.out.nd]; rfl
  have n1 : wa.cell? ⟨b, 1, none⟩ = some (.int .i64 (k.n : Int)) := by rw [cell_of_row _ _ _ _ _ _ HS1.out.nd]; rfl
  go_enter Try.func22, Try.ntmps22
  go_upto_region 2 with fail
  rw [← HWA.out]
  go_upto_region 4 with fail
  refine wp_region_still_tail 5 (by kernel_rfl) (by kernel_rfl) ?_
  simp only [List.take_succ_cons, List.take_zero, List.drop_succ_cons, List.drop_zero]
  iterate 5 still_step
  refine wpStill_nil ?_
  go_upto_region 6 with fail
  obtain ⟨wd, hwd⟩ : ∃ W, W = wa.drew := ⟨_, rfl⟩
  rw [← hwd]
  have HS2 : Hid (HS w wd b p k (.pointer vq) (.pointer lp) (.pointer rp) (.pointer none) (.pointer none) cv cn) := by unfold Hid; rw [hwd]; exact HS1.out.drew
  clear hwd x0 x1 n0 n1
  refine wp_region_mono' 7 dst6 (FG b wd.heap.size p k f) (by kernel_rfl) (by kernel_rfl) (FG.keeps _ _ _ _ _) ?_ ?_
  · simp only [List.take_succ_cons, List.take_zero, N.stepsOk]
    refine ⟨?_, ?_, ?_, ?_, ?_, ?_, ?_, trivial⟩
    · intro a u vs hb hold hdep
      have hu := HS2.out.grow hb
      refine wp_val (ex_load _ ⟨w.heap.size, 0, none⟩ (.tmp 4) _ rfl (hold 4 (dl6 (by decide))) (load_pre (x := .int .u32 (p.x : Int)) (y := .int .i64 (p.n : Int)) ?_ ?_)) ⟨_, rfl, rfl, hb, Below.refl _ _⟩
      · rw [cell_of_row _ _ _ _ _ _ hu.pb]; rfl
      · rw [cell_of_row _ _ _ _ _ _ hu.pb]; rfl
    · intro a u vs hb hold hdep
      exact wp_val (ex_move (.tmp 0) _ rfl (hold 0 (dl6 (by decide)))) ⟨_, rfl, rfl, hb, Below.refl _ _⟩
    · intro a u vs hb hold hdep
      have h0 := hdep ⟨1, .data⟩ (by simp) rfl (by decide)
      exact wp_val (ex_nil ⟨b, 0, none⟩ (.tmp 30) rfl (h0.1.trans h0.2)) ⟨_, rfl, rfl, hb, Below.refl _ _⟩
    · intro a u vs hb hold hdep
      have h0 := hdep ⟨2, .data⟩ (by simp) rfl (by decide)
      exact wp_val (ex_field _ ⟨b, 0, none⟩ (.tmp 31) 0 _ rfl (h0.1.trans h0.2) (fld_nd u).1) ⟨_, rfl, rfl, hb, Below.refl _ _⟩
    · intro a u vs hb hold hdep
      have h0 := hdep ⟨3, .data⟩ (by simp) rfl (by decide)
      have hu := HS2.out.grow hb
      refine wp_val (ex_load _ ⟨b, 0, none⟩ (.tmp 32) _ rfl (h0.1.trans h0.2) (load_pre (x := .int .u32 (k.x : Int)) (y := .int .i64 (k.n : Int)) ?_ ?_)) ⟨_, rfl, rfl, hb, Below.refl _ _⟩
      · rw [cell_of_row _ _ _ _ _ _ hu.nd]; rfl
      · rw [cell_of_row _ _ _ _ _ _ hu.nd]; rfl
    · intro a u vs hb hold hdep
      have h0 := hdep ⟨0, .data⟩ (by simp) rfl (by decide)
      have h4 := hdep ⟨4, .data⟩ (by simp) rfl (by decide)
      have e0 : a.eval (.tmp 29) = pv p := h0.1.trans h0.2
      have e4 : a.eval (.tmp 33) = pv k := h4.1.trans h4.2
      refine wp_call 37 _ _ rfl (enters_of Try.func37 (by kernel_rfl) rfl) #[pv p, pv k] (by simp only [List.map_toArray, List.map_cons, List.map_nil, e0, e4]) ?_
      refine (HCM.out u).mono ?_
      rintro _ u' ⟨rfl, hb'⟩
      exact ⟨_, rfl, _, rfl, rfl, hb.trans (hb'.mono hb.size), hb'⟩
    · intro a u vs hb hold hdep
      refine wp_val (ex_allocP u rfl) ?_
      have hb' : Below u.heap.size u (u.alloc (.cells #[.int .u32 0, .int .i64 0] 31)) := (Below.refl _ _).alloc (Nat.le_refl _) _
      exact ⟨_, rfl, ⟨_, rfl, hb.size, heap_alloc_new u _⟩, hb.trans (hb'.mono hb.size), hb'⟩
  intro vs u hb hF
  have e0 : vs 0 = pv p := hF 0 (by decide)
  have e1 : vs 1 = .pointer (some ⟨b, 0, none⟩) := hF 1 (by decide)
  have e2 : vs 2 = .pointer (some ⟨b, 0, none⟩) := hF 2 (by decide)
  have e3 : vs 3 = .pointer (some ⟨b, 0, none⟩) := hF 3 (by decide)
  have e4 : vs 4 = pv k := hF 4 (by decide)
  have e5 : vs 5 = pv f := hF 5 (by decide)
  obtain ⟨g, e6, g6, k6⟩ := hF 6 (by decide)
  clear hF
  simp only [List.drop_succ_cons, List.drop_zero, puts, List.range, List.range.loop, List.foldr, dst6, List.getD_cons_zero, List.getD_cons_succ, if_true, e0, e1, e2, e3, e4, e5, e6, Act.put, List.setIfInBounds_toArray, List.set_cons_zero, List.set_cons_succ]
  clear e0 e1 e2 e3 e4 e5 e6
  refine wpList_st rfl 31 _ _ rfl g #[.int .u32 (f.x : Int), .int .i64 (f.n : Int)] rfl rfl _ _ k6 (by kernel_rfl) rfl (by simp [Value.oneCell']) ?_
  intro wf hwf hbt
  have hg : w.heap.size + 2 ≤ g := Nat.le_trans HS2.out.sz g6
  have HG := hid hg
  have HS3 : Hid (HS w wf b p k (.pointer vq) (.pointer lp) (.pointer rp) (.pointer none) (.pointer none) cv cn) := (HS2.out.grow hb).but hbt hg
  have HFK := hid hwf
  unfold pv
  clear hb hwf hbt g6 k6 hg
  have x0 : wf.cell? ⟨w.heap.size, 0, none⟩ = some (.int .u32 (p.x : Int)) := by rw [cell_of_row _ _ _ _ _ _ HS3.out.pb]; rfl
  have x1 : wf.cell? ⟨w.heap.size, 1, none⟩ = some (.int .i64 (p.n : Int)) := by rw [cell_of_row _ _ _ _ _ _ HS3.out.pb]; rfl
  have n0 : wf.cell? ⟨b, 0, none⟩ = some (.int .u32 (k.x : Int)) := by rw [cell_of_row _ _ _ _ _ _ HS3.out.nd]; rfl
  have n1 : wf.cell? ⟨b, 1, none⟩ = some (.int .i64 (k.n : Int)) := by rw [cell_of_row _ _ _ _ _ _ HS3.out.nd]; rfl
  have k0 : wf.cell? ⟨g, 0, none⟩ = some (.int .u32 (f.x : Int)) := by rw [cell_of_row _ _ _ _ _ _ HFK.out]; rfl
  have k1 : wf.cell? ⟨g, 1, none⟩ = some (.int .i64 (f.n : Int)) := by rw [cell_of_row _ _ _ _ _ _ HFK.out]; rfl
  go_upto_region 7 with fail
  refine wp_region_still_tail 5 (by kernel_rfl) (by kernel_rfl) ?_
  simp only [List.take_succ_cons, List.take_zero, List.drop_succ_cons, List.drop_zero]
  iterate 5 still_step
  refine wpStill_nil ?_
  go_upto_region 12 with fail
  obtain ⟨wg, hwg⟩ : ∃ W, W = wf.drew := ⟨_, rfl⟩
  rw [← hwg]
  have HS4 : Hid (HS w wg b p k (.pointer vq) (.pointer lp) (.pointer rp) (.pointer none) (.pointer none) cv cn) := by unfold Hid; rw [hwg]; exact HS3.out.drew
  have HFK4 : Hid (wg.heap[g]? = some (.cells #[.int .u32 (f.x : Int), .int .i64 (f.n : Int)] 31)) := by unfold Hid; rw [hwg]; exact HFK.out
  clear hwg
  clear x0 x1 n0 n1 k0 k1
  have n0 : wg.cell? ⟨b, 0, none⟩ = some (.int .u32 (k.x : Int)) := by rw [cell_of_row _ _ _ _ _ _ HS4.out.nd]; rfl
  have n1 : wg.cell? ⟨b, 1, none⟩ = some (.int .i64 (k.n : Int)) := by rw [cell_of_row _ _ _ _ _ _ HS4.out.nd]; rfl
  have k0 : wg.cell? ⟨g, 0, none⟩ = some (.int .u32 (f.x : Int)) := by rw [cell_of_row _ _ _ _ _ _ HFK4.out]; rfl
  have k1 : wg.cell? ⟨g, 1, none⟩ = some (.int .i64 (f.n : Int)) := by rw [cell_of_row _ _ _ _ _ _ HFK4.out]; rfl
  refine wp_region_still_tail 10 (by kernel_rfl) (by kernel_rfl) ?_
  simp only [List.take_succ_cons, List.take_zero, List.drop_succ_cons, List.drop_zero]
  iterate 7 still_step
  still_call (HHF _).out
  iterate 2 still_step
  refine wpStill_nil ?_
  have hu := HS4.out.drew
  refine wpList_st1 rfl 48 _ _ rfl (w.heap.size + 1) 0 (.pointer (some ⟨b, 0, none⟩)) rfl rfl rfl _ _ _ hu.hb (by kernel_rfl) (by show 0 < 2; omega) rfl ?_
  intro wi hwi hbi
  have HS6 : Hid (HS w wi b p k (.pointer vq) (.pointer lp) (.pointer rp) (.pointer (some ⟨b, 0, none⟩)) (.pointer none) cv cn) := hu.put hbi hwi
  have HFK6 : Hid (wi.heap[g]? = some (.cells #[.int .u32 (f.x : Int), .int .i64 (f.n : Int)] 31)) := by
    have hlt := (Array.getElem?_eq_some_iff.1 HFK4.out).1
    exact (hbi.block g hlt (by have := HG.out; omega)).trans HFK4.out
  clear hu hwi hbi n0 n1 k0 k1
  have x0 : wi.cell? ⟨w.heap.size, 0, none⟩ = some (.int .u32 (p.x : Int)) := by rw [cell_of_row _ _ _ _ _ _ HS6.out.pb]; rfl
  have x1 : wi.cell? ⟨w.heap.size, 1, none⟩ = some (.int .i64 (p.n : Int)) := by rw [cell_of_row _ _ _ _ _ _ HS6.out.pb]; rfl
  have k0 : wi.cell? ⟨g, 0, none⟩ = some (.int .u32 (f.x : Int)) := by rw [cell_of_row _ _ _ _ _ _ HFK6.out]; rfl
  have k1 : wi.cell? ⟨g, 1, none⟩ = some (.int .i64 (f.n : Int)) := by rw [cell_of_row _ _ _ _ _ _ HFK6.out]; rfl
  have y0 : wi.cell? ⟨w.heap.size + 1, 0, none⟩ = some (.pointer (some ⟨b, 0, none⟩)) := by rw [cell_of_row _ _ _ _ _ _ HS6.out.hb]; rfl
  have y1 : wi.cell? ⟨w.heap.size + 1, 1, none⟩ = some (.pointer none) := by rw [cell_of_row _ _ _ _ _ _ HS6.out.hb]; rfl
  go_upto_region 15 with fail
  clear x0 x1 y0 y1 k0 k1
  refine wp_region_mono' 9 dst15 (FE X w.heap.size g 1 f p (.pointer vp) (join p v .nil .nil)) (by kernel_rfl) (by kernel_rfl) (FE.keeps _ _ _ _ _ _ _ _) ?_ ?_
  · simp only [List.take_succ_cons, List.take_zero, N.stepsOk]
    refine ⟨?_, ?_, ?_, ?_, ?_, ?_, ?_, ?_, ?_, trivial⟩
    · intro a u vs hb hold hdep
      exact wp_val (ex_field _ ⟨w.heap.size, 0, none⟩ (.tmp 4) 0 _ rfl (hold 4 (dl15 (by decide))) (fld_pr u).1) ⟨_, rfl, rfl, hb, Below.refl _ _⟩
    · intro a u vs hb hold hdep
      have h0 := hdep ⟨0, .data⟩ (by simp) rfl (by decide)
      have hu := HS6.out.grow hb
      refine wp_val (ex_load _ ⟨w.heap.size, 0, none⟩ (.tmp 82) _ rfl (h0.1.trans h0.2) (load_ad (x := (p.x : Int)) ?_)) ⟨_, rfl, rfl, hb, Below.refl _ _⟩
      rw [cell_of_row _ _ _ _ _ _ hu.pb]; rfl
    · intro a u vs hb hold hdep
      exact wp_val (ex_field _ ⟨g, 0, none⟩ (.tmp 8) 1 _ rfl (hold 8 (dl15 (by decide))) (fld_pr u).2) ⟨_, rfl, rfl, hb, Below.refl _ _⟩
    · intro a u vs hb hold hdep
      have h0 := hdep ⟨2, .data⟩ (by simp) rfl (by decide)
      refine wp_val (ex_load _ ⟨g, 0 + 1, none⟩ (.tmp 84) _ rfl (h0.1.trans h0.2) (load_in (x := (f.n : Int)) ?_)) ⟨_, rfl, rfl, hb, Below.refl _ _⟩
      rw [cell_of_row _ _ _ _ _ _ (below_keeps hb HFK6.out (Array.getElem?_eq_some_iff.1 HFK6.out).1)]; rfl
    · intro a u vs hb hold hdep
      have h1 := hdep ⟨1, .data⟩ (by simp) rfl (by decide)
      have h3 := hdep ⟨3, .data⟩ (by simp) rfl (by decide)
      have e1 : a.eval (.tmp 83) = .int .u32 (p.x : Int) := h1.1.trans h1.2
      have e3 : a.eval (.tmp 85) = .int .i64 (f.n : Int) := h3.1.trans h3.2
      refine wp_call 38 _ _ rfl (enters_of Try.func38 (by kernel_rfl) rfl) #[.int .u32 (p.x : Int), .int .i64 (f.n : Int)] (by simp only [List.map_toArray, List.map_cons, List.map_nil, e1, e3]) ?_
      refine (HHP u).out.mono ?_
      rintro _ u' ⟨rfl, rfl⟩
      exact ⟨_, rfl, _, rfl, rfl, hb, Below.refl _ _⟩
    · intro a u vs hb hold hdep
      have hu := HS6.out.grow hb
      refine wp_val (ex_load _ ⟨w.heap.size, 0, none⟩ (.tmp 4) _ rfl (hold 4 (dl15 (by decide))) (load_pre (x := .int .u32 (p.x : Int)) (y := .int .i64 (p.n : Int)) ?_ ?_)) ⟨_, rfl, rfl, hb, Below.refl _ _⟩
      · rw [cell_of_row _ _ _ _ _ _ hu.pb]; rfl
      · rw [cell_of_row _ _ _ _ _ _ hu.pb]; rfl
    · intro a u vs hb hold hdep
      exact wp_val (ex_move (.tmp 2) _ rfl (hold 2 (dl15 (by decide)))) ⟨_, rfl, rfl, hb, Below.refl _ _⟩
    · intro a u vs hb hold hdep
      have h5 := hdep ⟨5, .data⟩ (by simp) rfl (by decide)
      have h6 := hdep ⟨6, .data⟩ (by simp) rfl (by decide)
      have e5 : a.eval (.tmp 87) = pv p := h5.1.trans h5.2
      have e6 : a.eval (.tmp 88) = .pointer vp := h6.1.trans h6.2
      have ec : a.eval (.const (.pointer none)) = .pointer none := rfl
      refine wp_call 22 _ _ rfl (enters_of Try.func22 (by kernel_rfl) rfl) #[.pointer none, pv p, .pointer vp] (by simp only [List.map_toArray, List.map_cons, List.map_nil, e5, e6, ec]) ?_
      have hu := HS6.out.grow hb
      refine (HIH.out u hu.be).mono ?_
      rintro _ u' ⟨m, rfl, m1, m2, hb'⟩
      exact ⟨_, rfl, _, rfl, ⟨m, rfl, m1, m2⟩, hb.trans (hb'.mono hb.size), hb'⟩
    · intro a u vs hb hold hdep
      have h0 := hdep ⟨4, .data⟩ (by simp) rfl (by decide)
      exact wp_val (ex_index _ (.tmp 7) (.tmp 86) _ _ _ rfl (hold 7 (dl15 (by decide))) (h0.1.trans h0.2) (idx_two (i := 1) (by decide) u)) ⟨_, rfl, rfl, hb, Below.refl _ _⟩
  intro vs u hb hF
  obtain ⟨m, e7, m1, m2⟩ := hF 7 (by decide)
  have e8 : vs 8 = .pointer (some ⟨w.heap.size + 1, 1, none⟩) := hF 8 (by decide)
  clear hF
  obtain ⟨mp, hmp⟩ := ptr_is m
  rw [hmp] at e7
  simp only [List.drop_succ_cons, List.drop_zero, puts, List.range, List.range.loop, List.foldr, dst15, List.getD_cons_zero, List.getD_cons_succ, if_true, e7, e8, Act.put, List.setIfInBounds_toArray, List.set_cons_zero, List.set_cons_succ]
  clear e7 e8
  generalize vs 0 = q0
  generalize vs 1 = q1
  generalize vs 2 = q2
  generalize vs 3 = q3
  generalize vs 4 = q4
  generalize vs 5 = q5
  generalize vs 6 = q6
  have hu := HS6.out.grow hb
  refine wpList_st1 rfl 48 _ _ rfl (w.heap.size + 1) 1 (.pointer mp) rfl rfl rfl _ _ _ hu.hb (by kernel_rfl) (by show 1 < 2; omega) rfl ?_
  intro wj hwj hbj
  have HS7 : Hid (HS w wj b p k (.pointer vq) (.pointer lp) (.pointer rp) (.pointer (some ⟨b, 0, none⟩)) (.pointer mp) cv cn) := hu.put hbj hwj
  have HFK7 : Hid (wj.heap[g]? = some (.cells #[.int .u32 (f.x : Int), .int .i64 (f.n : Int)] 31)) := by
    have hlt := (Array.getElem?_eq_some_iff.1 HFK6.out).1
    exact (hbj.block g (Nat.lt_of_lt_of_le hlt hb.size) (by have := HG.out; omega)).trans (below_keeps hb HFK6.out hlt)
  have m3 : Lies wj X m := m2.but hu.hb (by decide) (by decide) hbj
  have HJ2 : Hid (Calls Try.prog 36 #[pv f, .pointer none, .agg #[(.pointer (some ⟨b, 0, none⟩)), (.pointer mp)]] wj (HangPost X wj T)) := by
    have h := HJ.out wj m HS7.out.be m3 m1
    rw [hmp] at h
    exact h
  clear hb hu hwj hbj m1 m2 m3 hmp
  have k0 : wj.cell? ⟨g, 0, none⟩ = some (.int .u32 (f.x : Int)) := by rw [cell_of_row _ _ _ _ _ _ HFK7.out]; rfl
  have k1 : wj.cell? ⟨g, 1, none⟩ = some (.int .i64 (f.n : Int)) := by rw [cell_of_row _ _ _ _ _ _ HFK7.out]; rfl
  have y0 : wj.cell? ⟨w.heap.size + 1, 0, none⟩ = some (.pointer (some ⟨b, 0, none⟩)) := by rw [cell_of_row _ _ _ _ _ _ HS7.out.hb]; rfl
  have y1 : wj.cell? ⟨w.heap.size + 1, 1, none⟩ = some (.pointer mp) := by rw [cell_of_row _ _ _ _ _ _ HS7.out.hb]; rfl
  unfold pv at HJ2
  go_wp2_with fail
  refine HJ2.out.mono ?_
  rintro _ w' ⟨m', rfl, h1, h2, h3⟩
  have HF : Hid (m'.tr = T ∧ Lies w' X m' ∧ Below w.heap.size w w') := ⟨h1, h2, HS7.out.be.trans (h3.mono HS7.out.be.size)⟩
  obtain ⟨mq, hmq⟩ := ptr_is m'
  rw [hmq]
  have HMP := hid hmq
  clear h1 h2 h3 hmq
  go_wp2_with fail
  go_ret
  exact ⟨m', by rw [HMP.out]; rfl, HF.out⟩

theorem hang_fork1 {X : Nat → Prop} (b c1 : Nat) (k : K) (u : Option Int) (l r : MT) (p : K) (c : Nat) (v : Option Int) (w : World) (hX : ∀ b, X b → b < w.heap.size) (hc : BoxAt w X c v) (hm : Lies w X (.node b c1 k u l r)) (hn : nodes l.tr + nodes r.tr < 1152921504606846976 - 4) (hk : k.Ok) (hp : p.Ok) (hne : k ≠ p) (hf1 : com p k ≠ k) (hf2 : com p k ≠ p) (hsd : side k.x (com p k).n = 1) (hsp : side p.x (com p k).n = 0) :
    Calls Try.prog 22 #[.pointer (some ⟨b, 0, none⟩), pv p, vptr c v] w (HangPost X w (join (com p k) none (join p v .nil .nil) (.node k u l.tr r.tr))) := by
  have hm0 := hm
  obtain ⟨_, hrow, hbu, hl, hr⟩ := hm
  obtain ⟨wa, hwa, hs⟩ := HS.begin (p := p) hrow
  have hb0 := hs.be
  have HCM : Hid (∀ u, Calls Try.prog 37 #[pv p, pv k] u fun e w' => e = .returned (pv (com p k)) ∧ Below u.heap.size u w') := fun u => common_any u hp hk
  have hq : ∀ u : World, (Op.equalIn 10000 31 (.agg #[.int .u32 (k.x : Int), .int .i64 (k.n : Int)]) (.agg #[.int .u32 (p.x : Int), .int .i64 (p.n : Int)])).run Try.prog u = .ok false u := fun u => by rw [eqK]; simp [hne]
  have HWA := hid hwa
  obtain ⟨vp, hvp⟩ := vptr_is c v
  obtain ⟨vq, hvq⟩ := vptr_is c1 u
  obtain ⟨lp, hlp⟩ := ptr_is l
  obtain ⟨rp, hrp⟩ := ptr_is r
  have hq2 : ∀ u : World, (Op.equalIn 10000 31 (.agg #[.int .u32 ((com p k).x : Int), .int .i64 ((com p k).n : Int)]) (.agg #[.int .u32 (k.x : Int), .int .i64 (k.n : Int)])).run Try.prog u = .ok false u := fun u => by rw [eqK]; simp [hf1]
  have hq3 : ∀ u : World, (Op.equalIn 10000 31 (.agg #[.int .u32 ((com p k).x : Int), .int .i64 ((com p k).n : Int)]) (.agg #[.int .u32 (p.x : Int), .int .i64 (p.n : Int)])).run Try.prog u = .ok false u := fun u => by rw [eqK]; simp [hf2]
  have hcn : (com p k).n ≤ 32 := (com_facts hp hk).1.1
  have HHF := fun u => hid (half_any k.x (com p k).n u hcn)
  rw [hsd] at HHF
  have HHP := fun u => hid (half_any p.x (com p k).n u hcn)
  rw [hsp] at HHP
  have HIH : Hid (∀ u, Below w.heap.size w u → Calls Try.prog 22 #[.pointer none, pv p, vptr c v] u (HangPost X u (join p v .nil .nil))) := fun u hu => hang_nil p c v u (fun b hb => by have := hX b hb; have := hu.size; omega) (hc.below hu)
  have HJ : Hid (∀ (u' : World) (m : MT), Below w.heap.size w u' → Lies u' X m → m.tr = join p v .nil .nil → Calls Try.prog 36 #[pv (com p k), .pointer none, .agg #[m.ptr, (.pointer (some ⟨b, 0, none⟩))]] u' (HangPost X u' (join (com p k) none (join p v .nil .nil) (.node k u l.tr r.tr)))) := fun u' m hu hm he => by
    have h1 := nodes_join p v .nil .nil
    rw [← he] at h1 ⊢
    have h0 : nodes Tr.nil = 0 := rfl
    have h2 := vals_le m.tr
    exact join_any (com p k) 0 none m (.node b c1 k u l r) u' (fun b hb => by have := hX b hb; have := hu.size; omega) (fun a ha => by cases ha) hm (hm0.below hu) (by simp only [MT.tr, nodes]; omega) (by have := vals_le l.tr; have := vals_le r.tr; simp only [MT.tr, vals]; split <;> omega)
  rw [hvp] at HIH
  rw [hvp]
  obtain ⟨f, hfe⟩ : ∃ f, f = com p k := ⟨_, rfl⟩
  rw [← hfe] at hq2 hq3 HCM hf2 HHF HJ HHP
  rw [← hfe]
  rw [hvq, hlp, hrp] at hs
  generalize vals (.node k u l.tr r.tr) = cv at *
  generalize nodes (.node k u l.tr r.tr) = cn at *
  have HS1 := hid hs
  generalize join f none (join p v .nil .nil) (.node k u l.tr r.tr) = T at *
  unfold pv at ⊢
  clear hwa hb0 hc hX hrow hbu hl hr hvp hvq hlp hrp hn hs hne hm0 hk hp hfe hsd hf1 hf2 hcn hsp
  have x0 : wa.cell? ⟨w.heap.size, 0, none⟩ = some (.int .u32 (p.x : Int)) := by rw [cell_of_row _ _ _ _ _ _ HS1.out.pb]; rfl
  have x1 : wa.cell? ⟨w.heap.size, 1, none⟩ = some (.int .i64 (p.n : Int)) := by rw [cell_of_row _ _ _ _ _ _ HS1.out.pb]; rfl
  have n0 : wa.cell? ⟨b, 0, none⟩ = some (.int .u32 (k.x : Int)) := by rw [cell_of_row _ _ _ _ _ _ HS1.out.nd]; rfl
  have n1 : wa.cell? ⟨b, 1, none⟩ = some (.int .i64 (k.n : Int)) := by rw [cell_of_row _ _ _ _ _ _ HS1.out.nd]; rfl
  go_enter Try.func22, Try.ntmps22
  go_upto_region 2 with fail
  rw [← HWA.out]
  go_upto_region 4 with fail
  refine wp_region_still_tail 5 (by kernel_rfl) (by kernel_rfl) ?_
  simp only [List.take_succ_cons, List.take_zero, List.drop_succ_cons, List.drop_zero]
  iterate 5 still_step
  refine wpStill_nil ?_
  go_upto_region 6 with fail
  obtain ⟨wd, hwd⟩ : ∃ W, W = wa.drew := ⟨_, rfl⟩
  rw [← hwd]
  have HS2 : Hid (HS w wd b p k (.pointer vq) (.pointer lp) (.pointer rp) (.pointer none) (.pointer none) cv cn) := by unfold Hid; rw [hwd]; exact HS1.out.drew
  clear hwd x0 x1 n0 n1
  refine wp_region_mono' 7 dst6 (FG b wd.heap.size p k f) (by kernel_rfl) (by kernel_rfl) (FG.keeps _ _ _ _ _) ?_ ?_
  · simp only [List.take_succ_cons, List.take_zero, N.stepsOk]
    refine ⟨?_, ?_, ?_, ?_, ?_, ?_, ?_, trivial⟩
    · intro a u vs hb hold hdep
      have hu := HS2.out.grow hb
      refine wp_val (ex_load _ ⟨w.heap.size, 0, none⟩ (.tmp 4) _ rfl (hold 4 (dl6 (by decide))) (load_pre (x := .int .u32 (p.x : Int)) (y := .int .i64 (p.n : Int)) ?_ ?_)) ⟨_, rfl, rfl, hb, Below.refl _ _⟩
      · rw [cell_of_row _ _ _ _ _ _ hu.pb]; rfl
      · rw [cell_of_row _ _ _ _ _ _ hu.pb]; rfl
    · intro a u vs hb hold hdep
      exact wp_val (ex_move (.tmp 0) _ rfl (hold 0 (dl6 (by decide)))) ⟨_, rfl, rfl, hb, Below.refl _ _⟩
    · intro a u vs hb hold hdep
      have h0 := hdep ⟨1, .data⟩ (by simp) rfl (by decide)
      exact wp_val (ex_nil ⟨b, 0, none⟩ (.tmp 30) rfl (h0.1.trans h0.2)) ⟨_, rfl, rfl, hb, Below.refl _ _⟩
    · intro a u vs hb hold hdep
      have h0 := hdep ⟨2, .data⟩ (by simp) rfl (by decide)
      exact wp_val (ex_field _ ⟨b, 0, none⟩ (.tmp 31) 0 _ rfl (h0.1.trans h0.2) (fld_nd u).1) ⟨_, rfl, rfl, hb, Below.refl _ _⟩
    · intro a u vs hb hold hdep
      have h0 := hdep ⟨3, .data⟩ (by simp) rfl (by decide)
      have hu := HS2.out.grow hb
      refine wp_val (ex_load _ ⟨b, 0, none⟩ (.tmp 32) _ rfl (h0.1.trans h0.2) (load_pre (x := .int .u32 (k.x : Int)) (y := .int .i64 (k.n : Int)) ?_ ?_)) ⟨_, rfl, rfl, hb, Below.refl _ _⟩
      · rw [cell_of_row _ _ _ _ _ _ hu.nd]; rfl
      · rw [cell_of_row _ _ _ _ _ _ hu.nd]; rfl
    · intro a u vs hb hold hdep
      have h0 := hdep ⟨0, .data⟩ (by simp) rfl (by decide)
      have h4 := hdep ⟨4, .data⟩ (by simp) rfl (by decide)
      have e0 : a.eval (.tmp 29) = pv p := h0.1.trans h0.2
      have e4 : a.eval (.tmp 33) = pv k := h4.1.trans h4.2
      refine wp_call 37 _ _ rfl (enters_of Try.func37 (by kernel_rfl) rfl) #[pv p, pv k] (by simp only [List.map_toArray, List.map_cons, List.map_nil, e0, e4]) ?_
      refine (HCM.out u).mono ?_
      rintro _ u' ⟨rfl, hb'⟩
      exact ⟨_, rfl, _, rfl, rfl, hb.trans (hb'.mono hb.size), hb'⟩
    · intro a u vs hb hold hdep
      refine wp_val (ex_allocP u rfl) ?_
      have hb' : Below u.heap.size u (u.alloc (.cells #[.int .u32 0, .int .i64 0] 31)) := (Below.refl _ _).alloc (Nat.le_refl _) _
      exact ⟨_, rfl, ⟨_, rfl, hb.size, heap_alloc_new u _⟩, hb.trans (hb'.mono hb.size), hb'⟩
  intro vs u hb hF
  have e0 : vs 0 = pv p := hF 0 (by decide)
  have e1 : vs 1 = .pointer (some ⟨b, 0, none⟩) := hF 1 (by decide)
  have e2 : vs 2 = .pointer (some ⟨b, 0, none⟩) := hF 2 (by decide)
  have e3 : vs 3 = .pointer (some ⟨b, 0, none⟩) := hF 3 (by decide)
  have e4 : vs 4 = pv k := hF 4 (by decide)
  have e5 : vs 5 = pv f := hF 5 (by decide)
  obtain ⟨g, e6, g6, k6⟩ := hF 6 (by decide)
  clear hF
  simp only [List.drop_succ_cons, List.drop_zero, puts, List.range, List.range.loop, List.foldr, dst6, List.getD_cons_zero, List.getD_cons_succ, if_true, e0, e1, e2, e3, e4, e5, e6, Act.put, List.setIfInBounds_toArray, List.set_cons_zero, List.set_cons_succ]
  clear e0 e1 e2 e3 e4 e5 e6
  refine wpList_st rfl 31 _ _ rfl g #[.int .u32 (f.x : Int), .int .i64 (f.n : Int)] rfl rfl _ _ k6 (by kernel_rfl) rfl (by simp [Value.oneCell']) ?_
  intro wf hwf hbt
  have hg : w.heap.size + 2 ≤ g := Nat.le_trans HS2.out.sz g6
  have HG := hid hg
  have HS3 : Hid (HS w wf b p k (.pointer vq) (.pointer lp) (.pointer rp) (.pointer none) (.pointer none) cv cn) := (HS2.out.grow hb).but hbt hg
  have HFK := hid hwf
  unfold pv
  clear hb hwf hbt g6 k6 hg
  have x0 : wf.cell? ⟨w.heap.size, 0, none⟩ = some (.int .u32 (p.x : Int)) := by rw [cell_of_row _ _ _ _ _ _ HS3.out.pb]; rfl
  have x1 : wf.cell? ⟨w.heap.size, 1, none⟩ = some (.int .i64 (p.n : Int)) := by rw [cell_of_row _ _ _ _ _ _ HS3.out.pb]; rfl
  have n0 : wf.cell? ⟨b, 0, none⟩ = some (.int .u32 (k.x : Int)) := by rw [cell_of_row _ _ _ _ _ _ HS3.out.nd]; rfl
  have n1 : wf.cell? ⟨b, 1, none⟩ = some (.int .i64 (k.n : Int)) := by rw [cell_of_row _ _ _ _ _ _ HS3.out.nd]; rfl
  have k0 : wf.cell? ⟨g, 0, none⟩ = some (.int .u32 (f.x : Int)) := by rw [cell_of_row _ _ _ _ _ _ HFK.out]; rfl
  have k1 : wf.cell? ⟨g, 1, none⟩ = some (.int .i64 (f.n : Int)) := by rw [cell_of_row _ _ _ _ _ _ HFK.out]; rfl
  go_upto_region 7 with fail
  refine wp_region_still_tail 5 (by kernel_rfl) (by kernel_rfl) ?_
  simp only [List.take_succ_cons, List.take_zero, List.drop_succ_cons, List.drop_zero]
  iterate 5 still_step
  refine wpStill_nil ?_
  go_upto_region 12 with fail
  obtain ⟨wg, hwg⟩ : ∃ W, W = wf.drew := ⟨_, rfl⟩
  rw [← hwg]
  have HS4 : Hid (HS w wg b p k (.pointer vq) (.pointer lp) (.pointer rp) (.pointer none) (.pointer none) cv cn) := by unfold Hid; rw [hwg]; exact HS3.out.drew
  have HFK4 : Hid (wg.heap[g]? = some (.cells #[.int .u32 (f.x : Int), .int .i64 (f.n : Int)] 31)) := by unfold Hid; rw [hwg]; exact HFK.out
  clear hwg
  clear x0 x1 n0 n1 k0 k1
  have n0 : wg.cell? ⟨b, 0, none⟩ = some (.int .u32 (k.x : Int)) := by rw [cell_of_row _ _ _ _ _ _ HS4.out.nd]; rfl
  have n1 : wg.cell? ⟨b, 1, none⟩ = some (.int .i64 (k.n : Int)) := by rw [cell_of_row _ _ _ _ _ _ HS4.out.nd]; rfl
  have k0 : wg.cell? ⟨g, 0, none⟩ = some (.int .u32 (f.x : Int)) := by rw [cell_of_row _ _ _ _ _ _ HFK4.out]; rfl
  have k1 : wg.cell? ⟨g, 1, none⟩ = some (.int .i64 (f.n : Int)) := by rw [cell_of_row _ _ _ _ _ _ HFK4.out]; rfl
  refine wp_region_still_tail 10 (by kernel_rfl) (by kernel_rfl) ?_
  simp only [List.take_succ_cons, List.take_zero, List.drop_succ_cons, List.drop_zero]
  iterate 7 still_step
  still_call (HHF _).out
  iterate 2 still_step
  refine wpStill_nil ?_
  have hu := HS4.out.drew
  refine wpList_st1 rfl 48 _ _ rfl (w.heap.size + 1) 1 (.pointer (some ⟨b, 0, none⟩)) rfl rfl rfl _ _ _ hu.hb (by kernel_rfl) (by show 1 < 2; omega) rfl ?_
  intro wi hwi hbi
  have HS6 : Hid (HS w wi b p k (.pointer vq) (.pointer lp) (.pointer rp) (.pointer none) (.pointer (some ⟨b, 0, none⟩)) cv cn) := hu.put hbi hwi
  have HFK6 : Hid (wi.heap[g]? = some (.cells #[.int .u32 (f.x : Int), .int .i64 (f.n : Int)] 31)) := by
    have hlt := (Array.getElem?_eq_some_iff.1 HFK4.out).1
    exact (hbi.block g hlt (by have := HG.out; omega)).trans HFK4.out
  clear hu hwi hbi n0 n1 k0 k1
  have x0 : wi.cell? ⟨w.heap.size, 0, none⟩ = some (.int .u32 (p.x : Int)) := by rw [cell_of_row _ _ _ _ _ _ HS6.out.pb]; rfl
  have x1 : wi.cell? ⟨w.heap.size, 1, none⟩ = some (.int .i64 (p.n : Int)) := by rw [cell_of_row _ _ _ _ _ _ HS6.out.pb]; rfl
  have k0 : wi.cell? ⟨g, 0, none⟩ = some (.int .u32 (f.x : Int)) := by rw [cell_of_row _ _ _ _ _ _ HFK6.out]; rfl
  have k1 : wi.cell? ⟨g, 1, none⟩ = some (.int .i64 (f.n : Int)) := by rw [cell_of_row _ _ _ _ _ _ HFK6.out]; rfl
  have y0 : wi.cell? ⟨w.heap.size + 1, 0, none⟩ = some (.pointer none) := by rw [cell_of_row _ _ _ _ _ _ HS6.out.hb]; rfl
  have y1 : wi.cell? ⟨w.heap.size + 1, 1, none⟩ = some (.pointer (some ⟨b, 0, none⟩)) := by rw [cell_of_row _ _ _ _ _ _ HS6.out.hb]; rfl
  go_upto_region 15 with fail
  clear x0 x1 y0 y1 k0 k1
  refine wp_region_mono' 9 dst15 (FE X w.heap.size g 0 f p (.pointer vp) (join p v .nil .nil)) (by kernel_rfl) (by kernel_rfl) (FE.keeps _ _ _ _ _ _ _ _) ?_ ?_
  · simp only [List.take_succ_cons, List.take_zero, N.stepsOk]
    refine ⟨?_, ?_, ?_, ?_, ?_, ?_, ?_, ?_, ?_, trivial⟩
    · intro a u vs hb hold hdep
      exact wp_val (ex_field _ ⟨w.heap.size, 0, none⟩ (.tmp 4) 0 _ rfl (hold 4 (dl15 (by decide))) (fld_pr u).1) ⟨_, rfl, rfl, hb, Below.refl _ _⟩
    · intro a u vs hb hold hdep
      have h0 := hdep ⟨0, .data⟩ (by simp) rfl (by decide)
      have hu := HS6.out.grow hb
      refine wp_val (ex_load _ ⟨w.heap.size, 0, none⟩ (.tmp 82) _ rfl (h0.1.trans h0.2) (load_ad (x := (p.x : Int)) ?_)) ⟨_, rfl, rfl, hb, Below.refl _ _⟩
      rw [cell_of_row _ _ _ _ _ _ hu.pb]; rfl
    · intro a u vs hb hold hdep
      exact wp_val (ex_field _ ⟨g, 0, none⟩ (.tmp 8) 1 _ rfl (hold 8 (dl15 (by decide))) (fld_pr u).2) ⟨_, rfl, rfl, hb, Below.refl _ _⟩
    · intro a u vs hb hold hdep
      have h0 := hdep ⟨2, .data⟩ (by simp) rfl (by decide)
      refine wp_val (ex_load _ ⟨g, 0 + 1, none⟩ (.tmp 84) _ rfl (h0.1.trans h0.2) (load_in (x := (f.n : Int)) ?_)) ⟨_, rfl, rfl, hb, Below.refl _ _⟩
      rw [cell_of_row _ _ _ _ _ _ (below_keeps hb HFK6.out (Array.getElem?_eq_some_iff.1 HFK6.out).1)]; rfl
    · intro a u vs hb hold hdep
      have h1 := hdep ⟨1, .data⟩ (by simp) rfl (by decide)
      have h3 := hdep ⟨3, .data⟩ (by simp) rfl (by decide)
      have e1 : a.eval (.tmp 83) = .int .u32 (p.x : Int) := h1.1.trans h1.2
      have e3 : a.eval (.tmp 85) = .int .i64 (f.n : Int) := h3.1.trans h3.2
      refine wp_call 38 _ _ rfl (enters_of Try.func38 (by kernel_rfl) rfl) #[.int .u32 (p.x : Int), .int .i64 (f.n : Int)] (by simp only [List.map_toArray, List.map_cons, List.map_nil, e1, e3]) ?_
      refine (HHP u).out.mono ?_
      rintro _ u' ⟨rfl, rfl⟩
      exact ⟨_, rfl, _, rfl, rfl, hb, Below.refl _ _⟩
    · intro a u vs hb hold hdep
      have hu := HS6.out.grow hb
      refine wp_val (ex_load _ ⟨w.heap.size, 0, none⟩ (.tmp 4) _ rfl (hold 4 (dl15 (by decide))) (load_pre (x := .int .u32 (p.x : Int)) (y := .int .i64 (p.n : Int)) ?_ ?_)) ⟨_, rfl, rfl, hb, Below.refl _ _⟩
      · rw [cell_of_row _ _ _ _ _ _ hu.pb]; rfl
      · rw [cell_of_row _ _ _ _ _ _ hu.pb]; rfl
    · intro a u vs hb hold hdep
      exact wp_val (ex_move (.tmp 2) _ rfl (hold 2 (dl15 (by decide)))) ⟨_, rfl, rfl, hb, Below.refl _ _⟩
    · intro a u vs hb hold hdep
      have h5 := hdep ⟨5, .data⟩ (by simp) rfl (by decide)
      have h6 := hdep ⟨6, .data⟩ (by simp) rfl (by decide)
      have e5 : a.eval (.tmp 87) = pv p := h5.1.trans h5.2
      have e6 : a.eval (.tmp 88) = .pointer vp := h6.1.trans h6.2
      have ec : a.eval (.const (.pointer none)) = .pointer none := rfl
      refine wp_call 22 _ _ rfl (enters_of Try.func22 (by kernel_rfl) rfl) #[.pointer none, pv p, .pointer vp] (by simp only [List.map_toArray, List.map_cons, List.map_nil, e5, e6, ec]) ?_
      have hu := HS6.out.grow hb
      refine (HIH.out u hu.be).mono ?_
      rintro _ u' ⟨m, rfl, m1, m2, hb'⟩
      exact ⟨_, rfl, _, rfl, ⟨m, rfl, m1, m2⟩, hb.trans (hb'.mono hb.size), hb'⟩
    · intro a u vs hb hold hdep
      have h0 := hdep ⟨4, .data⟩ (by simp) rfl (by decide)
      exact wp_val (ex_index _ (.tmp 7) (.tmp 86) _ _ _ rfl (hold 7 (dl15 (by decide))) (h0.1.trans h0.2) (idx_two (i := 0) (by decide) u)) ⟨_, rfl, rfl, hb, Below.refl _ _⟩
  intro vs u hb hF
  obtain ⟨m, e7, m1, m2⟩ := hF 7 (by decide)
  have e8 : vs 8 = .pointer (some ⟨w.heap.size + 1, 0, none⟩) := hF 8 (by decide)
  clear hF
  obtain ⟨mp, hmp⟩ := ptr_is m
  rw [hmp] at e7
  simp only [List.drop_succ_cons, List.drop_zero, puts, List.range, List.range.loop, List.foldr, dst15, List.getD_cons_zero, List.getD_cons_succ, if_true, e7, e8, Act.put, List.setIfInBounds_toArray, List.set_cons_zero, List.set_cons_succ]
  clear e7 e8
  generalize vs 0 = q0
  generalize vs 1 = q1
  generalize vs 2 = q2
  generalize vs 3 = q3
  generalize vs 4 = q4
  generalize vs 5 = q5
  generalize vs 6 = q6
  have hu := HS6.out.grow hb
  refine wpList_st1 rfl 48 _ _ rfl (w.heap.size + 1) 0 (.pointer mp) rfl rfl rfl _ _ _ hu.hb (by kernel_rfl) (by show 0 < 2; omega) rfl ?_
  intro wj hwj hbj
  have HS7 : Hid (HS w wj b p k (.pointer vq) (.pointer lp) (.pointer rp) (.pointer mp) (.pointer (some ⟨b, 0, none⟩)) cv cn) := hu.put hbj hwj
  have HFK7 : Hid (wj.heap[g]? = some (.cells #[.int .u32 (f.x : Int), .int .i64 (f.n : Int)] 31)) := by
    have hlt := (Array.getElem?_eq_some_iff.1 HFK6.out).1
    exact (hbj.block g (Nat.lt_of_lt_of_le hlt hb.size) (by have := HG.out; omega)).trans (below_keeps hb HFK6.out hlt)
  have m3 : Lies wj X m := m2.but hu.hb (by decide) (by decide) hbj
  have HJ2 : Hid (Calls Try.prog 36 #[pv f, .pointer none, .agg #[(.pointer mp), (.pointer (some ⟨b, 0, none⟩))]] wj (HangPost X wj T)) := by
    have h := HJ.out wj m HS7.out.be m3 m1
    rw [hmp] at h
    exact h
  clear hb hu hwj hbj m1 m2 m3 hmp
  have k0 : wj.cell? ⟨g, 0, none⟩ = some (.int .u32 (f.x : Int)) := by rw [cell_of_row _ _ _ _ _ _ HFK7.out]; rfl
  have k1 : wj.cell? ⟨g, 1, none⟩ = some (.int .i64 (f.n : Int)) := by rw [cell_of_row _ _ _ _ _ _ HFK7.out]; rfl
  have y0 : wj.cell? ⟨w.heap.size + 1, 0, none⟩ = some (.pointer mp) := by rw [cell_of_row _ _ _ _ _ _ HS7.out.hb]; rfl
  have y1 : wj.cell? ⟨w.heap.size + 1, 1, none⟩ = some (.pointer (some ⟨b, 0, none⟩)) := by rw [cell_of_row _ _ _ _ _ _ HS7.out.hb]; rfl
  unfold pv at HJ2
  go_wp2_with fail
  refine HJ2.out.mono ?_
  rintro _ w' ⟨m', rfl, h1, h2, h3⟩
  have HF : Hid (m'.tr = T ∧ Lies w' X m' ∧ Below w.heap.size w w') := ⟨h1, h2, HS7.out.be.trans (h3.mono HS7.out.be.size)⟩
  obtain ⟨mq, hmq⟩ := ptr_is m'
  rw [hmq]
  have HMP := hid hmq
  clear h1 h2 h3 hmq
  go_wp2_with fail
  go_ret
  exact ⟨m', by rw [HMP.out]; rfl, HF.out⟩
end Go.Proofs.Ytmnafocmbcgdiab
