/-
  Trie.Del.
-/
import Derived.Test.YtmnafocmbcgdiabWB
namespace Go.Proofs.Ytmnafocmbcgdiab
open Go.ChangeShapes Go.WideShapes Go.ChangeAt Go.RowKit Tri N
set_option maxHeartbeats 1000000
set_option maxRecDepth 100000

theorem TrieAt.grow {w w' : World} {X : Nat → Prop} {tb : Nat} {t : Tr} (h : TrieAt w X tb t) (hb : Below w.heap.size w w') : TrieAt w' X tb t := by
  obtain ⟨h1, h2, ⟨m, h3, h4, h5⟩, h6⟩ := h
  exact ⟨h1, fun b hx => Nat.lt_of_lt_of_le (h2 b hx) hb.size, ⟨m, below_keeps hb h3 (Array.getElem?_eq_some_iff.1 h3).1, h4, h5.below hb⟩, h6⟩

def delT (t : Tr) (p : K) : Tr := if (lookT t p).isSome then hang t p none else t

theorem del_any {X : Nat → Prop} {tb : Nat} {t : Tr} (p : K) (w : World) (hT : TrieAt w X tb t) (hp : p.Ok) :
    Calls Try.prog 13 #[.pointer (some ⟨tb, 0, none⟩), pv p] w fun e w' => e = .returned (getV (lookT t p)) ∧ TrieAt w' X tb (delT t p) ∧ Chg (fun b => b = tb) w w' := by
  have hT0 := hT
  obtain ⟨hmem, hlt, ⟨m, hrow, hmt, hL⟩, hwf⟩ := hT
  obtain ⟨w1, hw1⟩ : ∃ w1, w1 = w.alloc (.cells #[.int .u32 (p.x : Int), .int .i64 (p.n : Int)] 31) := ⟨_, rfl⟩
  have hs1 : w1.heap.size = w.heap.size + 1 := by rw [hw1]; simp
  have hb1 : Below w.heap.size w w1 := by rw [hw1]; exact (Below.refl _ _).alloc (Nat.le_refl _) _
  have r1 : w1.heap[w.heap.size]? = some (.cells #[.int .u32 (p.x : Int), .int .i64 (p.n : Int)] 31) := by rw [hw1]; exact heap_alloc_new w _
  have x0 : w1.cell? ⟨w.heap.size, 0, none⟩ = some (.int .u32 (p.x : Int)) := by rw [cell_of_row _ _ _ _ _ _ r1]; rfl
  have x1 : w1.cell? ⟨w.heap.size, 1, none⟩ = some (.int .i64 (p.n : Int)) := by rw [cell_of_row _ _ _ _ _ _ r1]; rfl
  have HG := hid (get_any p w1 (hT0.grow hb1) hp)
  have hlt0 := (Array.getElem?_eq_some_iff.1 hrow).1
  have HWA := hid hw1
  have HB0 := hid hb1
  have HS1 := hid hs1
  have R1 := hid r1
  have HT0 := hid hT0
  have HH : Hid (∀ u, Below w1.heap.size w1 u → Calls Try.prog 22 #[m.ptr, pv p, vptr 0 none] u (HangPost X u (hang t p none))) := fun u hu => by
    have hn := WF_nodes hwf
    rw [top_s, ← hmt] at hn
    rw [← hmt] at hwf ⊢
    have hbu := hb1.trans (hu.mono (by omega))
    exact hang_any p hp _ _ m _ _ u hwf (by show nodes m.tr < _; simp only [top] at hn; omega) (fun b hb => by have := hlt b hb; have := hbu.size; omega) (fun a' ha => by cases ha) (hL.below hbu)
  have HROW : Hid (w1.heap[tb]? = some (.cells #[m.ptr] 50)) := below_keeps hb1 hrow hlt0
  have HLA := hid hlt
  have HMEM := hid hmem
  have HWF := hid (hang_facts (v := none) top_ok hwf hp hp.top).1
  obtain ⟨mp, hmp⟩ := ptr_is m
  rw [hmp] at HH HROW
  unfold pv at HG ⊢
  clear hw1 hs1 hb1 r1 hrow hmt hL hwf hlt0 hlt hmem hmp hT0
  cases hlk : lookT t p with
  | none =>
    have HD : Hid (delT t p = t) := by unfold Hid delT; rw [hlk]; rfl
    rw [hlk] at HG
    simp only [getV] at HG ⊢
    clear hlk HH
    go_enter Try.func13, Try.ntmps13
    go_upto_region 1 with fail
    rw [← HWA.out]
    go_wp2_with fail
    refine HG.out.mono ?_
    rintro _ w3 ⟨rfl, hb3⟩
    have HB3 : Hid (Below w.heap.size w w3) := HB0.out.trans (hb3.mono (by have := HS1.out; omega))
    clear hb3 x0 x1
    go_wp2_with fail
    refine bodyPost_ret (v := .tuple #[.int .i64 0, .int .i64 3]) (by simp [results, Try.results13, go_sem]) rfl ⟨rfl, ?_, Chg.of_below HB3.out⟩
    rw [HD.out]; exact HT0.out.grow HB3.out
  | some v =>
    have HD : Hid (delT t p = hang t p none) := by unfold Hid delT; rw [hlk]; rfl
    rw [hlk] at HG
    rw [HD.out]
    simp only [getV] at HG ⊢
    generalize hang t p none = T at *
    clear hlk HD
    go_enter Try.func13, Try.ntmps13
    go_upto_region 1 with fail
    rw [← HWA.out]
    go_wp2_with fail
    refine HG.out.mono ?_
    rintro _ w3 ⟨rfl, hb3⟩
    have HB3 := hid hb3
    clear hb3 x0 x1
    go_upto_region 3 with fail
    have HB23 : Hid (Below w.heap.size w w3) := HB0.out.trans (HB3.out.mono (by have := HS1.out; omega))
    refine wp_region_mono' 7 (fun i => 16 + i) (FP X tb (.pointer mp) p T) (by kernel_rfl) (by kernel_rfl) (FP.keeps _ _ _ _ _) ?_ ?_
    · simp only [List.take_succ_cons, List.take_zero, N.stepsOk]
      refine ⟨?_, ?_, ?_, ?_, ?_, ?_, ?_, trivial⟩
      · intro a u vs hb hold hdep
        exact wp_val (ex_move (.tmp 0) _ rfl (hold 0 (fun j hj => low (by decide)))) ⟨_, rfl, rfl, hb, Below.refl _ _⟩
      · intro a u vs hb hold hdep
        exact wp_val (ex_move (.tmp 0) _ rfl (hold 0 (fun j hj => low (by decide)))) ⟨_, rfl, rfl, hb, Below.refl _ _⟩
      · intro a u vs hb hold hdep
        have h0 := hdep ⟨1, .data⟩ (by simp) rfl (by decide)
        exact wp_val (ex_nil ⟨tb, 0, none⟩ (.tmp 17) rfl (h0.1.trans h0.2)) ⟨_, rfl, rfl, hb, Below.refl _ _⟩
      · intro a u vs hb hold hdep
        have h0 := hdep ⟨2, .data⟩ (by simp) rfl (by decide)
        exact wp_val (ex_field _ ⟨tb, 0, none⟩ (.tmp 18) 0 _ rfl (h0.1.trans h0.2) (fld_tr u)) ⟨_, rfl, rfl, hb, Below.refl _ _⟩
      · intro a u vs hb hold hdep
        have h0 := hdep ⟨3, .data⟩ (by simp) rfl (by decide)
        refine wp_val (ex_load _ ⟨tb, 0, none⟩ (.tmp 19) _ rfl (h0.1.trans h0.2) (load_nd ?_)) ⟨_, rfl, rfl, hb, Below.refl _ _⟩
        have hlt := (Array.getElem?_eq_some_iff.1 HROW.out).1
        rw [cell_of_row _ _ _ _ _ _ (below_keeps hb (below_keeps HB3.out HROW.out hlt) (Nat.lt_of_lt_of_le hlt HB3.out.size))]; rfl
      · intro a u vs hb hold hdep
        have hlt : w.heap.size < w1.heap.size := by have := HS1.out; omega
        have hr := below_keeps hb (below_keeps HB3.out R1.out hlt) (Nat.lt_of_lt_of_le hlt HB3.out.size)
        refine wp_val (ex_load _ ⟨w.heap.size, 0, none⟩ (.tmp 3) _ rfl (hold 3 (fun j hj => low (by decide))) (load_pre (x := .int .u32 (p.x : Int)) (y := .int .i64 (p.n : Int)) ?_ ?_)) ⟨_, rfl, rfl, hb, Below.refl _ _⟩
        · rw [cell_of_row _ _ _ _ _ _ hr]; rfl
        · rw [cell_of_row _ _ _ _ _ _ hr]; rfl
      · intro a u vs hb hold hdep
        have h4 := hdep ⟨4, .data⟩ (by simp) rfl (by decide)
        have h5 := hdep ⟨5, .data⟩ (by simp) rfl (by decide)
        have e4 : a.eval (.tmp 20) = .pointer mp := h4.1.trans h4.2
        have e5 : a.eval (.tmp 21) = pv p := h5.1.trans h5.2
        have e6 : a.eval (.const (.pointer none)) = .pointer none := rfl
        refine wp_call 22 _ _ rfl (enters_of Try.func22 (by kernel_rfl) rfl) #[.pointer mp, pv p, .pointer none] (by simp only [List.map_toArray, List.map_cons, List.map_nil, e4, e5, e6]) ?_
        refine (HH.out u (HB3.out.trans (hb.mono HB3.out.size))).mono ?_
        rintro _ u' ⟨m, rfl, m1, m2, hb'⟩
        exact ⟨_, rfl, _, rfl, ⟨m, rfl, m1, m2⟩, hb.trans (hb'.mono hb.size), hb'⟩
    intro vs u hb hF
    have e0 : vs 0 = .pointer (some ⟨tb, 0, none⟩) := hF 0 (by decide)
    obtain ⟨m, e6, m1, m2⟩ := hF 6 (by decide)
    clear hF
    obtain ⟨mq, hmq⟩ := ptr_is m
    rw [hmq] at e6
    simp only [List.drop_succ_cons, List.drop_zero, puts, List.range, List.range.loop, List.foldr, Nat.reduceAdd, if_true, e0, e6, Act.put, List.setIfInBounds_toArray, List.set_cons_zero, List.set_cons_succ]
    clear e0 e6
    generalize vs 1 = q1
    generalize vs 2 = q2
    generalize vs 3 = q3
    generalize vs 4 = q4
    generalize vs 5 = q5
    have hlt := (Array.getElem?_eq_some_iff.1 HROW.out).1
    have hr := below_keeps hb (below_keeps HB3.out HROW.out hlt) (Nat.lt_of_lt_of_le hlt HB3.out.size)
    have t0 : u.cell? ⟨tb, 0, none⟩ = some (.pointer mp) := by rw [cell_of_row _ _ _ _ _ _ hr]; rfl
    have t0f : u.frozen? ⟨tb, 0, none⟩ = false := frozen_of_row _ _ _ _ _ hr
    have HR := hid hr
    have hbu := HB23.out.trans (hb.mono HB23.out.size)
    have hbt : But tb u (u.setCell ⟨tb, 0, none⟩ (.pointer mq)) := But.set _ _ _ _
    have HFIN : Hid (TrieAt (u.setCell ⟨tb, 0, none⟩ (.pointer mq)) X tb T ∧ Chg (fun b => b = tb) w (u.setCell ⟨tb, 0, none⟩ (.pointer mq))) := by
      refine ⟨⟨HMEM.out, fun b hb' => ?_, ⟨m, ?_, m1, m2.chg (Chg.of_but hbt HMEM.out)⟩, HWF.out⟩, (Chg.of_below hbu).trans (Chg.of_but hbt rfl)⟩
      · have h1 := HLA.out b hb'
        have h2 := hbu.size
        have h3 := hbt.size
        omega
      · rw [set_row hr, hmq]; rfl
    clear hlt hr hb m1 m2 hbu hbt hmq
    go_wp2_with fail
    refine bodyPost_ret (v := .tuple #[.int .i64 v, .int .i64 0]) (by simp [results, Try.results13, go_sem]) rfl ⟨rfl, HFIN.out⟩
end Go.Proofs.Ytmnafocmbcgdiab
