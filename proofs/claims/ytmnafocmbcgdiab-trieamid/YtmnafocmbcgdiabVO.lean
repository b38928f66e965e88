/-
  trie.hang; Trie.Put.
-/
import Derived.Test.YtmnafocmbcgdiabVK
import Derived.Test.YtmnafocmbcgdiabVL
import Derived.Test.YtmnafocmbcgdiabVM
import Derived.Test.YtmnafocmbcgdiabVN
namespace Go.Proofs.Ytmnafocmbcgdiab
open Go.ChangeShapes Go.WideShapes Go.ChangeAt Go.RowKit Tri N
set_option maxHeartbeats 1000000
set_option maxRecDepth 100000

theorem hang_any {X : Nat → Prop} (p : K) (hp : p.Ok) (c : Nat) (v : Option Int) (m : MT) : ∀ (lo hi : Nat) (w : World), WF lo hi m.tr → nodes m.tr < 1152921504606846976 - 4 → (∀ b, X b → b < w.heap.size) → BoxAt w X c v → Lies w X m →
    Calls Try.prog 22 #[m.ptr, pv p, vptr c v] w (HangPost X w (hang m.tr p v)) := by
  induction m with
  | nil =>
    intro lo hi w _ _ hX hc _
    exact hang_nil p c v w hX hc
  | node b c1 k u l r il ir =>
    intro lo hi w hW hn hX hc hm
    obtain ⟨hk, _, _, hWl, hWr, _⟩ := hW
    have hn2 : nodes l.tr + nodes r.tr + 1 < 1152921504606846976 - 4 := hn
    show Calls Try.prog 22 #[.pointer (some ⟨b, 0, none⟩), pv p, vptr c v] w (HangPost X w (hang (.node k u l.tr r.tr) p v))
    rw [hang]
    by_cases e0 : k = p
    · rw [if_pos e0]
      subst e0
      exact hang_same b c1 k u l r c v w hX hc hm (by omega)
    · rw [if_neg e0]
      by_cases e1 : com p k = k
      · rw [if_pos e1]
        have hs := side_lt p.x k.n
        by_cases e2 : side p.x k.n = 0
        · rw [if_pos e2]
          exact hang_down0 b c1 k u l r p c v w hX hc hm (by omega) hk hp e0 e1 e2 (fun u' hs' hl' hc' => il _ _ u' hWl (by omega) (fun b hb => by have := hX b hb; omega) hc' hl')
        · rw [if_neg e2]
          exact hang_down1 b c1 k u l r p c v w hX hc hm (by omega) hk hp e0 e1 (by omega) (fun u' hs' hl' hc' => ir _ _ u' hWr (by omega) (fun b hb => by have := hX b hb; omega) hc' hl')
      · rw [if_neg e1]
        by_cases e2 : com p k = p
        · rw [if_pos e2]
          have hs := side_lt k.x p.n
          by_cases e3 : side k.x p.n = 0
          · rw [if_pos e3]
            exact hang_above0 b c1 k u l r p c v w hX hc hm (by omega) hk hp e0 e1 e2 (by rw [e2]; exact e3)
          · rw [if_neg e3]
            exact hang_above1 b c1 k u l r p c v w hX hc hm (by omega) hk hp e0 e1 e2 (by rw [e2]; omega)
        · rw [if_neg e2]
          rcases fork_sides hp hk e2 e1 with ⟨s1, s2⟩ | ⟨s1, s2⟩
          · rw [if_pos s1]
            exact hang_fork0 b c1 k u l r p c v w hX hc hm (by omega) hk hp e0 e1 e2 s1 s2
          · rw [if_neg (by omega)]
            exact hang_fork1 b c1 k u l r p c v w hX hc hm (by omega) hk hp e0 e1 e2 s1 s2

/-- A trie: its block, and its tree. -/
structure TrieAt (w : World) (X : Nat → Prop) (tb : Nat) (t : Tr) : Prop where
  mem : X tb
  lt : ∀ b, X b → b < w.heap.size
  tree : ∃ m : MT, w.heap[tb]? = some (.cells #[m.ptr] 50) ∧ m.tr = t ∧ Lies w X m
  wf : WF top.x (top.x + top.s) t

theorem WF_nodes {lo hi : Nat} {t : Tr} (h : WF lo hi t) : nodes t ≤ 2 * (hi - lo) - 1 := by
  induction t generalizing lo hi with
  | nil => simp [nodes]
  | node k u l r il ir =>
    obtain ⟨a, b, c, d, e, _⟩ := h
    have h1 := il d
    have h2 := ir e
    have h3 := h2_le k
    have h4 := k.s_pos
    simp only [nodes]
    omega

theorem fld_tr {b : Nat} (u : World) : (Instr.fieldAt 50 (.pointer (some ⟨b, 0, none⟩)) 0).run Try.prog u = .ok (.pointer (some ⟨b, 0, none⟩)) u := by
  simp [go_sem]

/-- Put's last region. -/
def FP (X : Nat → Prop) (tb : Nat) (mp : Value) (p : K) (t : Tr) (i : Nat) (v : Value) (u : World) : Prop :=
  match i with
  | 0 => v = .pointer (some ⟨tb, 0, none⟩)
  | 1 => v = .pointer (some ⟨tb, 0, none⟩)
  | 2 => v = .pointer (some ⟨tb, 0, none⟩)
  | 3 => v = .pointer (some ⟨tb, 0, none⟩)
  | 4 => v = mp
  | 5 => v = pv p
  | _ => ∃ m : MT, v = m.ptr ∧ m.tr = t ∧ Lies u X m

theorem FP.keeps (X : Nat → Prop) (tb : Nat) (mp : Value) (p : K) (t : Tr) : ∀ (i : Nat) (v : Value) (w w' : World), FP X tb mp p t i v w → Below w.heap.size w w' → FP X tb mp p t i v w' := fun i v w w' h hb => by
  match i with
  | 0 => exact h
  | 1 => exact h
  | 2 => exact h
  | 3 => exact h
  | 4 => exact h
  | 5 => exact h
  | n + 6 =>
    obtain ⟨m, h1, h2, h3⟩ := h
    exact ⟨m, h1, h2, h3.below hb⟩

theorem put_any {X : Nat → Prop} {tb : Nat} {t : Tr} (p : K) (a : Int) (w : World) (hT : TrieAt w X tb t) (hp : p.Ok) :
    Calls Try.prog 11 #[.pointer (some ⟨tb, 0, none⟩), pv p, .int .i64 a] w fun e w' => e = .returned (.int .i64 0) ∧ TrieAt w' X tb (hang t p (some a)) ∧ Chg (fun b => b = tb) w w' := by
  obtain ⟨hmem, hlt, ⟨m, hrow, hmt, hL⟩, hwf⟩ := hT
  obtain ⟨w1, hw1⟩ : ∃ w1, w1 = w.alloc (.cells #[.int .u32 (p.x : Int), .int .i64 (p.n : Int)] 31) := ⟨_, rfl⟩
  obtain ⟨w2, hw2⟩ : ∃ w2, w2 = w1.alloc (.cells #[.int .i64 a] 3) := ⟨_, rfl⟩
  have hs1 : w1.heap.size = w.heap.size + 1 := by rw [hw1]; simp
  have hs2 : w2.heap.size = w.heap.size + 2 := by rw [hw2]; simp; omega
  have hb1 : Below w.heap.size w w1 := by rw [hw1]; exact (Below.refl _ _).alloc (Nat.le_refl _) _
  have hb2 : Below w1.heap.size w1 w2 := by rw [hw2]; exact (Below.refl _ _).alloc (Nat.le_refl _) _
  have hb0 : Below w.heap.size w w2 := hb1.trans (hb2.mono (by omega))
  have r1 : w2.heap[w.heap.size]? = some (.cells #[.int .u32 (p.x : Int), .int .i64 (p.n : Int)] 31) := by
    rw [hb2.block _ (by omega), hw1]; exact heap_alloc_new w _
  have r2 : w2.heap[w.heap.size + 1]? = some (.cells #[.int .i64 a] 3) := by rw [hw2, ← hs1]; exact heap_alloc_new w1 _
  have x0 : w2.cell? ⟨w.heap.size, 0, none⟩ = some (.int .u32 (p.x : Int)) := by rw [cell_of_row _ _ _ _ _ _ r1]; rfl
  have x1 : w2.cell? ⟨w.heap.size, 1, none⟩ = some (.int .i64 (p.n : Int)) := by rw [cell_of_row _ _ _ _ _ _ r1]; rfl
  have HV := hid (valid_ok w2 hp)
  have HWA : Hid (w2 = (w.alloc (.cells #[.int .u32 (p.x : Int), .int .i64 (p.n : Int)] 31)).alloc (.cells #[.int .i64 a] 3)) := by unfold Hid; rw [hw2, hw1]
  have hlt0 := (Array.getElem?_eq_some_iff.1 hrow).1
  have HH : Hid (∀ u, Below w2.heap.size w2 u → Calls Try.prog 22 #[m.ptr, pv p, vptr (w.heap.size + 1) (some a)] u (HangPost X u (hang t p (some a)))) := fun u hu => by
    have hn := WF_nodes hwf
    rw [top_s, ← hmt] at hn
    rw [← hmt] at hwf ⊢
    have hbu := hb0.trans (hu.mono (by omega))
    refine hang_any p hp _ _ m _ _ u hwf (by show nodes m.tr < _; simp only [top] at hn; omega) (fun b hb => by have := hlt b hb; have := hbu.size; omega) (fun a' ha => ?_) (hL.below hbu)
    obtain rfl : a = a' := by injection ha
    exact ⟨fun hx => by have := hlt _ hx; omega, below_keeps hu r2 (by omega)⟩
  have R1 := hid r1
  have HB0 := hid hb0
  have HS2 := hid hs2
  have HROW : Hid (w2.heap[tb]? = some (.cells #[m.ptr] 50)) := below_keeps hb0 hrow hlt0
  have HLT := hid hlt0
  have HLA := hid hlt
  have HMEM := hid hmem
  have HWF := hid (hang_facts (v := some a) top_ok hwf hp hp.top).1
  obtain ⟨mp, hmp⟩ := ptr_is m
  rw [hmp] at HH HROW
  generalize hang t p (some a) = T at *
  unfold pv at HV ⊢
  clear hw1 hw2 hs1 hs2 hb1 hb2 hb0 r1 r2 hrow hmt hL hwf hlt0 hlt hmem hmp
  go_enter Try.func11, Try.ntmps11
  go_upto_region 1 with fail
  rw [← HWA.out]
  go_wp2_with fail
  refine HV.out.mono ?_
  rintro _ w3 ⟨rfl, hb3⟩
  have HB3 := hid hb3
  clear hb3 x0 x1
  go_upto_region 3 with fail
  have HB23 : Hid (Below w.heap.size w w3) := HB0.out.trans (HB3.out.mono (by have := HS2.out; omega))
  refine wp_region_mono' 7 (fun i => 10 + i) (FP X tb (.pointer mp) p T) (by kernel_rfl) (by kernel_rfl) (FP.keeps _ _ _ _ _) ?_ ?_
  · simp only [List.take_succ_cons, List.take_zero, N.stepsOk]
    refine ⟨?_, ?_, ?_, ?_, ?_, ?_, ?_, trivial⟩
    · intro a u vs hb hold hdep
      exact wp_val (ex_move (.tmp 0) _ rfl (hold 0 (fun j hj => low (by decide)))) ⟨_, rfl, rfl, hb, Below.refl _ _⟩
    · intro a u vs hb hold hdep
      exact wp_val (ex_move (.tmp 0) _ rfl (hold 0 (fun j hj => low (by decide)))) ⟨_, rfl, rfl, hb, Below.refl _ _⟩
    · intro a u vs hb hold hdep
      have h0 := hdep ⟨1, .data⟩ (by simp) rfl (by decide)
      exact wp_val (ex_nil ⟨tb, 0, none⟩ (.tmp 11) rfl (h0.1.trans h0.2)) ⟨_, rfl, rfl, hb, Below.refl _ _⟩
    · intro a u vs hb hold hdep
      have h0 := hdep ⟨2, .data⟩ (by simp) rfl (by decide)
      exact wp_val (ex_field _ ⟨tb, 0, none⟩ (.tmp 12) 0 _ rfl (h0.1.trans h0.2) (fld_tr u)) ⟨_, rfl, rfl, hb, Below.refl _ _⟩
    · intro a u vs hb hold hdep
      have h0 := hdep ⟨3, .data⟩ (by simp) rfl (by decide)
      refine wp_val (ex_load _ ⟨tb, 0, none⟩ (.tmp 13) _ rfl (h0.1.trans h0.2) (load_nd ?_)) ⟨_, rfl, rfl, hb, Below.refl _ _⟩
      have hlt := (Array.getElem?_eq_some_iff.1 HROW.out).1
      rw [cell_of_row _ _ _ _ _ _ (below_keeps hb (below_keeps HB3.out HROW.out hlt) (Nat.lt_of_lt_of_le hlt HB3.out.size))]; rfl
    · intro a u vs hb hold hdep
      have hlt : w.heap.size < w2.heap.size := by have := HS2.out; omega
      have hr := below_keeps hb (below_keeps HB3.out R1.out hlt) (Nat.lt_of_lt_of_le hlt HB3.out.size)
      refine wp_val (ex_load _ ⟨w.heap.size, 0, none⟩ (.tmp 4) _ rfl (hold 4 (fun j hj => low (by decide))) (load_pre (x := .int .u32 (p.x : Int)) (y := .int .i64 (p.n : Int)) ?_ ?_)) ⟨_, rfl, rfl, hb, Below.refl _ _⟩
      · rw [cell_of_row _ _ _ _ _ _ hr]; rfl
      · rw [cell_of_row _ _ _ _ _ _ hr]; rfl
    · intro a u vs hb hold hdep
      have h4 := hdep ⟨4, .data⟩ (by simp) rfl (by decide)
      have h5 := hdep ⟨5, .data⟩ (by simp) rfl (by decide)
      have e4 : a.eval (.tmp 14) = .pointer mp := h4.1.trans h4.2
      have e5 : a.eval (.tmp 15) = pv p := h5.1.trans h5.2
      have e6 : a.eval (.tmp 5) = .pointer (some ⟨w.heap.size + 1, 0, none⟩) := hold 5 (fun j hj => low (by decide))
      refine wp_call 22 _ _ rfl (enters_of Try.func22 (by kernel_rfl) rfl) #[.pointer mp, pv p, .pointer (some ⟨w.heap.size + 1, 0, none⟩)] (by simp only [List.map_toArray, List.map_cons, List.map_nil, e4, e5, e6]) ?_
      refine (HH.out u (HB3.out.trans (hb.mono HB3.out.size))).mono ?_
      rintro _ u' ⟨m, rfl, m1, m2, hb'⟩
      exact ⟨_, rfl, _, rfl, ⟨m, rfl, m1, m2⟩, hb.trans (hb'.mono hb.size), hb'⟩
  intro vs u hb hF
  have e0 : vs 0 = .pointer (some ⟨tb, 0, none⟩) := hF 0 (by decide)
  obtain ⟨m, e6, m1, m2⟩ := hF 6 (by decide)
  clear hF
  obtain ⟨mq, hmq⟩ := ptr_is m
  rw [hmq] at e6
  simp only [List.drop_succ_cons, List.drop_zero, puts, List.range, List.range.loop, List.foldr, Nat.reduceAdd, if_true, e0, e6, Act.put, List.setIfInBounds_toArray, List.set_cons_zero, List.set_cons_succ]
  clear e0 e6
  generalize vs 1 = q1
  generalize vs 2 = q2
  generalize vs 3 = q3
  generalize vs 4 = q4
  generalize vs 5 = q5
  have hlt := (Array.getElem?_eq_some_iff.1 HROW.out).1
  have hr := below_keeps hb (below_keeps HB3.out HROW.out hlt) (Nat.lt_of_lt_of_le hlt HB3.out.size)
  have t0 : u.cell? ⟨tb, 0, none⟩ = some (.pointer mp) := by rw [cell_of_row _ _ _ _ _ _ hr]; rfl
  have t0f : u.frozen? ⟨tb, 0, none⟩ = false := frozen_of_row _ _ _ _ _ hr
  have HR := hid hr
  have hbu := HB23.out.trans (hb.mono HB23.out.size)
  have hbt : But tb u (u.setCell ⟨tb, 0, none⟩ (.pointer mq)) := But.set _ _ _ _
  have HFIN : Hid (TrieAt (u.setCell ⟨tb, 0, none⟩ (.pointer mq)) X tb T ∧ Chg (fun b => b = tb) w (u.setCell ⟨tb, 0, none⟩ (.pointer mq))) := by
    refine ⟨⟨HMEM.out, fun b hb' => ?_, ⟨m, ?_, m1, m2.chg (Chg.of_but hbt HMEM.out)⟩, HWF.out⟩, (Chg.of_below hbu).trans (Chg.of_but hbt rfl)⟩
    · have h1 := HLA.out b hb'
      have h2 := hbu.size
      have h3 := hbt.size
      omega
    · rw [set_row hr, hmq]; rfl
  clear hlt hr hb m1 m2 hbu hbt hmq
  go_wp2_with fail
  go_ret
  exact ⟨rfl, HFIN.out⟩
end Go.Proofs.Ytmnafocmbcgdiab
