/-
  last of the law; the tree that is put together, and what it holds.
-/
import Derived.Test.YtmnafocmbcgdiaaVU
namespace Go.Proofs.Ytmnafocmbcgdiaa
open Go.ChangeShapes Go.WideShapes Go.ChangeAt Go.RowKit Tri N
set_option maxHeartbeats 1000000
set_option maxRecDepth 100000

/-- The last one of the first n that is p. -/
def lastTo (L : List K) (p : K) : Nat → Int
  | 0 => -1
  | n + 1 => if L[n]? = some p then (n : Int) else lastTo L p n

theorem lastTo_lt (L : List K) (p : K) (n : Nat) : lastTo L p n < (n : Int) ∧ -1 ≤ lastTo L p n := by
  induction n with
  | zero => exact ⟨by show (-1 : Int) < _; omega, by show (-1 : Int) ≤ -1; omega⟩
  | succ n ih => unfold lastTo; split <;> omega

theorem kp_at {L : List K} {j : Nat} {q : Nat × Int} (h : (L.map kp)[j]? = some q) : ∃ k, L[j]? = some k ∧ q = kp k := by
  rw [List.getElem?_map] at h
  cases hk : L[j]? with
  | none => rw [hk] at h; cases h
  | some k => rw [hk] at h; exact ⟨k, rfl, (Option.some.inj h).symm⟩

theorem last_any (v : Value) (L : List K) (p : K) (w : World) (hv : Sees w v (L.map kp)) :
    Calls Try.prog 14 #[v, pv p] w fun e w' => e = .returned (.int .i64 (lastTo L p L.length)) ∧ Below w.heap.size w w' := by
  obtain ⟨ao, n, cap, rfl, HN, hn1, hn2⟩ := hv.shape
  obtain ⟨wa, hwa⟩ : ∃ wa, wa = w.alloc (.cells #[.int .u32 (p.x : Int), .int .i64 (p.n : Int)] 32) := ⟨_, rfl⟩
  have hb0 : Below w.heap.size w wa := by rw [hwa]; exact (Below.refl _ _).alloc (Nat.le_refl _) _
  have r1 : wa.heap[w.heap.size]? = some (.cells #[.int .u32 (p.x : Int), .int .i64 (p.n : Int)] 32) := by rw [hwa]; exact heap_alloc_new w _
  have HV := hid (hv.below hb0)
  have HWA := hid hwa
  have HB0 := hid hb0
  have R1 := hid r1
  have HS : Hid (wa.heap.size = w.heap.size + 1) := by unfold Hid; rw [hwa]; simp
  have HL : Hid (n = L.length) := by have := HN.out; rw [List.length_map] at this; exact this
  rw [← HL.out]
  unfold maxLen at hn2
  unfold pv
  clear hv hwa r1 hb0 HN
  go_enter Try.func14, Try.ntmps14
  go_upto_region 1 with fail
  rw [← HWA.out]
  go_upto_region 2 with fail
  go_loopw [5] (fun i wr => ∃ (j : Nat), i = .int .i64 ((j : Int) - 1) ∧ j ≤ n ∧ Hid (lastTo L p n = lastTo L p j) ∧ Below wa.heap.size wa wr) (fun i _ => (intOf i + 1).toNat)
  case atStart => exact ⟨n, rfl, by omega, rfl, Below.refl _ _⟩
  case round =>
    obtain ⟨j, rfl, hj, HE, hb⟩ := hrel
    cases j with
    | zero =>
      have HB1 : Hid (Below w.heap.size w wr) := HB0.out.trans (hb.mono HB0.out.size)
      clear hb
      go_wp2_with fail
      go_ret
      exact ⟨ret_int (by rw [HE.out]; rfl), HB1.out⟩
    | succ j =>
      have ei : ((j + 1 : Nat) : Int) - 1 = (j : Int) := by omega
      rw [ei]
      obtain ⟨g, off, q, hao, hg, c0, c1, HP⟩ := (HV.out.below hb).at j (by omega)
      subst hao
      obtain ⟨k, hk, rfl⟩ := kp_at HP.out
      have x0 : wr.cell? ⟨w.heap.size, 0, none⟩ = some (.int .u32 (p.x : Int)) := by rw [cell_of_row _ _ _ _ _ _ (below_keeps hb R1.out (by have := HS.out; omega))]; rfl
      have x1 : wr.cell? ⟨w.heap.size, 1, none⟩ = some (.int .i64 (p.n : Int)) := by rw [cell_of_row _ _ _ _ _ _ (below_keeps hb R1.out (by have := HS.out; omega))]; rfl
      simp only [kp] at c0 c1
      have b1 : (j : Int) < (n : Int) := by omega
      have b2 : (0 : Int) ≤ (j : Int) := by omega
      have HB1 : Hid (Below w.heap.size w wr.drew) := by
        have h1 := HB0.out.trans (hb.mono HB0.out.size)
        exact ⟨h1.os, h1.tape, h1.output, h1.size, h1.block⟩
      have HB2 : Hid (Below wa.heap.size wa wr.drew) := ⟨hb.os, hb.tape, hb.output, hb.size, hb.block⟩
      by_cases he : k = p
      · have hq : ∀ u : World, (Op.equalIn 10000 32 (.agg #[.int .u32 (k.x : Int), .int .i64 (k.n : Int)]) (.agg #[.int .u32 (p.x : Int), .int .i64 (p.n : Int)])).run Try.prog u = .ok true u := fun u => by rw [eqK]; simp [he]
        have HR : Hid (lastTo L p (j + 1) = (j : Int)) := by unfold Hid lastTo; rw [hk, he, if_pos rfl]
        clear he hk hb HP
        go_upto_region 4 with fail
        refine wp_region_still_tail 5 (by kernel_rfl) (by kernel_rfl) ?_
        simp only [List.take_succ_cons, List.take_zero, List.drop_succ_cons, List.drop_zero]
        iterate 5 still_step
        refine wpStill_nil ?_
        go_wp2_with fail
        go_ret
        exact ⟨ret_int (by rw [HE.out, HR.out]), HB1.out⟩
      · have hq : ∀ u : World, (Op.equalIn 10000 32 (.agg #[.int .u32 (k.x : Int), .int .i64 (k.n : Int)]) (.agg #[.int .u32 (p.x : Int), .int .i64 (p.n : Int)])).run Try.prog u = .ok false u := fun u => by rw [eqK]; simp [he]
        have HR : Hid (lastTo L p n = lastTo L p j) := by unfold Hid; rw [HE.out]; conv => lhs; unfold lastTo; rw [hk, if_neg (fun e => he (Option.some.inj e))]
        clear he hk hb HP
        go_upto_region 4 with fail
        refine wp_region_still_tail 5 (by kernel_rfl) (by kernel_rfl) ?_
        simp only [List.take_succ_cons, List.take_zero, List.drop_succ_cons, List.drop_zero]
        iterate 5 still_step
        refine wpStill_nil ?_
        go_wp2_with fail
        go_roundw
        case rel => exact ⟨j, by rfl, by omega, HR, HB2.out⟩
        case measure => simp [intOf]

/-- The tree behind the first n puts: each with its number. -/
def built (L : List K) : Nat → Tr
  | 0 => .nil
  | n + 1 => match L[n]? with
    | none => built L n
    | some k => hang (built L n) k (some (n : Int))

theorem built_facts (L : List K) (hL : ∀ k ∈ L, k.Ok) (n : Nat) (hn : n ≤ L.length) : WF top.x (top.x + top.s) (built L n) ∧ ∀ e, e ∈ ents (built L n) ↔ (lastTo L e.1 n = e.2 ∧ e.2 ≠ -1) := by
  induction n with
  | zero =>
    refine ⟨trivial, fun e => ?_⟩
    show e ∈ ([] : List (K × Int)) ↔ (-1 = e.2 ∧ e.2 ≠ -1)
    constructor
    · intro h; cases h
    · rintro ⟨h1, h2⟩; exact absurd h1.symm h2
  | succ n ih =>
    obtain ⟨h1, h2⟩ := ih (by omega)
    have hk : L[n]? = some (L[n]'(by omega)) := List.getElem?_eq_getElem _
    have hok : (L[n]'(by omega)).Ok := hL _ (List.getElem_mem _)
    generalize L[n]'(by omega) = k at hk hok
    have e1 : built L (n + 1) = hang (built L n) k (some (n : Int)) := by
      have e0 : built L (n + 1) = match L[n]? with | none => built L n | some k => hang (built L n) k (some (n : Int)) := rfl
      rw [e0, hk]
    obtain ⟨f1, f2⟩ := hang_facts (v := some (n : Int)) top_ok h1 hok hok.top
    rw [e1]
    refine ⟨f1, fun e => ?_⟩
    rw [f2 e, h2 e]
    have e2 : lastTo L e.1 (n + 1) = if L[n]? = some e.1 then (n : Int) else lastTo L e.1 n := rfl
    rw [e2, hk]
    constructor
    · rintro (⟨a, b⟩ | ⟨a, b, c⟩)
      · rw [if_pos (by rw [a])]
        have : (n : Int) = e.2 := Option.some.inj b
        exact ⟨this, by omega⟩
      · rw [if_neg (fun h => a (Option.some.inj h).symm)]
        exact ⟨b, c⟩
    · rintro ⟨a, b⟩
      by_cases h : e.1 = k
      · rw [if_pos (by rw [h])] at a
        exact .inl ⟨h, by rw [a]⟩
      · rw [if_neg (fun g => h (Option.some.inj g).symm)] at a
        exact .inr ⟨h, a, b⟩

theorem lastTo_mem {L : List K} {p : K} {n : Nat} (h : lastTo L p n ≠ -1) : ∃ i : Nat, lastTo L p n = (i : Int) ∧ i < n ∧ L[i]? = some p := by
  induction n with
  | zero => exact absurd rfl h
  | succ n ih =>
    unfold lastTo at h ⊢
    by_cases hp : L[n]? = some p
    · rw [if_pos hp]; exact ⟨n, rfl, by omega, hp⟩
    · rw [if_neg hp] at h ⊢
      obtain ⟨i, h1, h2, h3⟩ := ih h
      exact ⟨i, h1, by omega, h3⟩

theorem lastTo_of {L : List K} {p : K} {n i : Nat} (hi : i < n) (h : L[i]? = some p) : lastTo L p n ≠ -1 := by
  induction n with
  | zero => omega
  | succ n ih =>
    unfold lastTo
    split
    · omega
    · rename_i hp
      have : i ≠ n := fun e => hp (by rw [← e]; exact h)
      exact ih (by omega)
end Go.Proofs.Ytmnafocmbcgdiaa
