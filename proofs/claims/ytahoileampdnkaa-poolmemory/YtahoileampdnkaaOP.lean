/-
  A pool in memory; number, subnet, aligned.
-/
import Derived.Test.YtahoileampdnkaaOO
namespace Go.Proofs.Ytahoileampdnkaa
open Go.ChangeShapes Go.WideShapes Go.ChangeAt Go.RowKit Ru N Tri
set_option maxHeartbeats 1000000
set_option maxRecDepth 100000

theorem Ru.Runs.len {rs : List R} (h : Runs rs) : rs.length ≤ 4294967296 := by
  have : ∀ i (hi : i < rs.length), i ≤ rs[i].2 := by
    intro i
    induction i with
    | zero => intro _; omega
    | succ i ih =>
      intro hi
      have h1 := ih (by omega)
      have h2 := h.rise (show i < i + 1 by omega) hi
      omega
  rcases Nat.lt_or_ge 4294967296 rs.length with h1 | h1
  · have h2 := this 4294967296 h1
    have h3 := (h.ok _ (List.getElem_mem h1)).2
    omega
  · exact h1

/-- The address of the number n, and the number of an address. -/
def adr (sub n : Nat) : Nat := n * 2 ^ (32 - sub)
def num (sub x : Nat) : Nat := x / 2 ^ (32 - sub)

def pcells (sub lo hi : Nat) (vk vt : Value) : Array Value := #[.int .i64 (sub : Int), .int .i64 (lo : Int), .int .i64 (hi : Int), vk, vt]

/-- A pool. -/
structure PoolAt (w : World) (pb : Nat) (vk vt : Value) (sub lo hi : Nat) (ks ts : List R) : Prop where
  row : w.heap[pb]? = some (.cells (pcells sub lo hi vk vt) 68 (0, 0))
  ok : OwnR w 0 vk ks
  ot : OwnR w 0 vt ts
  rk : Runs ks
  rt : Runs ts
  ap : vk.ownBlock = none ∨ vk.ownBlock ≠ vt.ownBlock
  hs : sub ≤ 32
  hh : hi < 4294967296
  lh : lo ≤ hi
  ah : adr sub hi < 4294967296
  ak : ∀ n, Mem ks n → adr sub n < 4294967296
  av : ∀ n, Mem ts n → adr sub n < 4294967296

theorem PoolAt.below {w w' : World} {pb sub lo hi : Nat} {vk vt : Value} {ks ts : List R} (h : PoolAt w pb vk vt sub lo hi ks ts) (hb : Below w.heap.size w w') : PoolAt w' pb vk vt sub lo hi ks ts :=
  ⟨below_keeps hb h.row (Array.getElem?_eq_some_iff.1 h.row).1, h.ok.below hb, h.ot.below hb, h.rk, h.rt, h.ap, h.hs, h.hh, h.lh, h.ah, h.ak, h.av⟩

theorem PoolAt.cells {w : World} {pb sub lo hi : Nat} {vk vt : Value} {ks ts : List R} (h : PoolAt w pb vk vt sub lo hi ks ts) : ∀ u : World, Below w.heap.size w u → u.cell? ⟨pb, 0, none⟩ = some (.int .i64 (sub : Int)) ∧ u.cell? ⟨pb, 1, none⟩ = some (.int .i64 (lo : Int)) ∧ u.cell? ⟨pb, 2, none⟩ = some (.int .i64 (hi : Int)) ∧ u.cell? ⟨pb, 3, none⟩ = some vk ∧ u.cell? ⟨pb, 4, none⟩ = some vt := by
  intro u hu
  have hr := (h.below hu).row
  refine ⟨?_, ?_, ?_, ?_, ?_⟩ <;> (rw [cell_of_row _ _ _ _ _ _ hr]; rfl)

theorem num_lt {sub x : Nat} (hx : x < 4294967296) : num sub x < 4294967296 := Nat.lt_of_le_of_lt (Nat.div_le_self _ _) hx

theorem number_any (pb x sub : Nat) (w : World) (hx : x < 4294967296) (hs : sub ≤ 32) (c0 : w.cell? ⟨pb, 0, none⟩ = some (.int .i64 (sub : Int))) :
    Calls Try.prog 28 #[.pointer (some ⟨pb, 0, none⟩), .int .u32 (x : Int)] w fun e w' => e = .returned (.int .i64 ((num sub x : Nat) : Int)) ∧ w' = w := by
  have HE : Hid (((x : Int) / 2 ^ (32 - sub)) = ((num sub x : Nat) : Int)) := by unfold Hid num; simp
  have hl := num_lt (sub := sub) hx
  have h1 : ¬ ((32 : Int) - (sub : Int) < 0) := by omega
  have HT : Hid ((32 - (sub : Int)).toNat = 32 - sub) := by unfold Hid; omega
  generalize num sub x = m at *
  go_enter Try.func28, Try.ntmps28
  go_wp2_with fail
  go_ret
  refine ⟨ret_int ?_, rfl⟩
  rw [HE.out]
  unfold wrap64
  omega

theorem set_two {w : World} {b : Nat} {x y a c : Value} {t : TypeId} (h : w.heap[b]? = some (.cells #[x, y] t (0, 0))) : ((w.setCell ⟨b, 0, none⟩ a).setCell ⟨b, 1, none⟩ c).heap[b]? = some (.cells #[a, c] t (0, 0)) := by
  have h1 := set_cells (i := 1) (v := c) (set_cells (i := 0) (v := a) h)
  simpa using h1

theorem subnet_any (pb n sub : Nat) (w : World) (hn : adr sub n < 4294967296) (hs : sub ≤ 32) (c0 : w.cell? ⟨pb, 0, none⟩ = some (.int .i64 (sub : Int))) :
    Calls Try.prog 34 #[.pointer (some ⟨pb, 0, none⟩), .int .i64 (n : Int)] w fun e w' => e = .returned (.agg #[.int .u32 ((adr sub n : Nat) : Int), .int .i64 (sub : Int)]) ∧ Below w.heap.size w w' := by
  have hpl := World.block_lt_of_cell? w _ c0
  have hnl : n < 4294967296 := by
    have h1 : 0 < 2 ^ (32 - sub) := Nat.pow_pos (by omega)
    have h2 : n * 1 ≤ adr sub n := Nat.mul_le_mul_left n h1
    omega
  have HE : Hid (((n : Int) * 2 ^ (32 - sub)) % 4294967296 = ((adr sub n : Nat) : Int)) := by
    unfold Hid
    have e : ((n : Int) * 2 ^ (32 - sub)) = ((adr sub n : Nat) : Int) := by unfold adr; simp
    rw [e]
    omega
  obtain ⟨c, HC⟩ : ∃ c, Hid (c = 32 - sub) := ⟨_, rfl⟩
  have hw1 : IntKind.i64.wrap (32 - (sub : Int)) = (c : Int) := by rw [IntKind.wrap_i64, HC.out]; omega
  have hw2 : IntKind.u32.wrap (n : Int) = (n : Int) := by simp [IntKind.wrap, IntKind.bits, IntKind.signed]; omega
  have hsh : Op.shift .shl .u32 (n : Int) .i64 (c : Int) = pure (.int .u32 ((adr sub n : Nat) : Int)) := by
    rw [shift_shl_any _ _ _ _ (by omega)]
    have e2 : min (c : Int).toNat IntKind.u32.bits = 32 - sub := by
      rw [Int.toNat_natCast, HC.out]; simp [IntKind.bits]
    rw [e2, ← HE.out]
    simp [IntKind.wrap, IntKind.bits, IntKind.signed]
  generalize adr sub n = m at *
  obtain ⟨wa, HWA⟩ : ∃ wa, Hid (wa = w.alloc (.cells #[.int .u32 0, .int .i64 0] 25)) := ⟨_, rfl⟩
  have r1 : wa.heap[w.heap.size]? = some (.cells #[.int .u32 0, .int .i64 0] 25) := by rw [HWA.out]; exact heap_alloc_new w _
  have hb0 : Below w.heap.size w wa := by rw [HWA.out]; exact (Below.refl _ _).alloc (Nat.le_refl _) _
  have d0 : wa.cell? ⟨pb, 0, none⟩ = some (.int .i64 (sub : Int)) := by rw [hb0.cell hpl]; exact c0
  have d1 : wa.cell? ⟨w.heap.size, 0, none⟩ = some (.int .u32 0) := by rw [cell_of_row _ _ _ _ _ _ r1]; rfl
  have d2 : wa.cell? ⟨w.heap.size, 1, none⟩ = some (.int .i64 0) := by rw [cell_of_row _ _ _ _ _ _ r1]; rfl
  have f1 : wa.frozen? ⟨w.heap.size, 0, none⟩ = false := frozen_of_row _ _ _ _ _ r1
  have f2 : wa.frozen? ⟨w.heap.size, 1, none⟩ = false := frozen_of_row _ _ _ _ _ r1
  have R1 := hid r1
  have HB0 := hid hb0
  clear c0 r1 hb0 hn
  go_enter Try.func34, Try.ntmps34
  go_upto_region 1 with fail
  rw [← HWA.out]
  refine wp_region_still_tail 13 (by kernel_rfl) (by kernel_rfl) ?_
  simp only [List.take_succ_cons, List.take_zero, List.drop_succ_cons, List.drop_zero]
  iterate 13 still_step
  refine wpStill_nil ?_
  clear hw1 hw2 hsh
  go_wp2_with fail
  have r4 : (((wa.setCell ⟨w.heap.size, 0, none⟩ (.int .u32 (m : Int))).setCell ⟨w.heap.size, 1, none⟩ (.int .i64 (sub : Int))).drew).heap[w.heap.size]? = some (.cells #[.int .u32 (m : Int), .int .i64 (sub : Int)] 25 (0, 0)) := set_two R1.out
  have HB4 : Hid (Below w.heap.size w (((wa.setCell ⟨w.heap.size, 0, none⟩ (.int .u32 (m : Int))).setCell ⟨w.heap.size, 1, none⟩ (.int .i64 (sub : Int))).drew)) := by
    have h1 := (HB0.out.setCell (p := ⟨w.heap.size, 0, none⟩) (Nat.le_refl _) (.int .u32 (m : Int))).setCell (p := ⟨w.heap.size, 1, none⟩) (Nat.le_refl _) (.int .i64 (sub : Int))
    exact ⟨h1.os, h1.tape, h1.output, h1.size, h1.block⟩
  generalize (((wa.setCell ⟨w.heap.size, 0, none⟩ (.int .u32 (m : Int))).setCell ⟨w.heap.size, 1, none⟩ (.int .i64 (sub : Int))).drew) = W at *
  have g0 : W.cell? ⟨w.heap.size, 0, none⟩ = some (.int .u32 (m : Int)) := by rw [cell_of_row _ _ _ _ _ _ r4]; rfl
  have g1 : W.cell? ⟨w.heap.size, 1, none⟩ = some (.int .i64 (sub : Int)) := by rw [cell_of_row _ _ _ _ _ _ r4]; rfl
  refine bodyPost_ret (v := .agg #[.int .u32 (m : Int), .int .i64 (sub : Int)]) (by simp [results, Try.results34, go_sem, g0, g1]) rfl ⟨rfl, HB4.out⟩

theorem wp_region_beh {P : Program} {id : Nat} {Q : Exit → Act → World → Prop} {a : Act} {w : World} {l : List Oper} (hm : P.follows .mixedOrders = true) (hB : Region.lexB .any l.toArray = true)
    (h : wpQuiet P l.toArray (fun w' => ∃ u : Beh w, w' = u.wd) (fun a' => ∀ w', (∃ u : Beh w, w' = u.wd) → Q .normal a' w') l a) : (Code.region id l.toArray true).wp P Q a w :=
  wp_region_quiet (C := fun w' => ∃ u : Beh w, w' = u.wd) hm hB ⟨⟨_, below_drewN (Below.refl _ _) 1⟩, rfl⟩ (by simpa using h)

/-- Is it a prefix of the length? -/
def alg (sub x : Nat) (y : Int) : Bool := decide (y = (sub : Int) ∧ x % 2 ^ (32 - sub) = 0)

theorem aligned_any (pb x sub : Nat) (y : Int) (w : World) (hx : x < 4294967296) (hs : sub ≤ 32) (c0 : ∀ u : World, Below w.heap.size w u → u.cell? ⟨pb, 0, none⟩ = some (.int .i64 (sub : Int))) :
    Calls Try.prog 27 #[.pointer (some ⟨pb, 0, none⟩), .agg #[.int .u32 (x : Int), .int .i64 y]] w fun e w' => e = .returned (.bool (alg sub x y)) ∧ Below w.heap.size w w' := by
  obtain ⟨wa, HWA⟩ : ∃ wa, Hid (wa = w.alloc (.cells #[.int .u32 (x : Int), .int .i64 y] 25)) := ⟨_, rfl⟩
  have hb0 : Below w.heap.size w wa := by rw [HWA.out]; exact (Below.refl _ _).alloc (Nat.le_refl _) _
  have r1 : wa.heap[w.heap.size]? = some (.cells #[.int .u32 (x : Int), .int .i64 y] 25) := by rw [HWA.out]; exact heap_alloc_new w _
  obtain ⟨q0, q1⟩ := Beh.two r1
  have q2 : ∀ u : Beh wa, u.wd.cell? ⟨pb, 0, none⟩ = some (.int .i64 (sub : Int)) := fun u => c0 _ (hb0.trans (u.ok.mono hb0.size))
  have HB0 := hid hb0
  clear c0 r1 hb0
  by_cases hy : y = (sub : Int)
  · subst hy
    have HV : ∃ b : Bool, Hid (alg sub x (sub : Int) = b) ∧ ∀ t : Beh wa, Hid (Calls Try.prog 47 #[.agg #[.int .u32 (x : Int), .int .i64 (sub : Int)]] t.wd fun e w'' => e = .returned (.bool b) ∧ ∃ t' : Beh wa, w'' = t'.wd) := by
      by_cases h0 : x % 2 ^ (32 - sub) = 0
      · refine ⟨true, ?_, fun t => Calls.beh (valid_ok (k := ⟨x, sub⟩) _ ⟨hs, Nat.dvd_of_mod_eq_zero h0, hx⟩)⟩
        unfold Hid alg; simp [h0]
      · refine ⟨false, ?_, fun t => Calls.beh (valid_bad _ hx (.inr (.inr ?_)))⟩
        · unfold Hid alg; simp [h0]
        · rw [Int.toNat_natCast]; exact h0
    obtain ⟨b, HE, HC⟩ := HV
    go_enter Try.func27, Try.ntmps27
    go_upto_region 1 with fail
    rw [← HWA.out]
    refine wp_region_beh (by kernel_rfl) (by kernel_rfl) ?_
    repeat (go_big_quiet_step (first | (go_at_call 47; exact (HC _).out)))
    refine wpQuiet_nil ?_
    rintro _ ⟨t, rfl⟩
    go_wp2_with fail
    go_ret
    exact ⟨ret_bool HE.out.symm, HB0.out.trans (t.ok.mono HB0.out.size)⟩
  · have HE : Hid (alg sub x y = false) := by unfold Hid alg; simp [hy]
    have hy2 : (y == (sub : Int)) = false := by simp [hy]
    go_enter Try.func27, Try.ntmps27
    go_upto_region 1 with fail
    rw [← HWA.out]
    refine wp_region_beh (by kernel_rfl) (by kernel_rfl) ?_
    repeat (go_big_quiet_step (fail))
    refine wpQuiet_nil ?_
    rintro _ ⟨t, rfl⟩
    go_wp2_with fail
    go_ret
    exact ⟨ret_bool HE.out.symm, HB0.out.trans (t.ok.mono HB0.out.size)⟩
end Go.Proofs.Ytahoileampdnkaa
