import Derived.Test.YtpdnnikkaojnkaaGreatYLC
namespace Go.Proofs.YtpdnnikkaojnkaaGreat.Rt
open Go.Proofs.YtpdnnikkaojnkaaGreat Go.ChangeShapes Go.WideShapes Go.ChangeAt Go.RowKit Go.Maps Tri N
set_option maxHeartbeats 4000000
set_option maxRecDepth 100000
def cpL : List Nat → List Nat → Int
  | x :: l, y :: m => if x = y then cpL l m else (x : Int) - (y : Int)
  | _, _ => 0
def cpM (a b : Mc) : Int := cpL a.L b.L
theorem cpL_zero : ∀ {l m : List Nat}, l.length = m.length → (cpL l m = 0 ↔ l = m)
  | [], [], _ => by simp [cpL]
  | [], _ :: _, h => by simp at h
  | _ :: _, [], h => by simp at h
  | x :: l, y :: m, h => by
    unfold cpL
    split
    · rename_i e
      rw [cpL_zero (by simpa using h), e]
      simp
    · rename_i e
      constructor
      · intro h'; exact absurd (by omega) e
      · intro h'; exact absurd (List.cons.inj h').1 e
theorem wtL_lt9 : ∀ {l : List Nat}, (∀ x ∈ l, x < 256) → wtL l < 256 ^ l.length
  | [], _ => by simp [wtL]
  | x :: l, h => by
    have h1 := wtL_lt9 (l := l) fun y hy => h y (List.mem_cons_of_mem _ hy)
    have h2 := h x List.mem_cons_self
    unfold wtL
    rw [List.length_cons, Nat.pow_succ]
    have : x * 256 ^ l.length ≤ 255 * 256 ^ l.length := Nat.mul_le_mul_right _ (by omega)
    omega
theorem cpL_neg : ∀ {l m : List Nat}, l.length = m.length → (∀ x ∈ l, x < 256) → (∀ x ∈ m, x < 256) → (cpL l m < 0 ↔ wtL l < wtL m)
  | [], [], _, _, _ => by simp [cpL, wtL]
  | [], _ :: _, h, _, _ => by simp at h
  | _ :: _, [], h, _, _ => by simp at h
  | x :: l, y :: m, h, hl, hm => by
    have hlen : l.length = m.length := by simpa using h
    have h1 := wtL_lt9 (l := l) fun z hz => hl z (List.mem_cons_of_mem _ hz)
    have h2 := wtL_lt9 (l := m) fun z hz => hm z (List.mem_cons_of_mem _ hz)
    unfold cpL
    split
    · rename_i e
      rw [cpL_neg hlen (fun z hz => hl z (List.mem_cons_of_mem _ hz)) (fun z hz => hm z (List.mem_cons_of_mem _ hz))]
      simp only [wtL]
      rw [e, hlen]
      omega
    · rename_i e
      unfold wtL
      rw [hlen] at h1 ⊢
      generalize 256 ^ m.length = q at *
      rcases Nat.lt_trichotomy x y with h' | h' | h'
      · have : (x + 1) * q ≤ y * q := Nat.mul_le_mul_right _ h'
        rw [Nat.add_mul] at this
        omega
      · exact absurd h' e
      · have : (y + 1) * q ≤ x * q := Nat.mul_le_mul_right _ h'
        rw [Nat.add_mul] at this
        omega
theorem Mc.L_inj {a b : Mc} (h : a.L = b.L) : a = b := by
  cases a; cases b
  simp [Mc.L] at h
  simp [h]
theorem cpM_zero {a b : Mc} : cpM a b = 0 ↔ a = b := by
  unfold cpM
  rw [cpL_zero (by rfl)]
  exact ⟨Mc.L_inj, fun e => by rw [e]⟩
theorem cpM_neg {a b : Mc} (ha : a.Ok) (hb : b.Ok) : cpM a b < 0 ↔ a.num < b.num := cpL_neg rfl ha hb
def Mc.cells (m : Mc) : Array Value := #[.int .u8 (m.b0 : Int), .int .u8 (m.b1 : Int), .int .u8 (m.b2 : Int), .int .u8 (m.b3 : Int), .int .u8 (m.b4 : Int), .int .u8 (m.b5 : Int)]
theorem Mc.cells_at {m : Mc} {j x : Nat} (h : m.L[j]? = some x) : m.cells[j]? = some (.int .u8 (x : Int)) := by
  match j, h with
  | 0, h => cases h; rfl
  | 1, h => cases h; rfl
  | 2, h => cases h; rfl
  | 3, h => cases h; rfl
  | 4, h => cases h; rfl
  | 5, h => cases h; rfl
  | j + 6, h => cases h
theorem compare9 (a b : Mc) (w : World) (ha : a.Ok) (hb : b.Ok) :
    Calls Tryz.prog 69 #[.agg #[.int .u8 (a.b0 : Int), .int .u8 (a.b1 : Int), .int .u8 (a.b2 : Int), .int .u8 (a.b3 : Int), .int .u8 (a.b4 : Int), .int .u8 (a.b5 : Int)], .agg #[.int .u8 (b.b0 : Int), .int .u8 (b.b1 : Int), .int .u8 (b.b2 : Int), .int .u8 (b.b3 : Int), .int .u8 (b.b4 : Int), .int .u8 (b.b5 : Int)]] w fun e w' => e = .returned (.int .i64 (cpM a b)) ∧ Below w.heap.size w w' := by
  obtain ⟨w1, hw1⟩ : ∃ w1, w1 = w.alloc (.cells a.cells 40) := ⟨_, rfl⟩
  obtain ⟨w2, hw2⟩ : ∃ w2, w2 = w1.alloc (.cells b.cells 40) := ⟨_, rfl⟩
  have hb1 : Below w.heap.size w w1 := by rw [hw1]; exact (Below.refl _ _).alloc (Nat.le_refl _) _
  have hb2 : Below w1.heap.size w1 w2 := by rw [hw2]; exact (Below.refl _ _).alloc (Nat.le_refl _) _
  have hs1 : w1.heap.size = w.heap.size + 1 := by rw [hw1]; simp
  have r1 : w1.heap[w.heap.size]? = some (.cells a.cells 40) := by rw [hw1]; exact heap_alloc_new w _
  have r2 : w2.heap[w.heap.size + 1]? = some (.cells b.cells 40) := by rw [hw2, ← hs1]; exact heap_alloc_new w1 _
  have r3 : w2.heap[w.heap.size]? = some (.cells a.cells 40) := below_keeps hb2 r1 (by omega)
  have HB : Hid (Below w.heap.size w w2) := hb1.trans (hb2.mono (by omega))
  have HW2 : Hid (w2 = (w.alloc (.cells #[.int .u8 (a.b0 : Int), .int .u8 (a.b1 : Int), .int .u8 (a.b2 : Int), .int .u8 (a.b3 : Int), .int .u8 (a.b4 : Int), .int .u8 (a.b5 : Int)] 40)).alloc (.cells #[.int .u8 (b.b0 : Int), .int .u8 (b.b1 : Int), .int .u8 (b.b2 : Int), .int .u8 (b.b3 : Int), .int .u8 (b.b4 : Int), .int .u8 (b.b5 : Int)] 40)) := by unfold Hid; rw [hw2, hw1]; rfl
  have HA : Hid (∀ (j x : Nat) (t : Beh w2), a.L[j]? = some x → t.wd.cell? ⟨w.heap.size, j, none⟩ = some (.int .u8 (x : Int))) := fun j x t hj => by
    rw [cell_of_row _ _ _ _ _ _ (below_keeps t.ok r3 (Array.getElem?_eq_some_iff.1 r3).1)]
    exact Mc.cells_at hj
  have HBB : Hid (∀ (j x : Nat) (t : Beh w2), b.L[j]? = some x → t.wd.cell? ⟨w.heap.size + 1, j, none⟩ = some (.int .u8 (x : Int))) := fun j x t hj => by
    rw [cell_of_row _ _ _ _ _ _ (below_keeps t.ok r2 (Array.getElem?_eq_some_iff.1 r2).1)]
    exact Mc.cells_at hj
  obtain ⟨P, HP⟩ : ∃ P, Hid (P = cpL a.L b.L) := ⟨_, rfl⟩
  have HOA : Hid (∀ x ∈ a.L, x < 256) := ha
  have HOB : Hid (∀ x ∈ b.L, x < 256) := hb
  unfold cpM
  rw [← HP.out]
  have HLA : Hid (a.L.length = 6) := rfl
  have HLB : Hid (b.L.length = 6) := rfl
  clear hw1 hw2 hb1 hb2 hs1 r1 r2 r3 ha hb
  go_enter Tryz.func69, Tryz.ntmps69
  go_upto_region 1 with fail
  rw [← HW2.out]
  clear HW2
  generalize a.L = LA at *
  generalize b.L = LB at *
  go_upto_region 2 with fail
  go_loopw [5] (fun i wr => ∃ (j : Nat) (t : Beh w2), i = .int .i64 (j : Int) ∧ j ≤ 6 ∧ Hid (P = cpL (LA.drop j) (LB.drop j)) ∧ wr = t.wd) (fun i _ => 6 - (intOf i).toNat)
  case atStart => exact ⟨0, ⟨w2, Below.refl _ _⟩, rfl, Nat.zero_le _, HP.out, rfl⟩
  case round =>
    obtain ⟨j, t, rfl, hj, HI, rfl⟩ := hrel
    by_cases hlt : j < 6
    · have hlt' : (j : Int) < 6 := by omega
      have hj0 : decide ((j : Int) < 0) = false := by simp
      have hj1 : (0 : Int) ≤ (j : Int) := by omega
      obtain ⟨x, HX⟩ : ∃ x, Hid (LA[j]? = some x) := ⟨_, hid (List.getElem?_eq_getElem (by rw [HLA.out]; exact hlt))⟩
      obtain ⟨y, HY⟩ : ∃ y, Hid (LB[j]? = some y) := ⟨_, hid (List.getElem?_eq_getElem (by rw [HLB.out]; exact hlt))⟩
      have hx : x < 256 := HOA.out x (List.mem_of_getElem? HX.out)
      have hy : y < 256 := HOB.out y (List.mem_of_getElem? HY.out)
      have k1 : ∀ t2 : Beh t.wd, t2.wd.cell? ⟨w.heap.size, j, none⟩ = some (.int .u8 (x : Int)) := fun t2 => HA.out j x ⟨t2.wd, t.ok.trans (t2.ok.mono t.ok.size)⟩ HX.out
      have k2 : ∀ t2 : Beh t.wd, t2.wd.cell? ⟨w.heap.size + 1, j, none⟩ = some (.int .u8 (y : Int)) := fun t2 => HBB.out j y ⟨t2.wd, t.ok.trans (t2.ok.mono t.ok.size)⟩ HY.out
      have HDA : Hid (LA.drop j = x :: LA.drop (j + 1)) := by
        obtain ⟨h1, h2⟩ := List.getElem?_eq_some_iff.1 HX.out
        unfold Hid; rw [List.drop_eq_getElem_cons h1, h2]
      have HDB : Hid (LB.drop j = y :: LB.drop (j + 1)) := by
        obtain ⟨h1, h2⟩ := List.getElem?_eq_some_iff.1 HY.out
        unfold Hid; rw [List.drop_eq_getElem_cons h1, h2]
      have HI1 : Hid (P = if x = y then cpL (LA.drop (j + 1)) (LB.drop (j + 1)) else (x : Int) - (y : Int)) := by
        unfold Hid; rw [HI.out, HDA.out, HDB.out]; rfl
      by_cases hxy : x = y
      · have hxy' : (x : Int) = (y : Int) := by omega
        have HI2 : Hid (P = cpL (LA.drop (j + 1)) (LB.drop (j + 1))) := by unfold Hid; rw [HI1.out, if_pos hxy]
        clear hxy HI1 HI
        go_upto_region 4 with fail
        refine wp_region_beh (by kernel_rfl) (by kernel_rfl) ?_
        repeat (go_big_quiet_step (fail))
        refine wpQuiet_nil ?_
        rintro _ ⟨t2, rfl⟩
        clear k1 k2
        go_wp2_with fail
        go_roundw
        case rel => exact ⟨j + 1, ⟨t2.wd, t.ok.trans (t2.ok.mono t.ok.size)⟩, by go_num, hlt, HI2, rfl⟩
        case measure => simp [intOf]; omega
      · have hxy' : ¬ (x : Int) = (y : Int) := by omega
        have HI2 : Hid (P = (x : Int) - (y : Int)) := by unfold Hid; rw [HI1.out, if_neg hxy]
        have hwr : IntKind.i64.wrap ((x : Int) - (y : Int)) = (x : Int) - (y : Int) := by rw [IntKind.wrap_i64]; omega
        clear hxy HI1 HI
        go_upto_region 4 with fail
        refine wp_region_beh (by kernel_rfl) (by kernel_rfl) ?_
        repeat (go_big_quiet_step (fail))
        refine wpQuiet_nil ?_
        rintro _ ⟨t2, rfl⟩
        have k3 : ∀ t3 : Beh t2.wd, t3.wd.cell? ⟨w.heap.size, j, none⟩ = some (.int .u8 (x : Int)) := fun t3 => k1 ⟨t3.wd, t2.ok.trans (t3.ok.mono t2.ok.size)⟩
        have k4 : ∀ t3 : Beh t2.wd, t3.wd.cell? ⟨w.heap.size + 1, j, none⟩ = some (.int .u8 (y : Int)) := fun t3 => k2 ⟨t3.wd, t2.ok.trans (t3.ok.mono t2.ok.size)⟩
        clear k1 k2
        go_upto_region 5 with fail
        refine wp_region_beh (by kernel_rfl) (by kernel_rfl) ?_
        repeat (go_big_quiet_step (fail))
        refine wpQuiet_nil ?_
        rintro _ ⟨t3, rfl⟩
        clear k3 k4
        go_wp2_with fail
        go_ret
        exact ⟨ret_int HI2.out.symm, HB.out.trans ((t.ok.trans ((t2.ok.trans (t3.ok.mono t2.ok.size)).mono t.ok.size)).mono HB.out.size)⟩
    · have hlt' : ¬ (j : Int) < 6 := by omega
      have HE : Hid (P = 0) := by
        have e1 : LA.drop j = [] := List.drop_eq_nil_of_le (by rw [HLA.out]; omega)
        unfold Hid; rw [HI.out, e1]; rfl
      have HT : Hid (Below w.heap.size w t.wd) := HB.out.trans (t.ok.mono HB.out.size)
      go_wp2_with fail
      go_ret
      exact ⟨ret_int HE.out.symm, HT.out⟩
def ahB (a b : Vt) : Bool := if a.x = b.x then decide (a.n < b.n) else decide (a.x < b.x)
theorem ahB_num {a b : Vt} (ha : a.Ok) (hb : b.Ok) : ahB a b = decide (a.num < b.num) := by
  unfold ahB
  rw [Bool.eq_iff_iff, decide_eq_true_eq, Vt_num_lt ha hb]
  split
  · rw [decide_eq_true_eq]; omega
  · rw [decide_eq_true_eq]; omega
theorem ahead9 (a b : Vt) (w : World) :
    Calls Tryz.prog 68 #[.agg #[.int .u32 (a.x : Int), .int .i64 a.n, .int .u32 (a.via : Int), .bool a.loc], .agg #[.int .u32 (b.x : Int), .int .i64 b.n, .int .u32 (b.via : Int), .bool b.loc]] w fun e w' => e = .returned (.bool (ahB a b)) ∧ Below w.heap.size w w' := by
  obtain ⟨w2, HW2⟩ : ∃ w2, Hid (w2 = (w.alloc (.cells #[.int .u32 (a.x : Int), .int .i64 a.n, .int .u32 (a.via : Int), .bool a.loc] 38)).alloc (.cells #[.int .u32 (b.x : Int), .int .i64 b.n, .int .u32 (b.via : Int), .bool b.loc] 38)) := ⟨_, rfl⟩
  have hs : (w.alloc (.cells #[.int .u32 (a.x : Int), .int .i64 a.n, .int .u32 (a.via : Int), .bool a.loc] 38)).heap.size = w.heap.size + 1 := by simp
  have HB : Hid (Below w.heap.size w w2) := by unfold Hid; rw [HW2.out]; exact ((Below.refl _ _).alloc (Nat.le_refl _) _).alloc (by rw [hs]; omega) _
  have r1 : w2.heap[w.heap.size + 1]? = some (.cells #[.int .u32 (b.x : Int), .int .i64 b.n, .int .u32 (b.via : Int), .bool b.loc] 38) := by rw [HW2.out, ← hs]; exact heap_alloc_new _ _
  have r0 : w2.heap[w.heap.size]? = some (.cells #[.int .u32 (a.x : Int), .int .i64 a.n, .int .u32 (a.via : Int), .bool a.loc] 38) := by
    rw [HW2.out]
    exact below_keeps ((Below.refl _ _).alloc (Nat.le_refl _) _) (heap_alloc_new w _) (by rw [hs]; omega)
  have c0 : w2.cell? ⟨w.heap.size, 0, none⟩ = some (.int .u32 (a.x : Int)) := by rw [cell_of_row _ _ _ _ _ _ r0]; rfl
  have c1 : w2.cell? ⟨w.heap.size, 1, none⟩ = some (.int .i64 a.n) := by rw [cell_of_row _ _ _ _ _ _ r0]; rfl
  have d0 : w2.cell? ⟨w.heap.size + 1, 0, none⟩ = some (.int .u32 (b.x : Int)) := by rw [cell_of_row _ _ _ _ _ _ r1]; rfl
  have d1 : w2.cell? ⟨w.heap.size + 1, 1, none⟩ = some (.int .i64 b.n) := by rw [cell_of_row _ _ _ _ _ _ r1]; rfl
  clear hs r0 r1
  by_cases h : a.x = b.x
  · have h' : ((a.x : Int) != (b.x : Int)) = false := by simp; omega
    have HE : Hid (ahB a b = decide (a.n < b.n)) := by unfold Hid ahB; rw [if_pos h]
    clear h
    go_enter Tryz.func68, Tryz.ntmps68
    go_upto_region 1 with fail
    rw [← HW2.out]
    go_wp2_with fail
    go_ret
    exact ⟨ret_bool HE.out.symm, HB.out⟩
  · have h' : ((a.x : Int) != (b.x : Int)) = true := by simp; omega
    have HE : Hid (ahB a b = decide (a.x < b.x)) := by unfold Hid ahB; rw [if_neg h]
    clear h
    go_enter Tryz.func68, Tryz.ntmps68
    go_upto_region 1 with fail
    rw [← HW2.out]
    go_wp2_with fail
    go_ret
    exact ⟨ret_bool HE.out.symm, HB.out⟩
theorem cellsF {w : World} {B : Nat} {a : Option Addr} {n c : Nat} {L : List Fd} (h : Own kF w B (.slice a n c) L) {j : Nat} {e : Fd} (hx : L[j]? = some e) :
    ∃ g, a = some ⟨g, 0, none⟩ ∧ g < w.heap.size ∧ ∀ u : World, u.heap[g]? = w.heap[g]? → u.cell? ⟨g, j * 7, none⟩ = some (.int .u8 (e.mac.b0 : Int)) ∧ u.cell? ⟨g, j * 7 + 1, none⟩ = some (.int .u8 (e.mac.b1 : Int)) ∧ u.cell? ⟨g, j * 7 + 2, none⟩ = some (.int .u8 (e.mac.b2 : Int)) ∧ u.cell? ⟨g, j * 7 + 3, none⟩ = some (.int .u8 (e.mac.b3 : Int)) ∧ u.cell? ⟨g, j * 7 + 4, none⟩ = some (.int .u8 (e.mac.b4 : Int)) ∧ u.cell? ⟨g, j * 7 + 5, none⟩ = some (.int .u8 (e.mac.b5 : Int)) ∧ u.cell? ⟨g, j * 7 + 6, none⟩ = some (.int .u32 (e.dest : Int)) := by
  obtain ⟨g, h1, h2, h3⟩ := h.at hx
  refine ⟨g, h1, h2, fun u hu => ?_⟩
  obtain ⟨h4, -⟩ := h3 u hu
  exact ⟨(h4 0 (by decide)).1, (h4 1 (by decide)).1, (h4 2 (by decide)).1, (h4 3 (by decide)).1, (h4 4 (by decide)).1, (h4 5 (by decide)).1, (h4 6 (by decide)).1⟩
theorem fdbAt_any (w : World) {m : Nat} {v : Vs} {s : Ks} (q : Mc) (hq : q.Ok) (h : Rf w m v s) :
    Calls Tryz.prog 67 #[.pointer (some ⟨m, 0, none⟩), .agg #[.int .u8 (q.b0 : Int), .int .u8 (q.b1 : Int), .int .u8 (q.b2 : Int), .int .u8 (q.b3 : Int), .int .u8 (q.b4 : Int), .int .u8 (q.b5 : Int)]] w fun e w' => e = .returned (.int .i64 (pz (ix Fd.mac s.F q))) ∧ Below w.heap.size w w' := by
  obtain ⟨av, nv, cv, hv, HN, hnc, -⟩ := h.f.shape
  obtain ⟨w1, HW1⟩ : ∃ w1, Hid (w1 = w.alloc (.cells #[.int .u8 (q.b0 : Int), .int .u8 (q.b1 : Int), .int .u8 (q.b2 : Int), .int .u8 (q.b3 : Int), .int .u8 (q.b4 : Int), .int .u8 (q.b5 : Int)] 40)) := ⟨_, rfl⟩
  have hb1 : Below w.heap.size w w1 := by rw [HW1.out]; exact (Below.refl _ _).alloc (Nat.le_refl _) _
  have r1 : w1.heap[w.heap.size]? = some (.cells #[.int .u8 (q.b0 : Int), .int .u8 (q.b1 : Int), .int .u8 (q.b2 : Int), .int .u8 (q.b3 : Int), .int .u8 (q.b4 : Int), .int .u8 (q.b5 : Int)] 40) := by rw [HW1.out]; exact heap_alloc_new w _
  have HZ : Hid (w.heap.size < w1.heap.size) := (Array.getElem?_eq_some_iff.1 r1).1
  have h1 := h.below hb1
  have HQC : Hid (∀ t : Beh w1, t.wd.heap[w.heap.size]? = some (.cells #[.int .u8 (q.b0 : Int), .int .u8 (q.b1 : Int), .int .u8 (q.b2 : Int), .int .u8 (q.b3 : Int), .int .u8 (q.b4 : Int), .int .u8 (q.b5 : Int)] 40)) := fun t => below_keeps t.ok r1 HZ.out
  have HC0 : Hid (∀ t : Beh w1, t.wd.cell? ⟨m, 2, none⟩ = some (.slice av nv cv)) := fun t => by rw [← hv]; exact (h1.below t.ok).cells.2.2.1
  have HO : Hid (Own kF w1 0 (.slice av nv cv) s.F) := by rw [← hv]; exact h1.f
  have HB1 := hid hb1
  have HFK := hid h.ok.fk
  have HQ := hid hq
  have hle : nv ≤ 256 := by have := h.ok.fl; have := HN.out; omega
  obtain ⟨P, HP⟩ : ∃ P, Hid (P = pz (ix Fd.mac s.F q)) := ⟨_, rfl⟩
  rw [← HP.out]
  clear h h1 hv hb1 r1 hq
  go_enter Tryz.func67, Tryz.ntmps67
  go_upto_region 1 with fail
  rw [← HW1.out]
  clear HW1
  go_upto_region 2 with fail
  go_loopw [5] (fun i wr => ∃ (j : Nat) (t : Beh w1), i = .int .i64 (j : Int) ∧ j ≤ nv ∧ Hid (∀ i x', i < j → (s.F)[i]? = some x' → x'.mac ≠ q) ∧ wr = t.wd) (fun i _ => nv - (intOf i).toNat)
  case atStart => exact ⟨0, ⟨w1, Below.refl _ _⟩, rfl, Nat.zero_le _, fun i x hi => absurd hi (by omega), rfl⟩
  case round =>
    obtain ⟨j, t, rfl, hj, HI, rfl⟩ := hrel
    have c00 := HC0.out t
    by_cases hlt : j < nv
    · have hlt' : (j : Int) < (nv : Int) := int_lt hlt
      have hj0 : decide ((j : Int) < 0) = false := by simp
      have hj1 : (0 : Int) ≤ (j : Int) := by omega
      obtain ⟨e, HX⟩ : ∃ e, Hid ((s.F)[j]? = some e) := ⟨_, hid (List.getElem?_eq_getElem (by have := HN.out; omega))⟩
      have HEK : Hid (e.mac.Ok) := (HFK.out e (List.mem_of_getElem? HX.out)).1
      obtain ⟨g, rfl, hg, hcl⟩ := cellsF HO.out HX.out
      have ku : ∀ t2 : Beh t.wd, t2.wd.heap[g]? = w1.heap[g]? := fun t2 => (t.ok.trans (t2.ok.mono t.ok.size)).block g hg
      have k0 := fun t2 : Beh t.wd => (hcl t2.wd (ku t2)).1
      have k1 := fun t2 : Beh t.wd => (hcl t2.wd (ku t2)).2.1
      have k2 := fun t2 : Beh t.wd => (hcl t2.wd (ku t2)).2.2.1
      have k3 := fun t2 : Beh t.wd => (hcl t2.wd (ku t2)).2.2.2.1
      have k4 := fun t2 : Beh t.wd => (hcl t2.wd (ku t2)).2.2.2.2.1
      have k5 := fun t2 : Beh t.wd => (hcl t2.wd (ku t2)).2.2.2.2.2.1
      have kq : ∀ t2 : Beh t.wd, t2.wd.heap[w.heap.size]? = _ := fun t2 => HQC.out ⟨t2.wd, t.ok.trans (t2.ok.mono t.ok.size)⟩
      have m0 : ∀ t2 : Beh t.wd, t2.wd.cell? ⟨w.heap.size, 0, none⟩ = some (.int .u8 (q.b0 : Int)) := fun t2 => by rw [cell_of_row _ _ _ _ _ _ (kq t2)]; rfl
      have m1 : ∀ t2 : Beh t.wd, t2.wd.cell? ⟨w.heap.size, 1, none⟩ = some (.int .u8 (q.b1 : Int)) := fun t2 => by rw [cell_of_row _ _ _ _ _ _ (kq t2)]; rfl
      have m2 : ∀ t2 : Beh t.wd, t2.wd.cell? ⟨w.heap.size, 2, none⟩ = some (.int .u8 (q.b2 : Int)) := fun t2 => by rw [cell_of_row _ _ _ _ _ _ (kq t2)]; rfl
      have m3 : ∀ t2 : Beh t.wd, t2.wd.cell? ⟨w.heap.size, 3, none⟩ = some (.int .u8 (q.b3 : Int)) := fun t2 => by rw [cell_of_row _ _ _ _ _ _ (kq t2)]; rfl
      have m4 : ∀ t2 : Beh t.wd, t2.wd.cell? ⟨w.heap.size, 4, none⟩ = some (.int .u8 (q.b4 : Int)) := fun t2 => by rw [cell_of_row _ _ _ _ _ _ (kq t2)]; rfl
      have m5 : ∀ t2 : Beh t.wd, t2.wd.cell? ⟨w.heap.size, 5, none⟩ = some (.int .u8 (q.b5 : Int)) := fun t2 => by rw [cell_of_row _ _ _ _ _ _ (kq t2)]; rfl
      have kc : ∀ t2 : Beh t.wd, t2.wd.cell? ⟨m, 2, none⟩ = some (.slice (some ⟨g, 0, none⟩) nv cv) := fun t2 => HC0.out ⟨t2.wd, t.ok.trans (t2.ok.mono t.ok.size)⟩
      obtain ⟨C, HC⟩ : ∃ C, Hid (C = cpM e.mac q) := ⟨_, rfl⟩
      have HCM : ∀ t2 : Beh t.wd, Hid (Calls Tryz.prog 69 #[.agg #[.int .u8 (e.mac.b0 : Int), .int .u8 (e.mac.b1 : Int), .int .u8 (e.mac.b2 : Int), .int .u8 (e.mac.b3 : Int), .int .u8 (e.mac.b4 : Int), .int .u8 (e.mac.b5 : Int)], .agg #[.int .u8 (q.b0 : Int), .int .u8 (q.b1 : Int), .int .u8 (q.b2 : Int), .int .u8 (q.b3 : Int), .int .u8 (q.b4 : Int), .int .u8 (q.b5 : Int)]] t2.wd fun e w'' => e = .returned (.int .i64 C) ∧ ∃ t' : Beh t.wd, w'' = t'.wd) := fun t2 => by
        rw [HC.out]
        exact Calls.beh (compare9 e.mac q _ HEK.out HQ.out)
      clear hcl hg ku kq
      by_cases hk : C = 0
      · have HE : Hid (P = (j : Int)) := by unfold Hid; rw [HP.out]; exact ix_stop HI.out HX.out (cpM_zero.1 (by rw [← HC.out]; exact hk))
        go_upto_region 4 with fail
        refine wp_region_beh (by kernel_rfl) (by kernel_rfl) ?_
        repeat (go_big_quiet_step (first | (go_at_call 69; exact (HCM _).out) | fail))
        refine wpQuiet_nil ?_
        rintro _ ⟨t2, rfl⟩
        clear k0 k1 k2 k3 k4 k5 m0 m1 m2 m3 m4 m5 kc c00 HCM
        go_wp2_with fail
        go_ret
        exact ⟨ret_int HE.out.symm, HB1.out.trans ((t.ok.trans (t2.ok.mono t.ok.size)).mono HB1.out.size)⟩
      · have HI2 : Hid (∀ i x', i < j + 1 → (s.F)[i]? = some x' → x'.mac ≠ q) := ahead_more HI.out HX.out (fun e' => hk (by rw [HC.out]; exact cpM_zero.2 e'))
        go_upto_region 4 with fail
        refine wp_region_beh (by kernel_rfl) (by kernel_rfl) ?_
        repeat (go_big_quiet_step (first | (go_at_call 69; exact (HCM _).out) | fail))
        refine wpQuiet_nil ?_
        rintro _ ⟨t2, rfl⟩
        clear k0 k1 k2 k3 k4 k5 m0 m1 m2 m3 m4 m5 kc c00 HCM
        go_wp2_with fail
        go_roundw
        case rel => exact ⟨j + 1, ⟨t2.wd, t.ok.trans (t2.ok.mono t.ok.size)⟩, by go_num, hlt, HI2, rfl⟩
        case measure => simp [intOf]; omega
    · have hlt' : ¬ (j : Int) < (nv : Int) := int_nlt hlt
      have HE : Hid (P = -1) := by unfold Hid; rw [HP.out]; exact ix_end HI.out (by have := HN.out; omega)
      have HT : Hid (Below w.heap.size w t.wd) := HB1.out.trans (t.ok.mono HB1.out.size)
      go_wp2_with fail
      go_ret
      exact ⟨ret_int HE.out.symm, HT.out⟩
end Go.Proofs.YtpdnnikkaojnkaaGreat.Rt
