import Derived.Test.YtpdnnikkaojnkaaGreatYLB
namespace Go.Proofs.YtpdnnikkaojnkaaGreat.Rt
open Go.Proofs.YtpdnnikkaojnkaaGreat Go.ChangeShapes Go.WideShapes Go.ChangeAt Go.RowKit Go.Maps Tri N
set_option maxHeartbeats 4000000
set_option maxRecDepth 100000
theorem int_lt {a b : Nat} (h : a < b) : (a : Int) < (b : Int) := by omega
theorem int_nlt {a b : Nat} (h : ¬ a < b) : ¬ (a : Int) < (b : Int) := by omega
theorem size9 (n : Nat) (w : World) (hn : n ≤ 32) :
    Calls Tryz.prog 81 #[.int .i64 (n : Int)] w fun e w' => e = .returned (.int .i64 ((2 ^ (32 - n) : Nat) : Int)) ∧ w' = w := by
  go_enter Tryz.func81, Tryz.ntmps81
  go_upto_region 3 with fail
  go_loopw [3, 4] (fun a b wr => ∃ (k p : Nat), b = .int .i64 (k : Int) ∧ a = .int .i64 (p : Int) ∧ n ≤ k ∧ k ≤ 32 ∧ p ≤ 4294967296 ∧ Hid (p = 2 ^ (k - n)) ∧ wr = w) (fun _ b _ => 32 - (intOf b).toNat)
  case atStart => exact ⟨n, 1, rfl, rfl, Nat.le_refl _, hn, by decide, hid (by simp), rfl⟩
  case round =>
    obtain ⟨k, p, rfl, rfl, h1, h2, h3, HP, rfl⟩ := hrel
    by_cases hk : k < 32
    · have HP2 : Hid (2 * p = 2 ^ (k + 1 - n)) := by unfold Hid; rw [HP.out, show k + 1 - n = (k - n) + 1 by omega, Nat.pow_succ, Nat.mul_comm]
      have hp2 : 2 * p ≤ 4294967296 := by
        rw [HP2.out, show (4294967296 : Nat) = 2 ^ 32 by decide]
        exact Nat.pow_le_pow_right (by omega) (by omega)
      go_wp2_with fail
      go_roundw
      case rel => exact ⟨k + 1, 2 * p, by go_num, by go_num, by omega, by omega, hp2, HP2, trivial⟩
      case measure => simp [intOf]; omega
    · have : k = 32 := by omega
      subst this
      go_wp2_with fail
      go_ret
      exact ⟨ret_int (by rw [HP.out]), rfl⟩
theorem valid9 {x : Nat} {y : Int} (w : World) (hx : x < 4294967296) :
    Calls Tryz.prog 94 #[.agg #[.int .u32 (x : Int), .int .i64 y]] w fun e w' => e = .returned (.bool (valB x y)) ∧ Below w.heap.size w w' := by
  obtain ⟨wa, hwa⟩ : ∃ wa, wa = w.alloc (.cells #[.int .u32 (x : Int), .int .i64 y] 36) := ⟨_, rfl⟩
  have hb0 : Below w.heap.size w wa := by rw [hwa]; exact (Below.refl _ _).alloc (Nat.le_refl _) _
  have r1 : wa.heap[w.heap.size]? = some (.cells #[.int .u32 (x : Int), .int .i64 y] 36) := by rw [hwa]; exact heap_alloc_new w _
  obtain ⟨q0, q1⟩ := Beh.two r1
  have p0 := q0 ⟨wa, Below.refl _ _⟩
  have p1 := q1 ⟨wa, Below.refl _ _⟩
  simp only at p0 p1
  have HWA := hid hwa
  have HB0 := hid hb0
  clear hwa r1 hb0
  by_cases h1 : y < 0
  · have HF : Hid (valB x y = false) := by unfold Hid valB; rw [decide_eq_false_iff_not]; omega
    clear q0 q1
    go_enter Tryz.func94, Tryz.ntmps94
    go_upto_region 1 with fail
    rw [← HWA.out]
    go_wp2_with fail
    go_ret
    exact ⟨ret_bool HF.out.symm, HB0.out⟩
  · by_cases h2 : 32 < y
    · have HF : Hid (valB x y = false) := by unfold Hid valB; rw [decide_eq_false_iff_not]; omega
      clear q0 q1
      go_enter Tryz.func94, Tryz.ntmps94
      go_upto_region 1 with fail
      rw [← HWA.out]
      go_wp2_with fail
      go_ret
      exact ⟨ret_bool HF.out.symm, HB0.out⟩
    · obtain ⟨n, hn⟩ : ∃ n : Nat, y = (n : Int) := ⟨y.toNat, by omega⟩
      subst hn
      have hn32 : n ≤ 32 := by omega
      have h2' : (n : Int) ≤ 32 := by omega
      have hp := pow_le32 n
      have hS : ∀ t : Beh wa, Hid (Calls Tryz.prog 81 #[.int .i64 (n : Int)] t.wd fun e w'' => e = .returned (.int .i64 ((2 ^ (32 - n) : Nat) : Int)) ∧ ∃ t' : Beh wa, w'' = t'.wd) := fun t => (size9 n t.wd hn32).mono fun e w'' ⟨he, hw⟩ => ⟨he, t, hw⟩
      have hpos : 0 < 2 ^ (32 - n) := Nat.pow_pos (by omega)
      have HF : Hid (valB x (n : Int) = ((x : Int) % ((2 ^ (32 - n) : Nat) : Int) == 0)) := by
        unfold Hid valB
        rw [← Int.natCast_emod, Int.toNat_natCast, Bool.eq_iff_iff, decide_eq_true_eq, beq_iff_eq]
        constructor
        · rintro ⟨_, _, h⟩; rw [h]; rfl
        · intro h; exact ⟨by omega, h2', by exact_mod_cast h⟩
      generalize 2 ^ (32 - n) = S at *
      have hS0 : ¬ ((S : Int) = 0) := by omega
      have hS1 : ((S : Int) == 0) = false := by simp; omega
      go_enter Tryz.func94, Tryz.ntmps94
      go_upto_region 1 with fail
      rw [← HWA.out]
      go_upto_region 3 with fail
      refine wp_region_beh (by kernel_rfl) (by kernel_rfl) ?_
      repeat (go_big_quiet_step (first | (go_at_call 81; exact (hS _).out)))
      refine wpQuiet_nil ?_
      rintro _ ⟨t, rfl⟩
      go_wp2_with fail
      go_ret
      exact ⟨ret_bool HF.out.symm, HB0.out.trans (t.ok.mono HB0.out.size)⟩
theorem holds9 {p : K} (a : Nat) (w : World) (hp : p.Ok) (ha : a < 4294967296) :
    Calls Tryz.prog 65 #[.agg #[.int .u32 (p.x : Int), .int .i64 (p.n : Int)], .int .u32 (a : Int)] w fun e w' => e = .returned (.bool (hasK p a)) ∧ Below w.heap.size w w' := by
  obtain ⟨wa, hwa⟩ : ∃ wa, wa = w.alloc (.cells #[.int .u32 (p.x : Int), .int .i64 (p.n : Int)] 36) := ⟨_, rfl⟩
  have hb0 : Below w.heap.size w wa := by rw [hwa]; exact (Below.refl _ _).alloc (Nat.le_refl _) _
  have r1 : wa.heap[w.heap.size]? = some (.cells #[.int .u32 (p.x : Int), .int .i64 (p.n : Int)] 36) := by rw [hwa]; exact heap_alloc_new w _
  obtain ⟨q0, q1⟩ := Beh.two r1
  have HWA := hid hwa
  have HB0 := hid hb0
  have hx := hp.2.2
  have hS : ∀ t : Beh wa, Hid (Calls Tryz.prog 81 #[.int .i64 (p.n : Int)] t.wd fun e w'' => e = .returned (.int .i64 ((2 ^ (32 - p.n) : Nat) : Int)) ∧ ∃ t' : Beh wa, w'' = t'.wd) := fun t => (size9 p.n t.wd hp.1).mono fun e w'' ⟨he, hw⟩ => ⟨he, t, hw⟩
  have hle := pow_le32 p.n
  have HH : Hid (hasK p a = (decide (p.x ≤ a) && decide (a < p.x + 2 ^ (32 - p.n)))) := by
    unfold Hid hasK K.s
    rw [Bool.eq_iff_iff]
    simp
  clear hwa r1 hb0 hp
  generalize hasK p a = R at *
  generalize 2 ^ (32 - p.n) = S at *
  generalize p.x = px at *
  generalize p.n = pn at *
  by_cases h1 : px ≤ a
  · have h1' : (px : Int) ≤ (a : Int) := by omega
    have HF : Hid (R = decide ((a : Int) < (px : Int) + (S : Int))) := by
      unfold Hid
      rw [HH.out, Bool.eq_iff_iff]
      simp [h1]
      omega
    clear HH h1
    go_enter Tryz.func65, Tryz.ntmps65
    go_upto_region 1 with fail
    rw [← HWA.out]
    refine wp_region_beh (by kernel_rfl) (by kernel_rfl) ?_
    repeat (go_big_quiet_step (first | (go_at_call 81; exact (hS _).out)))
    refine wpQuiet_nil ?_
    rintro _ ⟨t, rfl⟩
    go_wp2_with fail
    go_ret
    exact ⟨ret_bool HF.out.symm, HB0.out.trans (t.ok.mono HB0.out.size)⟩
  · have h1' : ¬ (px : Int) ≤ (a : Int) := by omega
    have HF : Hid (R = false) := by
      unfold Hid
      rw [HH.out]
      simp [h1]
    clear HH h1
    go_enter Tryz.func65, Tryz.ntmps65
    go_upto_region 1 with fail
    rw [← HWA.out]
    refine wp_region_beh (by kernel_rfl) (by kernel_rfl) ?_
    repeat (go_big_quiet_step (first | (go_at_call 81; exact (hS _).out)))
    refine wpQuiet_nil ?_
    rintro _ ⟨t, rfl⟩
    go_wp2_with fail
    go_ret
    exact ⟨ret_bool HF.out.symm, HB0.out.trans (t.ok.mono HB0.out.size)⟩
theorem atR {w : World} {B : Nat} {a : Option Addr} {n c : Nat} {L : List Vt} (h : Own kR w B (.slice a n c) L) {j : Nat} {e : Vt} (hx : L[j]? = some e) :
    ∃ g, a = some ⟨g, 0, none⟩ ∧ g < w.heap.size ∧ ∀ u : World, u.heap[g]? = w.heap[g]? → u.cell? ⟨g, j * 4, none⟩ = some (.int .u32 (e.x : Int)) ∧ u.cell? ⟨g, j * 4 + 1, none⟩ = some (.int .i64 e.n) ∧ u.cell? ⟨g, j * 4 + 2, none⟩ = some (.int .u32 (e.via : Int)) ∧ u.cell? ⟨g, j * 4 + 3, none⟩ = some (.bool e.loc) ∧ (Instr.loadAt 38 (.pointer (some ⟨g, j * 4, none⟩))).run Tryz.prog u = .ok (.agg e.cells) u := by
  obtain ⟨g, h1, h2, h3⟩ := h.at hx
  refine ⟨g, h1, h2, fun u hu => ?_⟩
  obtain ⟨h4, h5⟩ := h3 u hu
  exact ⟨(h4 0 (by decide)).1, (h4 1 (by decide)).1, (h4 2 (by decide)).1, (h4 3 (by decide)).1, h5⟩
theorem load_mc {u : World} {g o : Nat} {m : Mc} (h0 : u.cell? ⟨g, o, none⟩ = some (.int .u8 (m.b0 : Int))) (h1 : u.cell? ⟨g, o + 1, none⟩ = some (.int .u8 (m.b1 : Int))) (h2 : u.cell? ⟨g, o + 2, none⟩ = some (.int .u8 (m.b2 : Int))) (h3 : u.cell? ⟨g, o + 3, none⟩ = some (.int .u8 (m.b3 : Int))) (h4 : u.cell? ⟨g, o + 4, none⟩ = some (.int .u8 (m.b4 : Int))) (h5 : u.cell? ⟨g, o + 5, none⟩ = some (.int .u8 (m.b5 : Int))) :
    (Instr.loadAt 40 (.pointer (some ⟨g, o, none⟩))).run Tryz.prog u = .ok m.v u :=
  run_loadAt_mid u g o 40 [.int .u8 (m.b0 : Int), .int .u8 (m.b1 : Int), .int .u8 (m.b2 : Int), .int .u8 (m.b3 : Int), .int .u8 (m.b4 : Int), .int .u8 (m.b5 : Int)] _ (fun i v hv => by
    match i, hv with
    | 0, hv => cases hv; exact h0
    | 1, hv => cases hv; exact h1
    | 2, hv => cases hv; exact h2
    | 3, hv => cases hv; exact h3
    | 4, hv => cases hv; exact h4
    | 5, hv => cases hv; exact h5
    | i + 6, hv => cases hv) uM rfl (by kernel_rfl)
theorem atN {w : World} {B : Nat} {a : Option Addr} {n c : Nat} {L : List Nb} (h : Own kN w B (.slice a n c) L) {j : Nat} {e : Nb} (hx : L[j]? = some e) :
    ∃ g, a = some ⟨g, 0, none⟩ ∧ g < w.heap.size ∧ ∀ u : World, u.heap[g]? = w.heap[g]? → u.cell? ⟨g, j * 7, none⟩ = some (.int .u32 (e.ip : Int)) ∧ (Instr.loadAt 40 (.pointer (some ⟨g, j * 7 + 1, none⟩))).run Tryz.prog u = .ok e.mac.v u ∧ (Instr.loadAt 42 (.pointer (some ⟨g, j * 7, none⟩))).run Tryz.prog u = .ok (.agg e.cells) u := by
  obtain ⟨g, h1, h2, h3⟩ := h.at hx
  refine ⟨g, h1, h2, fun u hu => ?_⟩
  obtain ⟨h4, h5⟩ := h3 u hu
  exact ⟨(h4 0 (by decide)).1, load_mc (h4 1 (by decide)).1 (h4 2 (by decide)).1 (h4 3 (by decide)).1 (h4 4 (by decide)).1 (h4 5 (by decide)).1 (h4 6 (by decide)).1, h5⟩
theorem atF {w : World} {B : Nat} {a : Option Addr} {n c : Nat} {L : List Fd} (h : Own kF w B (.slice a n c) L) {j : Nat} {e : Fd} (hx : L[j]? = some e) :
    ∃ g, a = some ⟨g, 0, none⟩ ∧ g < w.heap.size ∧ ∀ u : World, u.heap[g]? = w.heap[g]? → u.cell? ⟨g, j * 7 + 6, none⟩ = some (.int .u32 (e.dest : Int)) ∧ (Instr.loadAt 40 (.pointer (some ⟨g, j * 7, none⟩))).run Tryz.prog u = .ok e.mac.v u ∧ (Instr.loadAt 44 (.pointer (some ⟨g, j * 7, none⟩))).run Tryz.prog u = .ok (.agg e.cells) u := by
  obtain ⟨g, h1, h2, h3⟩ := h.at hx
  refine ⟨g, h1, h2, fun u hu => ?_⟩
  obtain ⟨h4, h5⟩ := h3 u hu
  exact ⟨(h4 6 (by decide)).1, load_mc (h4 0 (by decide)).1 (h4 1 (by decide)).1 (h4 2 (by decide)).1 (h4 3 (by decide)).1 (h4 4 (by decide)).1 (h4 5 (by decide)).1, h5⟩
theorem ix_stop {α κ : Type} [DecidableEq κ] {key : α → κ} {L : List α} {k : κ} {j : Nat} {e : α} (h : ∀ i x, i < j → L[i]? = some x → key x ≠ k) (he : L[j]? = some e) (hk : key e = k) : pz (ix key L k) = (j : Int) := by
  rw [ix_of he hk h]; rfl
theorem ix_end {α κ : Type} [DecidableEq κ] {key : α → κ} {L : List α} {k : κ} {j : Nat} (h : ∀ i x, i < j → L[i]? = some x → key x ≠ k) (hj : L.length ≤ j) : pz (ix key L k) = -1 := by
  rw [ix_of_none fun e he => ?_]
  · rfl
  · obtain ⟨i, hi, rfl⟩ := List.mem_iff_getElem.1 he
    exact h i _ (by omega) (List.getElem?_eq_getElem hi)
theorem ahead_more {α κ : Type} {key : α → κ} {L : List α} {k : κ} {j : Nat} {e : α} (h : ∀ i x, i < j → L[i]? = some x → key x ≠ k) (he : L[j]? = some e) (hk : key e ≠ k) : ∀ i x, i < j + 1 → L[i]? = some x → key x ≠ k := fun i x hi hx => by
  by_cases e1 : i = j
  · subst e1; rw [he] at hx; cases hx; exact hk
  · exact h i x (by omega) hx
theorem neighAt_any (w : World) {m : Nat} {v : Vs} {s : Ks} (a : Nat) (h : Rf w m v s) :
    Calls Tryz.prog 66 #[.pointer (some ⟨m, 0, none⟩), .int .u32 (a : Int)] w fun e w' => e = .returned (.int .i64 (pz (ix Nb.ip s.N a))) ∧ w' = w := by
  obtain ⟨av, nv, cv, hv, HN, hnc, -⟩ := h.n.shape
  obtain ⟨-, c1, -⟩ := h.cells
  have ho := h.n
  rw [hv] at c1 ho
  have HO := hid ho
  have hle : nv ≤ 256 := by have := h.ok.nl; have := HN.out; omega
  obtain ⟨P, HP⟩ : ∃ P, Hid (P = pz (ix Nb.ip s.N a)) := ⟨_, rfl⟩
  rw [← HP.out]
  clear h ho hv
  go_enter Tryz.func66, Tryz.ntmps66
  go_upto_region 2 with fail
  go_loopw [5] (fun i wr => ∃ j : Nat, i = .int .i64 (j : Int) ∧ j ≤ nv ∧ Hid (∀ i x, i < j → s.N[i]? = some x → x.ip ≠ a) ∧ wr = w) (fun i _ => nv - (intOf i).toNat)
  case atStart => exact ⟨0, rfl, Nat.zero_le _, fun i x hi => absurd hi (by omega), rfl⟩
  case round =>
    obtain ⟨j, rfl, hj, HI, rfl⟩ := hrel
    by_cases hlt : j < nv
    · have hlt' : (j : Int) < (nv : Int) := int_lt hlt
      have hj0 : decide ((j : Int) < 0) = false := by simp
      obtain ⟨e, HX⟩ : ∃ e, Hid (s.N[j]? = some e) := ⟨_, hid (List.getElem?_eq_getElem (by have := HN.out; omega))⟩
      obtain ⟨g, rfl, hg, hcl⟩ := atN HO.out HX.out
      have d0 := (hcl wr rfl).1
      clear hcl hg
      by_cases hk : e.ip = a
      · have HE : Hid (P = (j : Int)) := by unfold Hid; rw [HP.out]; exact ix_stop HI.out HX.out hk
        have hk' : (e.ip : Int) = (a : Int) := by omega
        clear hk
        go_wp2_with fail
        go_ret
        exact ⟨ret_int HE.out.symm, rfl⟩
      · have HI2 : Hid (∀ i x, i < j + 1 → s.N[i]? = some x → x.ip ≠ a) := ahead_more HI.out HX.out hk
        have hk' : ¬ (e.ip : Int) = (a : Int) := by omega
        clear hk
        go_wp2_with fail
        go_roundw
        case rel => exact ⟨j + 1, by go_num, hlt, HI2, trivial⟩
        case measure => simp [intOf]; omega
    · have hlt' : ¬ (j : Int) < (nv : Int) := int_nlt hlt
      have HE : Hid (P = -1) := by unfold Hid; rw [HP.out]; exact ix_end HI.out (by have := HN.out; omega)
      go_wp2_with fail
      go_ret
      exact ⟨ret_int HE.out.symm, rfl⟩
theorem routeAt_any (w : World) {m : Nat} {v : Vs} {s : Ks} (x : Nat) (y : Int) (h : Rf w m v s) :
    Calls Tryz.prog 95 #[.pointer (some ⟨m, 0, none⟩), .agg #[.int .u32 (x : Int), .int .i64 y]] w fun e w' => e = .returned (.int .i64 (pz (ix Tri.Vt.key s.R (x, y)))) ∧ Below w.heap.size w w' := by
  obtain ⟨av, nv, cv, hv, HN, hnc, -⟩ := h.r.shape
  obtain ⟨w1, HW1⟩ : ∃ w1, Hid (w1 = w.alloc (.cells #[.int .u32 (x : Int), .int .i64 y] 36)) := ⟨_, rfl⟩
  have hb1 : Below w.heap.size w w1 := by rw [HW1.out]; exact (Below.refl _ _).alloc (Nat.le_refl _) _
  have r1 : w1.heap[w.heap.size]? = some (.cells #[.int .u32 (x : Int), .int .i64 y] 36) := by rw [HW1.out]; exact heap_alloc_new w _
  have hz1 : w.heap.size < w1.heap.size := (Array.getElem?_eq_some_iff.1 r1).1
  obtain ⟨q0, q1⟩ := Beh.two r1
  have h1 := h.below hb1
  have c0 : ∀ t : Beh w1, t.wd.cell? ⟨m, 0, none⟩ = some (.slice av nv cv) := fun t => by rw [← hv]; exact (h1.below t.ok).cells.1
  have HO : Hid (Own kR w1 0 (.slice av nv cv) s.R) := by rw [← hv]; exact h1.r
  have HB1 := hid hb1
  have hle : nv ≤ 256 := by have := h.ok.rl; have := HN.out; omega
  obtain ⟨P, HP⟩ : ∃ P, Hid (P = pz (ix Tri.Vt.key s.R (x, y))) := ⟨_, rfl⟩
  rw [← HP.out]
  clear h h1 hv hb1 r1 hz1
  go_enter Tryz.func95, Tryz.ntmps95
  go_upto_region 1 with fail
  rw [← HW1.out]
  go_upto_region 2 with fail
  go_loopw [5] (fun i wr => ∃ (j : Nat) (t : Beh w1), i = .int .i64 (j : Int) ∧ j ≤ nv ∧ Hid (∀ i x', i < j → s.R[i]? = some x' → x'.key ≠ (x, y)) ∧ wr = t.wd) (fun i _ => nv - (intOf i).toNat)
  case atStart => exact ⟨0, ⟨w1, Below.refl _ _⟩, rfl, Nat.zero_le _, fun i x hi => absurd hi (by omega), rfl⟩
  case round =>
    obtain ⟨j, t, rfl, hj, HI, rfl⟩ := hrel
    have c00 := c0 t
    by_cases hlt : j < nv
    · have hlt' : (j : Int) < (nv : Int) := int_lt hlt
      have hj0 : decide ((j : Int) < 0) = false := by simp
      have hj1 : (0 : Int) ≤ (j : Int) := by omega
      obtain ⟨e, HX⟩ : ∃ e, Hid (s.R[j]? = some e) := ⟨_, hid (List.getElem?_eq_getElem (by have := HN.out; omega))⟩
      obtain ⟨g, rfl, hg, hcl⟩ := atR HO.out HX.out
      have k1 : ∀ t2 : Beh t.wd, t2.wd.cell? ⟨g, j * 4, none⟩ = some (.int .u32 (e.x : Int)) := fun t2 => (hcl t2.wd ((t.ok.trans (t2.ok.mono t.ok.size)).block g hg)).1
      have k2 : ∀ t2 : Beh t.wd, t2.wd.cell? ⟨g, j * 4 + 1, none⟩ = some (.int .i64 e.n) := fun t2 => (hcl t2.wd ((t.ok.trans (t2.ok.mono t.ok.size)).block g hg)).2.1
      have k0 : ∀ t2 : Beh t.wd, t2.wd.cell? ⟨m, 0, none⟩ = some (.slice (some ⟨g, 0, none⟩) nv cv) := fun t2 => c0 ⟨t2.wd, t.ok.trans (t2.ok.mono t.ok.size)⟩
      have k3 : ∀ t2 : Beh t.wd, t2.wd.cell? ⟨w.heap.size, 0, none⟩ = some (.int .u32 (x : Int)) := fun t2 => q0 ⟨t2.wd, t.ok.trans (t2.ok.mono t.ok.size)⟩
      have k4 : ∀ t2 : Beh t.wd, t2.wd.cell? ⟨w.heap.size, 1, none⟩ = some (.int .i64 y) := fun t2 => q1 ⟨t2.wd, t.ok.trans (t2.ok.mono t.ok.size)⟩
      have HC0 := hid c0
      have HQ0 := hid q0
      have HQ1 := hid q1
      clear hcl hg c0 q0 q1
      by_cases hk1 : e.x = x
      · have hk1' : (e.x : Int) = (x : Int) := by omega
        by_cases hk2 : e.n = y
        · have HE : Hid (P = (j : Int)) := by unfold Hid; rw [HP.out]; exact ix_stop HI.out HX.out (by unfold Tri.Vt.key; rw [hk1, hk2])
          clear hk1
          go_upto_region 4 with fail
          refine wp_region_beh (by kernel_rfl) (by kernel_rfl) ?_
          repeat (go_big_quiet_step (fail))
          refine wpQuiet_nil ?_
          rintro _ ⟨t2, rfl⟩
          clear k0 k1 k2 k3 k4 c00
          go_wp2_with fail
          go_ret
          exact ⟨ret_int HE.out.symm, HB1.out.trans ((t.ok.trans (t2.ok.mono t.ok.size)).mono HB1.out.size)⟩
        · have HI2 : Hid (∀ i x', i < j + 1 → s.R[i]? = some x' → x'.key ≠ (x, y)) := ahead_more HI.out HX.out (fun e' => hk2 (by unfold Tri.Vt.key at e'; exact (Prod.mk.inj e').2))
          clear hk1
          go_upto_region 4 with fail
          refine wp_region_beh (by kernel_rfl) (by kernel_rfl) ?_
          repeat (go_big_quiet_step (fail))
          refine wpQuiet_nil ?_
          rintro _ ⟨t2, rfl⟩
          clear k0 k1 k2 k3 k4 c00
          go_wp2_with fail
          go_roundw
          case rel => exact ⟨j + 1, ⟨t2.wd, t.ok.trans (t2.ok.mono t.ok.size)⟩, by go_num, hlt, HI2, rfl⟩
          case measure => simp [intOf]; omega
      · have hk1' : ((e.x : Int) == (x : Int)) = false := by rw [beq_eq_false_iff_ne]; omega
        have HI2 : Hid (∀ i x', i < j + 1 → s.R[i]? = some x' → x'.key ≠ (x, y)) := ahead_more HI.out HX.out (fun e' => hk1 (by unfold Tri.Vt.key at e'; exact (Prod.mk.inj e').1))
        clear hk1
        go_upto_region 4 with fail
        refine wp_region_beh (by kernel_rfl) (by kernel_rfl) ?_
        repeat (go_big_quiet_step (fail))
        refine wpQuiet_nil ?_
        rintro _ ⟨t2, rfl⟩
        clear k0 k1 k2 k3 k4 c00
        go_wp2_with fail
        go_roundw
        case rel => exact ⟨j + 1, ⟨t2.wd, t.ok.trans (t2.ok.mono t.ok.size)⟩, by go_num, hlt, HI2, rfl⟩
        case measure => simp [intOf]; omega
    · have hlt' : ¬ (j : Int) < (nv : Int) := int_nlt hlt
      have HE : Hid (P = -1) := by unfold Hid; rw [HP.out]; exact ix_end HI.out (by have := HN.out; omega)
      have HT : Hid (Below w.heap.size w t.wd) := HB1.out.trans (t.ok.mono HB1.out.size)
      clear c0 q0 q1
      go_wp2_with fail
      go_ret
      exact ⟨ret_int HE.out.symm, HT.out⟩
end Go.Proofs.YtpdnnikkaojnkaaGreat.Rt
