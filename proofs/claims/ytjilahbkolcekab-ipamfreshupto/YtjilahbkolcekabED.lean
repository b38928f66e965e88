/-
  ipam: addr.Span; New, Owner, nextFree.
-/
import Derived.Test.YtjilahbkolcekabEC
namespace Go.Proofs.Ytjilahbkolcekab
open Go.ChangeShapes Go.WideShapes Go.ChangeAt Go.RowKit Go.Maps Tri
set_option maxHeartbeats 2000000
set_option maxRecDepth 100000

theorem span_ok {k : K} (w : World) (h : k.Ok) :
    Calls Try.prog 39 #[pv k] w fun e w' => e = .returned (.tuple #[.int .u32 (k.x : Int), .int .u32 ((k.x + k.s - 1 : Nat) : Int), .int .i64 0]) ∧ Below w.heap.size w w' := by
  obtain ⟨wa, HWA⟩ : ∃ wa, Hid (wa = w.alloc (.cells #[.int .u32 (k.x : Int), .int .i64 (k.n : Int)] 25)) := ⟨_, rfl⟩
  have HB0 : Hid (Below w.heap.size w wa) := by unfold Hid; rw [HWA.out]; exact (Below.refl _ _).alloc (Nat.le_refl _) _
  have R1 : Hid (wa.heap[w.heap.size]? = some (.cells #[.int .u32 (k.x : Int), .int .i64 (k.n : Int)] 25)) := by unfold Hid; rw [HWA.out]; exact heap_alloc_new w _
  have HC : ∀ u : World, Hid (Calls Try.prog 50 #[.agg #[.int .u32 (k.x : Int), .int .i64 (k.n : Int)]] u fun e w' => e = .returned (.int .i64 0) ∧ Below u.heap.size u w') := fun u => check_ok u h
  have HL : ∀ u : World, Hid (Calls Try.prog 51 #[.agg #[.int .u32 (k.x : Int), .int .i64 (k.n : Int)]] u fun e w' => e = .returned (.int .u32 ((k.x + k.s - 1 : Nat) : Int)) ∧ Below u.heap.size u w') := fun u => lastOf_ok u h
  unfold pv
  generalize k.x + k.s - 1 = m at *
  generalize k.x = x at *
  generalize k.n = n at *
  obtain ⟨q0, q1⟩ := Beh.two R1.out
  have c0 := q0 ⟨wa, Below.refl _ _⟩
  have c1 := q1 ⟨wa, Below.refl _ _⟩
  simp only at c0 c1
  go_enter Try.func39, Try.ntmps39
  go_upto_region 1 with fail
  rw [← HWA.out]
  go_wp2_with fail
  refine (HC wa).out.mono ?_
  rintro _ w1 ⟨rfl, hb1⟩
  have R2 : w1.heap[w.heap.size]? = some (.cells #[.int .u32 (x : Int), .int .i64 (n : Int)] 25) := below_keeps hb1 R1.out (Array.getElem?_eq_some_iff.1 R1.out).1
  obtain ⟨z0, z1⟩ := Beh.two R2
  have HB1 := hid (HB0.out.trans (hb1.mono HB0.out.size))
  have HL1 : ∀ t : Beh w1, Hid (Calls Try.prog 51 #[.agg #[.int .u32 (x : Int), .int .i64 (n : Int)]] t.wd fun e w' => e = .returned (.int .u32 (m : Int)) ∧ ∃ t' : Beh w1, w' = t'.wd) := fun t => Calls.beh (HL t.wd).out
  clear HC HL c0 c1 q0 q1 hb1
  go_upto_region 4 with fail
  refine wp_region_beh (by kernel_rfl) (by kernel_rfl) ?_
  repeat (go_big_quiet_step (first | (go_at_call 51; exact (HL1 _).out)))
  refine wpQuiet_nil ?_
  rintro _ ⟨t2, rfl⟩
  have HB2 := hid (HB1.out.trans (t2.ok.mono HB1.out.size))
  go_wp2_with fail
  go_ret3
  exact ⟨rfl, HB2.out⟩

theorem span_bad {x : Nat} {y : Int} (w : World) (hx : x < 4294967296) (h : Bad x y) :
    Calls Try.prog 39 #[qv x y] w fun e w' => (∃ c : Int, c ≠ 0 ∧ e = .returned (.tuple #[.int .u32 0, .int .u32 0, .int .i64 c])) ∧ Below w.heap.size w w' := by
  obtain ⟨wa, HWA⟩ : ∃ wa, Hid (wa = w.alloc (.cells #[.int .u32 (x : Int), .int .i64 y] 25)) := ⟨_, rfl⟩
  have HB0 : Hid (Below w.heap.size w wa) := by unfold Hid; rw [HWA.out]; exact (Below.refl _ _).alloc (Nat.le_refl _) _
  have R1 : Hid (wa.heap[w.heap.size]? = some (.cells #[.int .u32 (x : Int), .int .i64 y] 25)) := by unfold Hid; rw [HWA.out]; exact heap_alloc_new w _
  have HC := hid (check_bad wa hx h)
  unfold qv at *
  obtain ⟨q0, q1⟩ := Beh.two R1.out
  have c0 := q0 ⟨wa, Below.refl _ _⟩
  have c1 := q1 ⟨wa, Below.refl _ _⟩
  simp only at c0 c1
  go_enter Try.func39, Try.ntmps39
  go_upto_region 1 with fail
  rw [← HWA.out]
  go_wp2_with fail
  refine HC.out.mono ?_
  rintro _ w1 ⟨⟨c, rfl, hc⟩, hb1⟩
  have HB1 := hid (HB0.out.trans (hb1.mono HB0.out.size))
  have HCN := hid hc
  have hq : (c != 0) = true := by simp [hc]
  clear hb1 c0 c1 q0 q1 hc
  go_wp2_with fail
  go_ret3
  exact ⟨⟨c, HCN.out, rfl⟩, HB1.out⟩

/-- Is there an Ipam of this subnet? -/
def nwB (x : Nat) (y : Int) : Bool := decide (1 ≤ y ∧ y ≤ 30 ∧ x % 2 ^ (32 - y.toNat) = 0)
/-- The one that New gives. -/
def Ist.new (x : Nat) (y : Int) : Ist := ⟨x, 2 ^ (32 - y.toNat), 1, []⟩

theorem pow_lo {n : Nat} (h : n ≤ 30) : 4 ≤ 2 ^ (32 - n) := by
  have : (4 : Nat) = 2 ^ 2 := rfl
  rw [this]
  exact Nat.pow_le_pow_right (by omega) (by omega)
theorem pow_hi {n : Nat} (h : 1 ≤ n) : 2 ^ (32 - n) ≤ 2147483648 := by
  have : (2147483648 : Nat) = 2 ^ 31 := by decide
  rw [this]
  exact Nat.pow_le_pow_right (by omega) (by omega)

theorem new_ok {x : Nat} {y : Int} (hx : x < 4294967296) (h : nwB x y = true) : (Ist.new x y).Ok := by
  unfold nwB at h
  rw [decide_eq_true_eq] at h
  have h1 := pow_lo (n := y.toNat) (by omega)
  have h2 := pow_hi (n := y.toNat) (by omega)
  have h3 : x + 2 ^ (32 - y.toNat) ≤ 4294967296 := K.Ok.end (k := ⟨x, y.toNat⟩) ⟨by show y.toNat ≤ 32; omega, Nat.dvd_of_mod_eq_zero h.2.2, hx⟩
  exact ⟨h1, h2, h3, Nat.le_refl _, by show 1 + 2 ≤ 2 ^ (32 - y.toNat); omega, Nat.zero_le _, List.nodup_nil, List.nodup_nil, fun p hp => absurd hp (by simp [Ist.new]), fun p hp => absurd hp (by simp [Ist.new])⟩

/-- What New leaves. -/
def NwI (x : Nat) (y : Int) (w : World) (e : Ending) (w' : World) : Prop :=
  (nwB x y = false ∧ e = .returned (.tuple #[.pointer none, .int .i64 151]) ∧ Below w.heap.size w w') ∨
  (nwB x y = true ∧ ∃ pb bn ba, e = .returned (.tuple #[.pointer (some ⟨pb, 0, none⟩), .int .i64 0]) ∧ IpAt w' pb bn ba (Ist.new x y) ∧ (∀ k, fpI pb bn ba k → w.heap.size ≤ k) ∧ Below w.heap.size w w')

theorem new_any (x : Nat) (y : Int) (w : World) (hx : x < 4294967296) :
    Calls Try.prog 15 #[.agg #[.int .u32 (x : Int), .int .i64 y]] w (NwI x y w) := by
  obtain ⟨wa, HWA⟩ : ∃ wa, Hid (wa = w.alloc (.cells #[.int .u32 (x : Int), .int .i64 y] 25)) := ⟨_, rfl⟩
  have HB0 : Hid (Below w.heap.size w wa) := by unfold Hid; rw [HWA.out]; exact (Below.refl _ _).alloc (Nat.le_refl _) _
  have R1 : Hid (wa.heap[w.heap.size]? = some (.cells #[.int .u32 (x : Int), .int .i64 y] 25)) := by unfold Hid; rw [HWA.out]; exact heap_alloc_new w _
  obtain ⟨q0, q1⟩ := Beh.two R1.out
  have c0 := q0 ⟨wa, Below.refl _ _⟩
  have c1 := q1 ⟨wa, Below.refl _ _⟩
  simp only at c0 c1
  have HF : nwB x y = false → ∀ w', Below w.heap.size w w' → Hid (NwI x y w (.returned (.tuple #[.pointer none, .int .i64 151])) w') := fun h w' hb => .inl ⟨h, rfl, hb⟩
  rcases bad_or (y := y) hx with hbad | ⟨k, hk, hkx, hky⟩
  · have HN : Hid (nwB x y = false) := by
      unfold Hid nwB; rw [decide_eq_false_iff_not]
      rintro ⟨h1, h2, h3⟩
      rcases hbad with h | h | h
      · omega
      · omega
      · exact h h3
    have HC := hid (span_bad wa hx hbad)
    unfold qv at HC
    go_enter Try.func15, Try.ntmps15
    go_upto_region 1 with fail
    rw [← HWA.out]
    go_wp2_with fail
    refine HC.out.mono ?_
    rintro _ w1 ⟨⟨c, hc, rfl⟩, hb1⟩
    have hq : (c != 0) = true := by simp [hc]
    have HFF := HF HN.out w1 (HB0.out.trans (hb1.mono HB0.out.size))
    clear hb1 c0 c1 q0 q1 hc HF
    go_wp2_with fail
    go_ret2
    exact HFF.out
  · have HC : Hid (Calls Try.prog 39 #[.agg #[.int .u32 (x : Int), .int .i64 y]] wa fun e w' => e = .returned (.tuple #[.int .u32 (x : Int), .int .u32 ((k.x + k.s - 1 : Nat) : Int), .int .i64 0]) ∧ Below wa.heap.size wa w') := by
      have := span_ok wa hk
      unfold pv at this
      rw [hky, hkx]; exact this
    obtain ⟨m, HM⟩ : ∃ m, Hid (m = k.x + k.s - 1) := ⟨_, rfl⟩
    rw [← HM.out] at HC
    have HKX := hid hkx
    have HKY := hid hky
    have HK := hid hk
    clear hk hkx hky
    have r1 := fun (u : World) (hu : Below wa.heap.size wa u) => q1 ⟨u, hu⟩
    simp only at r1
    by_cases h1 : y < 1
    · have HN : Hid (nwB x y = false) := by unfold Hid nwB; rw [decide_eq_false_iff_not]; omega
      go_enter Try.func15, Try.ntmps15
      go_upto_region 1 with fail
      rw [← HWA.out]
      go_wp2_with fail
      refine HC.out.mono ?_
      rintro _ w1 ⟨rfl, hb1⟩
      have HFF := HF HN.out w1 (HB0.out.trans (hb1.mono HB0.out.size))
      have d1 := r1 w1 hb1
      clear hb1 c0 c1 q0 q1 HF r1
      go_wp2_with fail
      go_ret2
      exact HFF.out
    · by_cases h30 : 30 < y
      · have HN : Hid (nwB x y = false) := by unfold Hid nwB; rw [decide_eq_false_iff_not]; omega
        go_enter Try.func15, Try.ntmps15
        go_upto_region 1 with fail
        rw [← HWA.out]
        go_wp2_with fail
        refine HC.out.mono ?_
        rintro _ w1 ⟨rfl, hb1⟩
        have HFF := HF HN.out w1 (HB0.out.trans (hb1.mono HB0.out.size))
        have d1 := r1 w1 hb1
        clear hb1 c0 c1 q0 q1 HF r1
        go_wp2_with fail
        go_ret2
        exact HFF.out
      · have HN : Hid (nwB x y = true) := by
          unfold Hid nwB; rw [decide_eq_true_eq]
          refine ⟨by omega, by omega, ?_⟩
          have := HK.out.2.1
          rw [HKY.out, Int.toNat_natCast, HKX.out]
          exact Nat.mod_eq_zero_of_dvd this
        have HOK := hid (new_ok hx HN.out)
        have HMM : Hid (m = (Ist.new x y).b + (Ist.new x y).z - 1) := by
          unfold Hid Ist.new; rw [HM.out, HKX.out, HKY.out, Int.toNat_natCast]; rfl
        have hmm := @run_makeMap Try.prog
        go_enter Try.func15, Try.ntmps15
        go_upto_region 1 with fail
        rw [← HWA.out]
        go_wp2_with fail
        refine HC.out.mono ?_
        rintro _ w1 ⟨rfl, hb1⟩
        have HB1 := hid (HB0.out.trans (hb1.mono HB0.out.size))
        have d1 := r1 w1 hb1
        clear hb1 c0 c1 q0 q1 HF r1
        go_upto_region 5 with fail
        obtain ⟨w2, HW2⟩ : ∃ w2, Hid (w2 = (w1.alloc (.map #[] 0)).alloc (.map #[] 0)) := ⟨_, rfl⟩
        obtain ⟨w3, HW3⟩ : ∃ w3, Hid (w3 = w2.alloc (.cells #[.int .u32 (x : Int), .int .u32 (m : Int), .int .u32 0, .map (some w1.heap.size), .map (some (w1.heap.size + 1))] 75)) := ⟨_, rfl⟩
        have HS2 : Hid (w2.heap.size = w1.heap.size + 1 + 1) := by unfold Hid; rw [HW2.out]; simp
        have HMN : Hid (MapN w2 w1.heap.size (fun _ => none) 0) := by
          unfold Hid; rw [HW2.out]
          exact (MapN.made w1).kept (heap_alloc_old _ _ (by simp))
        have HMA : Hid (MapA w2 (w1.heap.size + 1) (fun _ => none) 0) := by
          have := MapA.made (w1.alloc (.map #[] 0))
          rw [World.size_alloc] at this
          unfold Hid; rw [HW2.out]; exact this
        have HB12 : Hid (Below w1.heap.size w1 w2) := by unfold Hid; rw [HW2.out]; exact ((Below.refl _ _).alloc (Nat.le_refl _) _).alloc (by simp) _
        have HB23 : Hid (Below w2.heap.size w2 w3) := by unfold Hid; rw [HW3.out]; exact (Below.refl _ _).alloc (Nat.le_refl _) _
        obtain ⟨pb, HPB⟩ : ∃ pb, Hid (pb = w1.heap.size + 1 + 1) := ⟨_, rfl⟩
        have R3 : Hid (w3.heap[pb]? = some (.cells #[.int .u32 (x : Int), .int .u32 (m : Int), .int .u32 0, .map (some w1.heap.size), .map (some (w1.heap.size + 1))] 75 (0, 0))) := by
          unfold Hid; rw [HW3.out, HPB.out, ← HS2.out]; exact heap_alloc_new w2 _
        rw [← HW2.out, ← HW3.out, ← HPB.out]
        have e0 : w3.cell? ⟨pb, 0, none⟩ = some (.int .u32 (x : Int)) := by rw [cell_of_row _ _ _ _ _ _ R3.out]; rfl
        have e2 : w3.frozen? ⟨pb, 2, none⟩ = false := frozen_of_row _ _ _ _ _ R3.out
        have e3 : w3.cell? ⟨pb, 2, none⟩ = some (.int .u32 0) := by rw [cell_of_row _ _ _ _ _ _ R3.out]; rfl
        have HG := hid (gateway_c w3 pb x e0 (by have h1 := HOK.out.be; have h2 := HOK.out.z4; unfold Ist.new at h1 h2; simp only at h1 h2; omega))
        clear e0 d1
        go_wp2_with fail
        refine HG.out.mono ?_
        rintro _ _ ⟨rfl, ew⟩
        obtain rfl := ew.symm
        clear ew
        go_wp2_with fail
        go_ret2
        have hs1 := HB1.out.size
        have hpb := HPB.out
        have hs2 := HS2.out
        have hk : Keeps (fun k => k = pb) w3 (w3.setCell ⟨pb, 2, none⟩ (.int .u32 ((x + 1 : Nat) : Int))) := Keeps.set (S := fun k => k = pb) (Keeps.refl _ _) ⟨pb, 2, none⟩ rfl _
        have hb3 : Below w.heap.size w w3 := (HB1.out.trans (HB12.out.mono hs1)).trans (HB23.out.mono (by omega))
        refine .inr ⟨HN.out, pb, w1.heap.size, w1.heap.size + 1, rfl, ⟨?_, ?_, ?_, by omega, HOK.out⟩, ?_, ?_⟩
        · rw [set_cells R3.out, ← HMM.out]
          rfl
        · refine ((HMN.out.kept (HB23.out.block _ (by omega))).kept (hk.block _ ?_ (by omega))).congr rfl fun n => rfl
          have := HB23.out.size; omega
        · refine ((HMA.out.kept (HB23.out.block _ (by omega))).kept (hk.block _ ?_ (by omega))).congr rfl fun n => rfl
          have := HB23.out.size; omega
        · rintro k (rfl | rfl | rfl) <;> omega
        · exact hb3.trans (hk.below (by have := hb3.size; omega) fun k e => by omega)

/-- What Owner answers. -/
def Ist.owN (s : Ist) (a : Nat) : ByteArray := if a < s.b ∨ s.b + s.z ≤ a then ⟨#[]⟩ else ((s.byA a).getD zPod).nm
def Ist.owE (s : Ist) (a : Nat) : Int := if a < s.b ∨ s.b + s.z ≤ a then 151 else if (s.byA a).isSome then 0 else 3

theorem owner_any (w : World) (pb bn ba : Nat) (s : Ist) (a : Nat) (h : IpAt w pb bn ba s) (ha : a < 4294967296) :
    Calls Try.prog 33 #[.pointer (some ⟨pb, 0, none⟩), .int .u32 (a : Int)] w fun e w' => e = .returned (.tuple #[.string (s.owN a), .int .i64 (s.owE a)]) ∧ Below w.heap.size w w' := by
  obtain ⟨c0, c1, -, -, c4, -⟩ := h.cells
  have HL := hid (h.ma.look ha)
  have hz := h.ok.z4
  obtain ⟨l, hl⟩ : ∃ l, l = s.b + s.z - 1 := ⟨_, rfl⟩
  rw [← hl] at c1
  by_cases g1 : a < s.b
  · have g1' : (a : Int) < (s.b : Int) := int_lt g1
    have HE : Hid (s.owN a = ⟨#[]⟩ ∧ s.owE a = 151) := by unfold Hid Ist.owN Ist.owE; rw [if_pos (.inl g1), if_pos (.inl g1)]; exact ⟨rfl, rfl⟩
    generalize s.owN a = N at *
    generalize s.owE a = E at *
    clear h g1 HL hl hz
    go_enter Try.func33, Try.ntmps33
    go_wp2_with fail
    go_ret2
    exact ⟨by rw [HE.out.1, HE.out.2]; rfl, Below.refl _ _⟩
  · have g1' : ¬ (a : Int) < (s.b : Int) := int_nlt g1
    by_cases g2 : s.b + s.z ≤ a
    · have g2' : (l : Int) < (a : Int) := by omega
      have HE : Hid (s.owN a = ⟨#[]⟩ ∧ s.owE a = 151) := by unfold Hid Ist.owN Ist.owE; rw [if_pos (.inr g2), if_pos (.inr g2)]; exact ⟨rfl, rfl⟩
      generalize s.owN a = N at *
      generalize s.owE a = E at *
      clear h g1 g2 HL hl hz
      go_enter Try.func33, Try.ntmps33
      go_wp2_with fail
      go_ret2
      exact ⟨by rw [HE.out.1, HE.out.2]; rfl, Below.refl _ _⟩
    · have g2' : ¬ (l : Int) < (a : Int) := by omega
      have hno : ¬ (a < s.b ∨ s.b + s.z ≤ a) := by omega
      cases hf : s.byA a with
      | none =>
        have HE : Hid (s.owN a = ⟨#[]⟩ ∧ s.owE a = 3) := by unfold Hid Ist.owN Ist.owE; rw [if_neg hno, if_neg hno, hf]; exact ⟨rfl, rfl⟩
        rw [hf] at HL
        simp only [Option.getD_none, Option.isSome_none] at HL
        unfold podV zPod at HL
        generalize s.owN a = N at *
        generalize s.owE a = E at *
        clear h g1 g2 hl hz hno hf
        go_enter Try.func33, Try.ntmps33
        go_wp2_with (refine wpList_lookup_run _ rfl _ _ _ rfl _ _ rfl rfl HL.out ?_)
        go_ret2
        refine ⟨by rw [HE.out.1, HE.out.2]; rfl, ?_⟩
        exact (Below.refl _ _).alloc (Nat.le_refl _) _
      | some p =>
        have HE : Hid (s.owN a = p.nm ∧ s.owE a = 0) := by unfold Hid Ist.owN Ist.owE; rw [if_neg hno, if_neg hno, hf]; exact ⟨rfl, rfl⟩
        rw [hf] at HL
        simp only [Option.getD_some, Option.isSome_some] at HL
        unfold podV at HL
        generalize s.owN a = N at *
        generalize s.owE a = E at *
        clear h g1 g2 hl hz hno hf
        go_enter Try.func33, Try.ntmps33
        go_wp2_with (refine wpList_lookup_run _ rfl _ _ _ rfl _ _ rfl rfl HL.out ?_)
        go_ret2
        refine ⟨by rw [HE.out.1, HE.out.2]; rfl, ?_⟩
        exact (Below.refl _ _).alloc (Nat.le_refl _) _
end Go.Proofs.Ytjilahbkolcekab
