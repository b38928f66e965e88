/-
  The reference: Add.
-/
import Derived.Test.YtjilahbkolcekabEI
namespace Go.Proofs.Ytjilahbkolcekab
open Go.ChangeShapes Go.WideShapes Go.ChangeAt Go.RowKit Go.Maps Tri
set_option maxHeartbeats 4000000
set_option maxRecDepth 100000

/-- The place is stored. -/
theorem RfAt.place {w : World} {rb : Nat} {vp : Value} {s : Ist} (h : RfAt w rb vp s) (r : Nat) (h1 : 1 ≤ r) (h2 : r + 2 ≤ s.z) :
    RfAt (w.setCell ⟨rb, 3, none⟩ (.int .i64 (r : Int))) rb vp { s with l := r } ∧ Keeps (fun k => k = rb) w (w.setCell ⟨rb, 3, none⟩ (.int .i64 (r : Int))) := by
  have hks : Keeps (fun k => k = rb) w (w.setCell ⟨rb, 3, none⟩ (.int .i64 (r : Int))) := Keeps.set (S := fun k => k = rb) (Keeps.refl _ _) ⟨rb, 3, none⟩ rfl _
  refine ⟨⟨by rw [set_cells h.row]; rfl, h.own.keeps hks fun k e1 e2 => h.ne (by rw [e1, e2]), ?_⟩, hks⟩
  exact ⟨h.ok.z4, h.ok.z31, h.ok.be, h1, h2, h.ok.le, h.ok.nn, h.ok.an, h.ok.ar, h.ok.sm⟩

theorem addRef_any (w : World) (rb : Nat) (vp : Value) (s : Ist) (n : ByteArray) (h : RfAt w rb vp s) (hn : n.size ≤ maxLen) :
    Calls Try.prog 29 #[.pointer (some ⟨rb, 0, none⟩), .string n] w fun e w' => e = .returned (.tuple #[.int .u32 ((s.addR n).1 : Int), .int .i64 (s.addR n).2.1]) ∧ ∃ vp', RTurn w w' rb vp (s.addR n).2.2 vp' := by
  have HR := hid h
  have HNM := hid (named_any n w hn)
  have HAT := hid (at_any w rb vp s n h)
  obtain ⟨A, HA⟩ : ∃ A, Hid (A = s.addR n) := ⟨_, rfl⟩
  rw [← HA.out]
  have HSM : Hid (RTurn w w rb vp s vp) := ⟨h, fun g hg => .inl hg, Keeps.refl _ _⟩
  cases hm : nmB n with
  | false =>
    have HE : Hid (A = (0, 150, s)) := by unfold Hid; rw [HA.out]; unfold Ist.addR; rw [if_pos hm]
    rw [hm] at HNM
    clear h HAT HA
    go_enter Try.func29, Try.ntmps29
    go_wp2_with fail
    refine HNM.out.mono ?_
    rintro _ _ ⟨rfl, ew⟩
    obtain rfl := ew.symm
    clear ew HNM
    go_wp2_with fail
    go_ret2
    rw [HE.out]
    exact ⟨rfl, _, HSM.out⟩
  | true =>
    rw [hm] at HNM
    have HMM := hid hm
    have HC : ∀ t : Beh w, RfAt t.wd rb vp s := fun t => h.below t.ok
    obtain ⟨av, nv, cv, rfl, HN, hnc, hcap, hnil⟩ := h.own.shape
    have k1 : ∀ t : Beh w, t.wd.cell? ⟨rb, 1, none⟩ = some (.int .i64 (s.z : Int)) := fun t => (HC t).cells.2.1
    have k2 : ∀ t : Beh w, t.wd.cell? ⟨rb, 2, none⟩ = some (.slice av nv cv) := fun t => (HC t).cells.2.2.1
    have HRT : ∀ t : Beh w, Hid (RfAt t.wd rb (.slice av nv cv) s) := HC
    have hle : nv ≤ 1024 := by have := h.ok.le; have := HN.out; omega
    have HZ : Hid (4 ≤ s.z ∧ s.z ≤ 2147483648 ∧ s.b + s.z ≤ 4294967296) := ⟨h.ok.z4, h.ok.z31, h.ok.be⟩
    obtain ⟨b, HBB⟩ : ∃ b, Hid (b = s.b) := ⟨_, rfl⟩
    obtain ⟨z, HZZ⟩ : ∃ z, Hid (z = s.z) := ⟨_, rfl⟩
    rw [← HBB.out, ← HZZ.out] at HZ
    rw [← HZZ.out] at k1
    have hz4 := HZ.out.1
    have hz31 := HZ.out.2.1
    have hbe := HZ.out.2.2
    clear h HC hnil hm
    have hws : IntKind.i64.wrap ((z : Int) - 3) = (z : Int) - 3 := by rw [IntKind.wrap_i64]; omega
    go_enter Try.func29, Try.ntmps29
    go_wp2_with fail
    refine HNM.out.mono ?_
    rintro _ _ ⟨rfl, ew⟩
    obtain rfl := ew.symm
    clear ew HNM
    go_wp2_with fail
    refine HAT.out.mono ?_
    rintro _ _ ⟨⟨v, rfl, hv⟩, ew⟩
    obtain rfl := ew.symm
    clear ew HAT
    rcases hv with ⟨hf, rfl⟩ | ⟨j, p, hf, hj, rfl⟩
    · have HFF := hid hf
      have HF4 : Hid ((1024 ≤ nv ∨ z - 3 ≤ nv) → A = (0, 4, s)) := fun ho => by
        rw [HA.out]; unfold Ist.addR
        rw [if_neg (by rw [HMM.out]; simp), if_neg (by rw [hf]; simp)]
        by_cases h1 : 1024 ≤ s.S.length
        · rw [if_pos h1]
        · rw [if_neg h1]
          have h2 : s.fr = none := (HR.out.ok.fr_none (by omega)).2 (by have := HN.out; have := HZZ.out; omega)
          rw [h2]
      have HFS : Hid (¬ (1024 ≤ nv ∨ z - 3 ≤ nv) → ∃ r, s.fr = some r ∧ A = (s.b + r, 0, s.add n r) ∧ (s.add n r).Ok ∧ s.S.length < 1024) := fun ho => by
        have hl : s.S.length < 1024 := by have := HN.out; omega
        have h2 : s.fr ≠ none := fun e => by have := (HR.out.ok.fr_none hl).1 e; have := HN.out; have := HZZ.out; omega
        cases hfr : s.fr with
        | none => exact absurd hfr h2
        | some r =>
          refine ⟨r, rfl, ?_, HR.out.ok.add hf hl (nm_size HMM.out) hfr, hl⟩
          rw [HA.out]; unfold Ist.addR
          rw [if_neg (by rw [HMM.out]; simp), if_neg (by rw [hf]; simp), if_neg (by omega), hfr]
      clear hf HA
      by_cases hl : 1024 ≤ nv
      · have hl' : (1024 : Int) ≤ (nv : Int) := by omega
        have HE := hid (HF4.out (.inl hl))
        clear HF4 HFS hl
        go_upto_region 5 with fail
        refine wp_region_beh (by kernel_rfl) (by kernel_rfl) ?_
        repeat (go_big_quiet_step (fail))
        refine wpQuiet_nil ?_
        rintro _ ⟨t, rfl⟩
        have HB := hid t.ok
        have HT := HRT t
        clear k1 k2 HRT
        generalize t.wd = u at *
        go_wp2_with fail
        go_ret2
        rw [HE.out]
        exact ⟨rfl, _, HT.out, fun g hg => .inl hg, Keeps.of HB.out⟩
      · have hl' : decide ((1024 : Int) ≤ (nv : Int)) = false := by rw [decide_eq_false_iff_not]; omega
        by_cases hl2 : z - 3 ≤ nv
        · have hl3 : (z : Int) - 3 ≤ (nv : Int) := by omega
          have HE := hid (HF4.out (.inr hl2))
          clear HF4 HFS hl hl2
          go_upto_region 5 with fail
          refine wp_region_beh (by kernel_rfl) (by kernel_rfl) ?_
          repeat (go_big_quiet_step (fail))
          refine wpQuiet_nil ?_
          rintro _ ⟨t, rfl⟩
          have HB := hid t.ok
          have HT := HRT t
          clear k1 k2 HRT
          generalize t.wd = u at *
          go_wp2_with fail
          go_ret2
          rw [HE.out]
          exact ⟨rfl, _, HT.out, fun g hg => .inl hg, Keeps.of HB.out⟩
        · have hl3 : decide ((z : Int) - 3 ≤ (nv : Int)) = false := by rw [decide_eq_false_iff_not]; omega
          obtain ⟨r, hfr, hAr, hokr, hlr⟩ := HFS.out (by omega)
          have HFR := hid hfr
          have HE := hid hAr
          have HOKR := hid hokr
          have HLR := hid hlr
          clear HF4 HFS hl hl2 hfr hAr hokr hlr
          go_upto_region 5 with fail
          refine wp_region_beh (by kernel_rfl) (by kernel_rfl) ?_
          repeat (go_big_quiet_step (fail))
          refine wpQuiet_nil ?_
          rintro _ ⟨t, rfl⟩
          have HB := hid t.ok
          have HT := HRT t
          clear k1 k2 HRT hws hl' hl3
          generalize t.wd = u at *
          obtain ⟨c0, c1, c2, c3, f2, f3⟩ := HT.out.cells
          rw [← HBB.out] at c0
          rw [← HZZ.out] at c1
          have HL0 : Hid (1 ≤ s.l ∧ s.l + 2 ≤ z) := ⟨HR.out.ok.l1, by rw [HZZ.out]; exact HR.out.ok.l2⟩
          go_upto_region 8 with fail
          go_loopw [6] (fun a wr => ∃ p : Nat, a = .int .i64 (p : Int) ∧ 1 ≤ p ∧ p + 2 ≤ z ∧ Hid (srch s.z s.tk 1025 p = some r) ∧ wr = u) (fun a _ => stp s.z s.tk 1025 (intOf a).toNat)
          case atStart => exact ⟨s.l, rfl, HL0.out.1, HL0.out.2, HFR.out, rfl⟩
          case round =>
            obtain ⟨p, rfl, hp1, hp2, HS, rfl⟩ := hrel
            obtain ⟨p2, HP2⟩ : ∃ p2, Hid (p2 = nx s.z p) := ⟨_, rfl⟩
            have HIN : Hid (2 ≤ p2 ∧ p2 + 2 ≤ z) := by unfold Hid; rw [HP2.out, HZZ.out]; exact nx_in (by have := HZZ.out; omega) hp1
            have hin1 := HIN.out.1
            have hin2 := HIN.out.2
            have HH : Hid (Calls Try.prog 49 #[.pointer (some ⟨rb, 0, none⟩), .int .i64 ((b : Int) + (p2 : Int))] wr fun e w' => (∃ v, e = .returned (.int .i64 v) ∧ AtA s (s.b + p2) v) ∧ w' = wr) := by
              have := holder_any wr rb _ s (s.b + p2) HT.out
              rw [← HBB.out, Int.natCast_add] at this
              rw [← HBB.out]
              exact this
            have HTK : Hid (s.tk p2 = (s.byA (s.b + p2)).isSome) := tk_byA s p2
            have hw1 : IntKind.i64.wrap ((b : Int) + (p2 : Int)) = (b : Int) + (p2 : Int) := by rw [IntKind.wrap_i64]; omega
            by_cases hx : z - 2 < p + 1
            · have hx' : (z : Int) - 2 < (p : Int) + 1 := by omega
              have e2 : p2 = 2 := by rw [HP2.out]; unfold nx; rw [if_pos (by have := HZZ.out; omega)]
              subst e2
              go_wp2_with fail
              rw [show ((2 : Nat) : Int) = 2 from rfl] at HH hw1
              refine HH.out.mono ?_
              rintro _ _ ⟨⟨v, rfl, hv⟩, ew⟩
              obtain rfl := ew.symm
              clear ew HH
              rcases hv with ⟨hf, rfl⟩ | ⟨j, q, hf, hj, rfl⟩
              · have HRP : Hid (r = 2) := by
                  have h1 := HS.out
                  rw [srch_stop (by rw [← HP2.out, HTK.out, hf]; rfl)] at h1
                  have h2 := Option.some.inj h1
                  unfold Hid; rw [HP2.out]; exact h2.symm
                have hval : (2 : Int) = (r : Int) := by have := HRP.out; omega
                obtain ⟨q, HQ⟩ : ∃ q, Hid (q = s.b + r) := ⟨_, rfl⟩
                have hqb : (b : Int) + (2 : Int) = (q : Int) := by have := HQ.out; have := HBB.out; omega
                have hql : q < 4294967296 := by have := HQ.out; have := HBB.out; have := HRP.out; omega
                have hw2 : IntKind.i64.wrap ((b : Int) + (2 : Int)) = (q : Int) := by rw [IntKind.wrap_i64]; omega
                have hw3 : IntKind.u32.wrap (q : Int) = (q : Int) := by rw [IntKind.wrap_u32]; omega
                obtain ⟨w1, HW1⟩ : ∃ w1, Hid (w1 = wr.setCell ⟨rb, 3, none⟩ (.int .i64 2)) := ⟨_, rfl⟩
                have HPL : Hid (RfAt w1 rb (.slice av nv cv) { s with l := r } ∧ Keeps (fun k => k = rb) wr w1) := by
                  unfold Hid; rw [HW1.out, hval]; exact HT.out.place r (by have := HRP.out; omega) (by have := HRP.out; have := HZZ.out; omega)
                have m0 : w1.cell? ⟨rb, 0, none⟩ = some (.int .i64 (b : Int)) := by rw [HBB.out]; exact HPL.out.1.cells.1
                have m2 : w1.cell? ⟨rb, 2, none⟩ = some (.slice av nv cv) := HPL.out.1.cells.2.2.1
                have m2b : (w1.alloc (.cells #[.string n, .int .u32 (q : Int)] 80)).cell? ⟨rb, 2, none⟩ = some (.slice av nv cv) := (Below.cell ((Below.refl _ _).alloc (Nat.le_refl _) _) (p := ⟨rb, 2, none⟩) (HPL.out.1.lt (.inl rfl))).trans m2
                obtain ⟨w2, HW2⟩ : ∃ w2, Hid (w2 = (w1.alloc (.cells #[.string n, .int .u32 (q : Int)] 80)).drew) := ⟨_, rfl⟩
                have hb2 : Below w1.heap.size w1 w2 := by rw [HW2.out]; exact below_drewN ((Below.refl _ _).alloc (Nat.le_refl _) _) 1
                have r2 : w2.heap[w1.heap.size]? = some (.cells #[.string n, .int .u32 (q : Int)] 80 (0, 0)) := by rw [HW2.out]; exact heap_alloc_new w1 _
                obtain ⟨v', w3, hap, ho3, hg3, hn3⟩ := append_pod w2 49 0 (.slice av nv cv) s.S ⟨n, q⟩ w1.heap.size (HPL.out.1.own.below hb2) (by rw [cell_of_row _ _ _ _ _ _ r2]; rfl) (by rw [cell_of_row _ _ _ _ _ _ r2]; rfl) (Nat.zero_le _) (by have := HLR.out; omega)
                obtain ⟨av', nv', cv', rfl, -, -, -, -⟩ := ho3.shape
                have hk3 : Keeps (fun k => Value.ownBlock (.slice av nv cv) = some k) w1 w3 := (Keeps.of hb2).trans (Keeps.grown hg3 fun k e => e)
                have HTU := hid (HPL.out.1.store (s' := s.add n r) (v' := .slice av' nv' cv') rfl rfl rfl hk3 (by rw [HQ.out] at ho3; exact ho3) (fun g hg => (hn3 g hg).imp id fun h => Nat.le_trans hb2.size h) HOKR.out)
                obtain ⟨w4, HW4⟩ : ∃ w4, Hid (w4 = w3.setCell ⟨rb, 2, none⟩ (.slice av' nv' cv')) := ⟨_, rfl⟩
                rw [← HW4.out] at HTU
                have m4 : w4.cell? ⟨rb, 0, none⟩ = some (.int .i64 (b : Int)) := by rw [HBB.out]; exact HTU.out.ref.cells.1
                have r3 : w3.heap[rb]? = some (.cells (rcells s.b s.z r (.slice av nv cv)) 89 (0, 0)) := (hk3.block rb (HPL.out.1.lt (.inl rfl)) HPL.out.1.ne).trans HPL.out.1.row
                have m5 : ∃ v, w3.cell? ⟨rb, 2, none⟩ = some v := ⟨_, by rw [cell_of_row _ _ _ _ _ _ r3]; rfl⟩
                obtain ⟨v5, m5⟩ := m5
                have m6 : w3.frozen? ⟨rb, 2, none⟩ = false := frozen_of_row _ _ _ _ _ r3
                have HAP := hid hap
                have HFIN : Hid (RTurn w w4 rb (.slice av nv cv) (s.add n r) (.slice av' nv' cv')) := by
                  have hs1 := HPL.out.2.size
                  have hs0 := HB.out.size
                  exact ⟨HTU.out.ref, fun g hg => (HTU.out.new g hg).imp id fun h => by omega, ((Keeps.of HB.out).trans (HPL.out.2.mono fun k _ e => .inl e)).trans HTU.out.keeps⟩
                have HHQ := hid hqb
                clear hf HTK HS hval hqb hb2 r2 hap ho3 hg3 hn3 hk3 r3 c0 c1 c2 f2 hw1 HPL HTU
                go_upto_region 13 with fail
                rw [← HW1.out]
                go_region_law (first | (rw [← HW2.out]; refine step_append_run rfl _ _ _ _ rfl _ _ rfl rfl HAP.out ?_))
                all_goals (
                  rw [← HW4.out]
                  clear m0 m2 m2b m5 m6 c3 f3
                  go_wp2_with fail
                  go_ret2
                  refine ⟨?_, _, by rw [HE.out]; exact HFIN.out⟩
                  rw [HE.out, ← HQ.out]
                  rfl)
              · have HL := hid (stp_less HS.out (by rw [← HP2.out, HTK.out, hf]; rfl))
                rw [← HP2.out] at HL
                have hj2 : ¬ (j : Int) < 0 := by omega
                clear hf hj HTK HS hw1 
                go_wp2_with fail
                go_roundw
                case rel => exact ⟨2, rfl, by omega, hin2, HL.out.1, trivial⟩
                case measure => exact HL.out.2
            · have hx' : ¬ (z : Int) - 2 < (p : Int) + 1 := by omega
              have e2 : p2 = p + 1 := by rw [HP2.out]; unfold nx; rw [if_neg (by have := HZZ.out; omega)]
              have e3 : ((p2 : Nat) : Int) = (p : Int) + 1 := by omega
              rw [e3] at HH
              go_wp2_with fail
              refine HH.out.mono ?_
              rintro _ _ ⟨⟨v, rfl, hv⟩, ew⟩
              obtain rfl := ew.symm
              clear ew HH
              rcases hv with ⟨hf, rfl⟩ | ⟨j, q, hf, hj, rfl⟩
              · have HRP : Hid (r = p2) := by
                  have h1 := HS.out
                  rw [srch_stop (by rw [← HP2.out, HTK.out, hf]; rfl)] at h1
                  have h2 := Option.some.inj h1
                  unfold Hid; rw [HP2.out]; exact h2.symm
                have hval : (((p : Int) + 1) : Int) = (r : Int) := by have := HRP.out; omega
                obtain ⟨q, HQ⟩ : ∃ q, Hid (q = s.b + r) := ⟨_, rfl⟩
                have hqb : (b : Int) + (((p : Int) + 1) : Int) = (q : Int) := by have := HQ.out; have := HBB.out; omega
                have hql : q < 4294967296 := by have := HQ.out; have := HBB.out; have := HRP.out; omega
                have hw2 : IntKind.i64.wrap ((b : Int) + (((p : Int) + 1) : Int)) = (q : Int) := by rw [IntKind.wrap_i64]; omega
                have hw3 : IntKind.u32.wrap (q : Int) = (q : Int) := by rw [IntKind.wrap_u32]; omega
                obtain ⟨w1, HW1⟩ : ∃ w1, Hid (w1 = wr.setCell ⟨rb, 3, none⟩ (.int .i64 ((p : Int) + 1))) := ⟨_, rfl⟩
                have HPL : Hid (RfAt w1 rb (.slice av nv cv) { s with l := r } ∧ Keeps (fun k => k = rb) wr w1) := by
                  unfold Hid; rw [HW1.out, hval]; exact HT.out.place r (by have := HRP.out; omega) (by have := HRP.out; have := HZZ.out; omega)
                have m0 : w1.cell? ⟨rb, 0, none⟩ = some (.int .i64 (b : Int)) := by rw [HBB.out]; exact HPL.out.1.cells.1
                have m2 : w1.cell? ⟨rb, 2, none⟩ = some (.slice av nv cv) := HPL.out.1.cells.2.2.1
                have m2b : (w1.alloc (.cells #[.string n, .int .u32 (q : Int)] 80)).cell? ⟨rb, 2, none⟩ = some (.slice av nv cv) := (Below.cell ((Below.refl _ _).alloc (Nat.le_refl _) _) (p := ⟨rb, 2, none⟩) (HPL.out.1.lt (.inl rfl))).trans m2
                obtain ⟨w2, HW2⟩ : ∃ w2, Hid (w2 = (w1.alloc (.cells #[.string n, .int .u32 (q : Int)] 80)).drew) := ⟨_, rfl⟩
                have hb2 : Below w1.heap.size w1 w2 := by rw [HW2.out]; exact below_drewN ((Below.refl _ _).alloc (Nat.le_refl _) _) 1
                have r2 : w2.heap[w1.heap.size]? = some (.cells #[.string n, .int .u32 (q : Int)] 80 (0, 0)) := by rw [HW2.out]; exact heap_alloc_new w1 _
                obtain ⟨v', w3, hap, ho3, hg3, hn3⟩ := append_pod w2 49 0 (.slice av nv cv) s.S ⟨n, q⟩ w1.heap.size (HPL.out.1.own.below hb2) (by rw [cell_of_row _ _ _ _ _ _ r2]; rfl) (by rw [cell_of_row _ _ _ _ _ _ r2]; rfl) (Nat.zero_le _) (by have := HLR.out; omega)
                obtain ⟨av', nv', cv', rfl, -, -, -, -⟩ := ho3.shape
                have hk3 : Keeps (fun k => Value.ownBlock (.slice av nv cv) = some k) w1 w3 := (Keeps.of hb2).trans (Keeps.grown hg3 fun k e => e)
                have HTU := hid (HPL.out.1.store (s' := s.add n r) (v' := .slice av' nv' cv') rfl rfl rfl hk3 (by rw [HQ.out] at ho3; exact ho3) (fun g hg => (hn3 g hg).imp id fun h => Nat.le_trans hb2.size h) HOKR.out)
                obtain ⟨w4, HW4⟩ : ∃ w4, Hid (w4 = w3.setCell ⟨rb, 2, none⟩ (.slice av' nv' cv')) := ⟨_, rfl⟩
                rw [← HW4.out] at HTU
                have m4 : w4.cell? ⟨rb, 0, none⟩ = some (.int .i64 (b : Int)) := by rw [HBB.out]; exact HTU.out.ref.cells.1
                have r3 : w3.heap[rb]? = some (.cells (rcells s.b s.z r (.slice av nv cv)) 89 (0, 0)) := (hk3.block rb (HPL.out.1.lt (.inl rfl)) HPL.out.1.ne).trans HPL.out.1.row
                have m5 : ∃ v, w3.cell? ⟨rb, 2, none⟩ = some v := ⟨_, by rw [cell_of_row _ _ _ _ _ _ r3]; rfl⟩
                obtain ⟨v5, m5⟩ := m5
                have m6 : w3.frozen? ⟨rb, 2, none⟩ = false := frozen_of_row _ _ _ _ _ r3
                have HAP := hid hap
                have HFIN : Hid (RTurn w w4 rb (.slice av nv cv) (s.add n r) (.slice av' nv' cv')) := by
                  have hs1 := HPL.out.2.size
                  have hs0 := HB.out.size
                  exact ⟨HTU.out.ref, fun g hg => (HTU.out.new g hg).imp id fun h => by omega, ((Keeps.of HB.out).trans (HPL.out.2.mono fun k _ e => .inl e)).trans HTU.out.keeps⟩
                have HHQ := hid hqb
                clear hf HTK HS hval hqb hb2 r2 hap ho3 hg3 hn3 hk3 r3 c0 c1 c2 f2 hw1 HPL HTU
                go_upto_region 13 with fail
                rw [← HW1.out]
                go_region_law (first | (rw [← HW2.out]; refine step_append_run rfl _ _ _ _ rfl _ _ rfl rfl HAP.out ?_))
                all_goals (
                  rw [← HW4.out]
                  clear m0 m2 m2b m5 m6 c3 f3
                  go_wp2_with fail
                  go_ret2
                  refine ⟨?_, _, by rw [HE.out]; exact HFIN.out⟩
                  rw [HE.out, ← HQ.out]
                  rfl)
              · have HL := hid (stp_less HS.out (by rw [← HP2.out, HTK.out, hf]; rfl))
                rw [← HP2.out] at HL
                have hj2 : ¬ (j : Int) < 0 := by omega
                clear hf hj HTK HS hw1 
                go_wp2_with fail
                go_roundw
                case rel => exact ⟨p2, by go_num, by omega, hin2, HL.out.1, trivial⟩
                case measure => have h1 := HL.out.2; rw [e2] at h1; simp [intOf]; exact h1
    · have HE : Hid (A = (0, 5, s)) := by unfold Hid; rw [HA.out]; unfold Ist.addR; rw [if_neg (by rw [HMM.out]; simp), if_pos (by rw [hf]; rfl)]
      have hj2 : ¬ (j : Int) < 0 := by omega
      clear HA hf hj k1 k2
      go_wp2_with fail
      go_ret2
      rw [HE.out]
      exact ⟨rfl, _, HSM.out⟩
end Go.Proofs.Ytjilahbkolcekab
