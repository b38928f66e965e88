/-
  The reference's Claim.
-/
import Derived.Test.YtahoileampdnkaaHA
namespace Go.Proofs.Ytahoileampdnkaa
open Go.ChangeShapes Go.WideShapes Go.ChangeAt Go.RowKit Ru N Tri
set_option maxHeartbeats 2000000
set_option maxRecDepth 100000

/-- What the reference's Claim answers. -/
def ClaimsR (rb x : Nat) (y : Int) (sub lo hi : Nat) (vk vt : Value) (A T : List Nat) (a : Nat) (b : Int) (w : World) (e : Ending) (w' : World) : Prop :=
  (alg sub a b = false ∧ e = .returned (.int .i64 100) ∧ Below w.heap.size w w') ∨
  (alg sub a b = true ∧ (inN x y a = false ∨ (¬ (lo ≤ a ∧ a ≤ hi) ∧ a ∉ A)) ∧ e = .returned (.int .i64 101) ∧ Below w.heap.size w w') ∨
  (alg sub a b = true ∧ inN x y a = true ∧ ((lo ≤ a ∧ a ≤ hi) ∨ a ∈ A) ∧ a ∈ T ∧ e = .returned (.int .i64 102) ∧ Below w.heap.size w w') ∨
  (alg sub a b = true ∧ inN x y a = true ∧ ((lo ≤ a ∧ a ≤ hi) ∨ a ∈ A) ∧ a ∉ T ∧ e = .returned (.int .i64 0) ∧ ∃ vt', RTurn rb x y sub lo hi vk vt A w w' vt' (T ++ [a]))

theorem claimR (rb x : Nat) (y : Int) (sub lo hi : Nat) (vk vt : Value) (A T : List Nat) (a : Nat) (b : Int) (w : World) (hp : RAt w rb x y sub lo hi vk vt A T) (hx : x < 4294967296) (hv : valB x y = true) (ha : a < 4294967296) (hnd : T.Nodup) :
    Calls Try.prog 43 #[.pointer (some ⟨rb, 0, none⟩), .agg #[.int .u32 (a : Int), .int .i64 b]] w (ClaimsR rb x y sub lo hi vk vt A T a b w) := by
  obtain ⟨wa, HWA⟩ : ∃ wa, Hid (wa = w.alloc (.cells #[.int .u32 (a : Int), .int .i64 b] 25)) := ⟨_, rfl⟩
  have hb0 : Below w.heap.size w wa := by rw [HWA.out]; exact (Below.refl _ _).alloc (Nat.le_refl _) _
  have r1 : wa.heap[w.heap.size]? = some (.cells #[.int .u32 (a : Int), .int .i64 b] 25) := by rw [HWA.out]; exact heap_alloc_new w _
  obtain ⟨q0, q1⟩ := Beh.two r1
  have HB0 := hid hb0
  have HP := hid (hp.below hb0)
  have HPw : ∀ t : Beh wa, RAt t.wd rb x y sub lo hi vk vt A T := fun t => HP.out.below t.ok
  have hbw : ∀ t : Beh wa, Below w.heap.size w t.wd := fun t => HB0.out.trans (t.ok.mono HB0.out.size)
  have hs := hp.hs
  have HAL : ∀ t : Beh wa, Hid (Calls Try.prog 39 #[.agg #[.int .u32 (a : Int), .int .i64 b], .int .i64 (sub : Int)] t.wd fun e w' => e = .returned (.bool (alg sub a b)) ∧ ∃ t' : Beh wa, w' = t'.wd) := fun t => by
    rw [alg_eq hs]; exact Calls.beh (alignedR a b (sub : Int) t.wd ha)
  have HC : ∀ t : Beh wa, Hid (Calls Try.prog 40 #[.agg #[.int .u32 (x : Int), .int .i64 y], .int .u32 (a : Int)] t.wd fun e w' => e = .returned (.bool (inN x y a)) ∧ ∃ t' : Beh wa, w' = t'.wd) := fun t => Calls.beh (containsR x y a _ hx hv)
  obtain ⟨kb, HKB⟩ : ∃ kb, Hid (kb = decide (a ∈ A)) := ⟨_, rfl⟩
  obtain ⟨tb, HTB⟩ : ∃ tb, Hid (tb = decide (a ∈ T)) := ⟨_, rfl⟩
  have HIK : ∀ t : Beh wa, Hid (Calls Try.prog 41 #[vk, .int .i64 (a : Int)] t.wd fun e w' => e = .returned (.bool kb) ∧ w' = t.wd) := fun t => by
    rw [HKB.out]; exact inR 0 vk A a t.wd (HPw t).ok (by have := (HPw t).la; omega)
  have HIT : ∀ t : Beh wa, Hid (Calls Try.prog 41 #[vt, .int .i64 (a : Int)] t.wd fun e w' => e = .returned (.bool tb) ∧ w' = t.wd) := fun t => by
    rw [HTB.out]; exact inR 0 vt T a t.wd (HPw t).ot (HPw t).lt
  have k0 : ∀ t : Beh wa, t.wd.cell? ⟨rb, 0, none⟩ = some (.int .u32 (x : Int)) := fun t => (HPw t).cells.1
  have k1 : ∀ t : Beh wa, t.wd.cell? ⟨rb, 1, none⟩ = some (.int .i64 y) := fun t => (HPw t).cells.2.1
  have k2 : ∀ t : Beh wa, t.wd.cell? ⟨rb, 2, none⟩ = some (.int .i64 (sub : Int)) := fun t => (HPw t).cells.2.2.1
  have HAA := hid ha
  have HND := hid hnd
  clear hp hb0 r1 hnd
  unfold ClaimsR
  go_enter Try.func43, Try.ntmps43
  go_upto_region 1 with fail
  rw [← HWA.out]
  refine wp_region_beh (by kernel_rfl) (by kernel_rfl) ?_
  repeat (go_big_quiet_step (first | (go_at_call 39; exact (HAL _).out)))
  refine wpQuiet_nil ?_
  rintro _ ⟨t1, rfl⟩
  cases hal : alg sub a b with
  | false =>
    go_wp2_with fail
    go_ret
    exact .inl ⟨hal, rfl, hbw t1⟩
  | true =>
    have wv : wrap64 (a : Int) = (a : Int) := wrap_nat' (Nat.le_of_lt HAA.out)
    have z0 := q0 t1
    go_upto_region 5 with fail
    clear z0
    have hcv : ∀ t : Beh t1.wd, Below wa.heap.size wa t.wd := fun t => t1.ok.trans (t.ok.mono t1.ok.size)
    have j0 : ∀ t : Beh t1.wd, t.wd.cell? ⟨rb, 0, none⟩ = some (.int .u32 (x : Int)) := fun t => k0 ⟨t.wd, hcv t⟩
    have j1 : ∀ t : Beh t1.wd, t.wd.cell? ⟨rb, 1, none⟩ = some (.int .i64 y) := fun t => k1 ⟨t.wd, hcv t⟩
    have j2 : ∀ t : Beh t1.wd, t.wd.cell? ⟨w.heap.size, 0, none⟩ = some (.int .u32 (a : Int)) := fun t => q0 ⟨t.wd, hcv t⟩
    have HC1 : ∀ t : Beh t1.wd, Hid (Calls Try.prog 40 #[.agg #[.int .u32 (x : Int), .int .i64 y], .int .u32 (a : Int)] t.wd fun e w' => e = .returned (.bool (inN x y a)) ∧ ∃ t' : Beh t1.wd, w' = t'.wd) := fun t => Calls.beh (containsR x y a _ hx hv)
    clear HC hcv
    refine wp_region_beh (by kernel_rfl) (by kernel_rfl) ?_
    repeat (go_big_quiet_step (first | (go_at_call 40; exact (HC1 _).out)))
    refine wpQuiet_nil ?_
    rintro _ ⟨t2', rfl⟩
    obtain ⟨t2, ht2⟩ : ∃ t : Beh wa, t.wd = t2'.wd := ⟨⟨t2'.wd, t1.ok.trans (t2'.ok.mono t1.ok.size)⟩, rfl⟩
    rw [← ht2]
    clear ht2 j0 j1 j2 HC1 wv HAL
    obtain ⟨-, -, -, c3, c4, c5, c6, f6⟩ := (HPw t2).cells
    have HIK2 := HIK t2
    have HIT2 := HIT t2
    clear HIK HIT k0 k1 k2
    go_upto_region 6 with fail
    go_wp2_with fail
    refine HIK2.out.mono ?_
    rintro _ _ ⟨rfl, ew⟩
    obtain rfl := ew.symm
    clear ew HIK2
    have hwt := hbw t2
    have HWT := hid hwt
    have HPT := hid (HPw t2)
    clear hwt
    generalize t2.wd = w3 at *
    cases hin : inN x y a with
    | false =>
      go_wp2_with fail
      go_ret
      exact .inr (.inl ⟨hal, .inl hin, rfl, HWT.out⟩)
    | true =>
      have HOUT : ¬ (lo ≤ a ∧ a ≤ hi) → kb = false → Hid (¬ (lo ≤ a ∧ a ≤ hi) ∧ a ∉ A) := fun h1 h2 => ⟨h1, by have := HKB.out; rw [h2] at this; simpa using this.symm⟩
      have HROW : (lo ≤ a ∧ a ≤ hi) ∨ kb = true → Hid ((lo ≤ a ∧ a ≤ hi) ∨ a ∈ A) := fun h => by
        rcases h with h | h
        · exact .inl h
        · have := HKB.out; rw [h] at this; exact .inr (by simpa using this.symm)
      by_cases g1 : a < lo
      · have g1' : (a : Int) < (lo : Int) := int_lt g1
        cases kb with
        | true =>
          have HR := HROW (.inr rfl)
          clear g1 HOUT HROW
          go_upto_region 9 with fail
          go_wp2_with fail
          refine HIT2.out.mono ?_
          rintro _ _ ⟨rfl, ew⟩
          obtain rfl := ew.symm
          clear ew HIT2
          cases tb with
          | true =>
            have HTM : Hid (a ∈ T) := by have := HTB.out; unfold Hid; simpa using this.symm
            go_wp2_with fail
            go_ret
            exact .inr (.inr (.inl ⟨hal, hin, HR.out, HTM.out, rfl, HWT.out⟩))
          | false =>
            have HTM : Hid (a ∉ T) := by have := HTB.out; unfold Hid; simpa using this.symm
            have HTL : Hid (T.length < 4294967296) := nod_small HND.out HPT.out.bt HTM.out HAA.out
            obtain ⟨w4, HW4⟩ : ∃ w4, Hid (w4 = w3.alloc (.cells #[.int .i64 (a : Int)] 3)) := ⟨_, rfl⟩
            have hb4 : Below w3.heap.size w3 w4 := by rw [HW4.out]; exact (Below.refl _ _).alloc (Nat.le_refl _) _
            have r4 : w4.heap[w3.heap.size]? = some (.cells #[.int .i64 (a : Int)] 3 (0, 0)) := by rw [HW4.out]; exact heap_alloc_new w3 _
            obtain ⟨v', w5, hap, ho5, hg5, hn5⟩ := append_int w4 75 0 vt T a w3.heap.size (HPT.out.below hb4).ot (by rw [cell_of_row _ _ _ _ _ _ r4]; rfl) (Nat.zero_le _) (by have := HTL.out; omega)
            obtain ⟨av5, lv5, cv5, e5, -⟩ := ho5.shape
            subst e5
            have HTU := hid ((HPT.out.below hb4).store (Keeps.grown hg5 (fun k hk => hk)) ho5 hn5.nw (by rw [List.length_append]; exact HTL.out) (fun n hn => by
              rw [List.mem_append, List.mem_singleton] at hn
              rcases hn with hn | rfl
              · exact HPT.out.bt n hn
              · exact HAA.out))
            have HTU2 := hid ((HTU.out.from hb4).from HWT.out)
            have HAP := hid hap
            have s6 : w5.cell? ⟨rb, 6, none⟩ = some vt ∧ w5.frozen? ⟨rb, 6, none⟩ = false := by
              have hr := (hg5.block rb (Array.getElem?_eq_some_iff.1 (HPT.out.below hb4).row).1 (fun e => ownN_ne (HPT.out.below hb4).ot (HPT.out.below hb4).row e.symm)).trans (HPT.out.below hb4).row
              exact ⟨by rw [cell_of_row _ _ _ _ _ _ hr]; rfl, frozen_of_row _ _ _ _ _ hr⟩
            obtain ⟨s6a, s6b⟩ := s6
            clear hb4 r4 hap ho5 hg5 hn5 HTU
            go_upto_region 13 with (at_builtin; rw [← HW4.out]; refine wpList_append_run _ rfl _ _ 75 75 rfl _ _ rfl rfl HAP.out ?_)
            go_wp2_with fail
            go_ret
            exact .inr (.inr (.inr ⟨hal, hin, HR.out, HTM.out, rfl, _, HTU2.out⟩))
        | false =>
          have HO := HOUT (by omega) rfl
          clear g1 HOUT HROW
          go_wp2_with fail
          go_ret
          exact .inr (.inl ⟨hal, .inr HO.out, rfl, HWT.out⟩)
      · have g1' : ¬ (a : Int) < (lo : Int) := int_nlt g1
        by_cases g2 : hi < a
        · have g2' : (hi : Int) < (a : Int) := int_lt g2
          cases kb with
          | true =>
            have HR := HROW (.inr rfl)
            clear g1 g2 HOUT HROW
            go_upto_region 9 with fail
            go_wp2_with fail
            refine HIT2.out.mono ?_
            rintro _ _ ⟨rfl, ew⟩
            obtain rfl := ew.symm
            clear ew HIT2
            cases tb with
            | true =>
              have HTM : Hid (a ∈ T) := by have := HTB.out; unfold Hid; simpa using this.symm
              go_wp2_with fail
              go_ret
              exact .inr (.inr (.inl ⟨hal, hin, HR.out, HTM.out, rfl, HWT.out⟩))
            | false =>
              have HTM : Hid (a ∉ T) := by have := HTB.out; unfold Hid; simpa using this.symm
              have HTL : Hid (T.length < 4294967296) := nod_small HND.out HPT.out.bt HTM.out HAA.out
              obtain ⟨w4, HW4⟩ : ∃ w4, Hid (w4 = w3.alloc (.cells #[.int .i64 (a : Int)] 3)) := ⟨_, rfl⟩
              have hb4 : Below w3.heap.size w3 w4 := by rw [HW4.out]; exact (Below.refl _ _).alloc (Nat.le_refl _) _
              have r4 : w4.heap[w3.heap.size]? = some (.cells #[.int .i64 (a : Int)] 3 (0, 0)) := by rw [HW4.out]; exact heap_alloc_new w3 _
              obtain ⟨v', w5, hap, ho5, hg5, hn5⟩ := append_int w4 75 0 vt T a w3.heap.size (HPT.out.below hb4).ot (by rw [cell_of_row _ _ _ _ _ _ r4]; rfl) (Nat.zero_le _) (by have := HTL.out; omega)
              obtain ⟨av5, lv5, cv5, e5, -⟩ := ho5.shape
              subst e5
              have HTU := hid ((HPT.out.below hb4).store (Keeps.grown hg5 (fun k hk => hk)) ho5 hn5.nw (by rw [List.length_append]; exact HTL.out) (fun n hn => by
                rw [List.mem_append, List.mem_singleton] at hn
                rcases hn with hn | rfl
                · exact HPT.out.bt n hn
                · exact HAA.out))
              have HTU2 := hid ((HTU.out.from hb4).from HWT.out)
              have HAP := hid hap
              have s6 : w5.cell? ⟨rb, 6, none⟩ = some vt ∧ w5.frozen? ⟨rb, 6, none⟩ = false := by
                have hr := (hg5.block rb (Array.getElem?_eq_some_iff.1 (HPT.out.below hb4).row).1 (fun e => ownN_ne (HPT.out.below hb4).ot (HPT.out.below hb4).row e.symm)).trans (HPT.out.below hb4).row
                exact ⟨by rw [cell_of_row _ _ _ _ _ _ hr]; rfl, frozen_of_row _ _ _ _ _ hr⟩
              obtain ⟨s6a, s6b⟩ := s6
              clear hb4 r4 hap ho5 hg5 hn5 HTU
              go_upto_region 13 with (at_builtin; rw [← HW4.out]; refine wpList_append_run _ rfl _ _ 75 75 rfl _ _ rfl rfl HAP.out ?_)
              go_wp2_with fail
              go_ret
              exact .inr (.inr (.inr ⟨hal, hin, HR.out, HTM.out, rfl, _, HTU2.out⟩))
          | false =>
            have HO := HOUT (by omega) rfl
            clear g1 g2 HOUT HROW
            go_wp2_with fail
            go_ret
            exact .inr (.inl ⟨hal, .inr HO.out, rfl, HWT.out⟩)
        · have g2' : ¬ (hi : Int) < (a : Int) := int_nlt g2
          have HR := HROW (.inl (by omega))
          clear g1 g2 HOUT HROW
          go_upto_region 9 with fail
          go_wp2_with fail
          refine HIT2.out.mono ?_
          rintro _ _ ⟨rfl, ew⟩
          obtain rfl := ew.symm
          clear ew HIT2
          cases tb with
          | true =>
            have HTM : Hid (a ∈ T) := by have := HTB.out; unfold Hid; simpa using this.symm
            go_wp2_with fail
            go_ret
            exact .inr (.inr (.inl ⟨hal, hin, HR.out, HTM.out, rfl, HWT.out⟩))
          | false =>
            have HTM : Hid (a ∉ T) := by have := HTB.out; unfold Hid; simpa using this.symm
            have HTL : Hid (T.length < 4294967296) := nod_small HND.out HPT.out.bt HTM.out HAA.out
            obtain ⟨w4, HW4⟩ : ∃ w4, Hid (w4 = w3.alloc (.cells #[.int .i64 (a : Int)] 3)) := ⟨_, rfl⟩
            have hb4 : Below w3.heap.size w3 w4 := by rw [HW4.out]; exact (Below.refl _ _).alloc (Nat.le_refl _) _
            have r4 : w4.heap[w3.heap.size]? = some (.cells #[.int .i64 (a : Int)] 3 (0, 0)) := by rw [HW4.out]; exact heap_alloc_new w3 _
            obtain ⟨v', w5, hap, ho5, hg5, hn5⟩ := append_int w4 75 0 vt T a w3.heap.size (HPT.out.below hb4).ot (by rw [cell_of_row _ _ _ _ _ _ r4]; rfl) (Nat.zero_le _) (by have := HTL.out; omega)
            obtain ⟨av5, lv5, cv5, e5, -⟩ := ho5.shape
            subst e5
            have HTU := hid ((HPT.out.below hb4).store (Keeps.grown hg5 (fun k hk => hk)) ho5 hn5.nw (by rw [List.length_append]; exact HTL.out) (fun n hn => by
              rw [List.mem_append, List.mem_singleton] at hn
              rcases hn with hn | rfl
              · exact HPT.out.bt n hn
              · exact HAA.out))
            have HTU2 := hid ((HTU.out.from hb4).from HWT.out)
            have HAP := hid hap
            have s6 : w5.cell? ⟨rb, 6, none⟩ = some vt ∧ w5.frozen? ⟨rb, 6, none⟩ = false := by
              have hr := (hg5.block rb (Array.getElem?_eq_some_iff.1 (HPT.out.below hb4).row).1 (fun e => ownN_ne (HPT.out.below hb4).ot (HPT.out.below hb4).row e.symm)).trans (HPT.out.below hb4).row
              exact ⟨by rw [cell_of_row _ _ _ _ _ _ hr]; rfl, frozen_of_row _ _ _ _ _ hr⟩
            obtain ⟨s6a, s6b⟩ := s6
            clear hb4 r4 hap ho5 hg5 hn5 HTU
            go_upto_region 13 with (at_builtin; rw [← HW4.out]; refine wpList_append_run _ rfl _ _ 75 75 rfl _ _ rfl rfl HAP.out ?_)
            go_wp2_with fail
            go_ret
            exact .inr (.inr (.inr ⟨hal, hin, HR.out, HTM.out, rfl, _, HTU2.out⟩))
end Go.Proofs.Ytahoileampdnkaa
