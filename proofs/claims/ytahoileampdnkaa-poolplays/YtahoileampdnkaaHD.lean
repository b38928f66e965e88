/-
  The reference's Free.
-/
import Derived.Test.YtahoileampdnkaaHC
namespace Go.Proofs.Ytahoileampdnkaa
open Go.ChangeShapes Go.WideShapes Go.ChangeAt Go.RowKit Ru N Tri
set_option maxHeartbeats 2000000
set_option maxRecDepth 100000

theorem OwnN.low {w : World} {B B' : Nat} {v : Value} {L : List Nat} (h : OwnN w B v L) (hb : B' ≤ B) : OwnN w B' v L := by
  refine ⟨h.1, ?_⟩
  rcases h.2 with hn | ⟨g, cap, cur, rfl, hbb, hg, rest⟩
  · exact .inl hn
  · exact .inr ⟨g, cap, cur, rfl, Nat.le_trans hb hbb, hg, rest⟩

/-- What the reference's Free answers. -/
def FreesR (rb x : Nat) (y : Int) (sub lo hi : Nat) (vk vt : Value) (A T : List Nat) (a : Nat) (b : Int) (w : World) (e : Ending) (w' : World) : Prop :=
  ((b ≠ (sub : Int) ∨ a ∉ T) ∧ e = .returned (.int .i64 3) ∧ Below w.heap.size w w') ∨
  (b = (sub : Int) ∧ a ∈ T ∧ e = .returned (.int .i64 0) ∧ ∃ vt', RTurn rb x y sub lo hi vk vt A w w' vt' (T.filter fun n => !decide (n = a)))

theorem freeR (rb x : Nat) (y : Int) (sub lo hi : Nat) (vk vt : Value) (A T : List Nat) (a : Nat) (b : Int) (w : World) (hp : RAt w rb x y sub lo hi vk vt A T) (ha : a < 4294967296) :
    Calls Try.prog 44 #[.pointer (some ⟨rb, 0, none⟩), .agg #[.int .u32 (a : Int), .int .i64 b]] w (FreesR rb x y sub lo hi vk vt A T a b w) := by
  obtain ⟨wa, HWA⟩ : ∃ wa, Hid (wa = w.alloc (.cells #[.int .u32 (a : Int), .int .i64 b] 25)) := ⟨_, rfl⟩
  have hb0 : Below w.heap.size w wa := by rw [HWA.out]; exact (Below.refl _ _).alloc (Nat.le_refl _) _
  have r1 : wa.heap[w.heap.size]? = some (.cells #[.int .u32 (a : Int), .int .i64 b] 25) := by rw [HWA.out]; exact heap_alloc_new w _
  obtain ⟨q0, q1⟩ := Beh.two r1
  have HB0 := hid hb0
  have HP0 := hid hp
  have HP := hid (hp.below hb0)
  have HPw : ∀ t : Beh wa, RAt t.wd rb x y sub lo hi vk vt A T := fun t => HP.out.below t.ok
  obtain ⟨av, nv, cv, rfl, HNV, hv1, hv2⟩ := hp.ot.shape
  have hbw : ∀ t : Beh wa, Below w.heap.size w t.wd := fun t => HB0.out.trans (t.ok.mono HB0.out.size)
  obtain ⟨tb, HTB⟩ : ∃ tb, Hid (tb = decide (a ∈ T)) := ⟨_, rfl⟩
  have HIT : ∀ t : Beh wa, Hid (Calls Try.prog 41 #[.slice av nv cv, .int .i64 (a : Int)] t.wd fun e w' => e = .returned (.bool tb) ∧ ∃ t' : Beh wa, w' = t'.wd) := fun t => by
    rw [HTB.out]; exact (inR 0 _ T a t.wd (HPw t).ot (HPw t).lt).mono fun e w' ⟨h1, h2⟩ => ⟨h1, t, h2⟩
  have k2 : ∀ t : Beh wa, t.wd.cell? ⟨rb, 2, none⟩ = some (.int .i64 (sub : Int)) := fun t => (HPw t).cells.2.2.1
  have k6 : ∀ t : Beh wa, t.wd.cell? ⟨rb, 6, none⟩ = some (.slice av nv cv) := fun t => (HPw t).cells.2.2.2.2.2.2.1
  have HLT := hid hp.lt
  have wv : wrap64 (a : Int) = (a : Int) := wrap_nat' (Nat.le_of_lt ha)
  have HWV := hid wv
  clear hp hb0 r1 ha
  go_enter Try.func44, Try.ntmps44
  go_upto_region 1 with fail
  rw [← HWA.out]
  refine wp_region_beh (by kernel_rfl) (by kernel_rfl) ?_
  repeat (go_big_quiet_step (first | (go_at_call 41; exact (HIT _).out)))
  refine wpQuiet_nil ?_
  rintro _ ⟨t1, rfl⟩
  have hcv : ∀ t : Beh t1.wd, Below wa.heap.size wa t.wd := fun t => t1.ok.trans (t.ok.mono t1.ok.size)
  have j1 : ∀ t : Beh t1.wd, t.wd.cell? ⟨w.heap.size, 1, none⟩ = some (.int .i64 b) := fun t => q1 ⟨t.wd, hcv t⟩
  have j2 : ∀ t : Beh t1.wd, t.wd.cell? ⟨rb, 2, none⟩ = some (.int .i64 (sub : Int)) := fun t => k2 ⟨t.wd, hcv t⟩
  clear wv HIT
  by_cases hb : b = (sub : Int)
  · subst hb
    have e1 : ((sub : Int) != (sub : Int)) = false := by simp
    cases tb with
    | false =>
      have HNT : Hid (a ∉ T) := by have := HTB.out; unfold Hid; simpa using this.symm
      go_upto_region 2 with fail
      refine wp_region_beh (by kernel_rfl) (by kernel_rfl) ?_
      repeat (go_big_quiet_step (fail))
      refine wpQuiet_nil ?_
      rintro _ ⟨t2, rfl⟩
      have HBF := hid (hbw ⟨t2.wd, hcv t2⟩)
      go_wp2_with fail
      go_ret
      exact Or.inl ⟨.inr HNT.out, rfl, HBF.out⟩
    | true =>
      have HTM : Hid (a ∈ T) := by have := HTB.out; unfold Hid; simpa using this.symm
      go_upto_region 2 with fail
      refine wp_region_beh (by kernel_rfl) (by kernel_rfl) ?_
      repeat (go_big_quiet_step (fail))
      refine wpQuiet_nil ?_
      rintro _ ⟨t2', rfl⟩
      obtain ⟨w2, HW2⟩ : ∃ w2, Hid (w2 = t2'.wd) := ⟨_, rfl⟩
      have HBA : Hid (Below wa.heap.size wa w2) := by unfold Hid; rw [HW2.out]; exact hcv t2'
      rw [← HW2.out]
      clear HW2 j1 j2 hcv e1
      obtain ⟨F, HF⟩ : ∃ F : Nat → Bool, Hid (F = fun n => !decide (n = a)) := ⟨_, rfl⟩
      go_upto_region 6 with fail
      go_loopw [6, 7] (fun l i wr => ∃ j : Nat, i = .int .i64 (j : Int) ∧ j ≤ nv ∧ Hid (OwnN wr w2.heap.size l ((T.take j).filter F)) ∧ Hid (Below w2.heap.size w2 wr)) (fun _ i _ => nv - (intOf i).toNat)
      case atStart => exact ⟨0, rfl, Nat.zero_le _, hid ⟨rfl, .inl ⟨rfl, rfl⟩⟩, Below.refl _ _⟩
      case round =>
        obtain ⟨j, rfl, hj, HO, HB⟩ := hrel
        have hbr : Below wa.heap.size wa wr := HBA.out.trans (HB.out.mono HBA.out.size)
        have HBR := hid hbr
        have c6 := k6 ⟨wr, hbr⟩
        simp only at c6
        clear hbr
        by_cases hjn : j < nv
        · obtain ⟨x1, HX⟩ : ∃ x1, Hid (T[j]? = some x1) := ⟨_, hid (List.getElem?_eq_getElem (by have := HNV.out; omega))⟩
          obtain ⟨g, e, hg, hcl⟩ := HP.out.ot.at HX.out
          subst e
          have hcr : ∀ t : Beh wr, Below wa.heap.size wa t.wd := fun t => HBR.out.trans (t.ok.mono HBR.out.size)
          have y0 : ∀ t : Beh wr, t.wd.cell? ⟨g, j, none⟩ = some (.int .i64 (x1 : Int)) := fun t => hcl t.wd ((hcr t).block g hg)
          have y1 : ∀ t : Beh wr, t.wd.cell? ⟨rb, 6, none⟩ = some (.slice (some ⟨g, 0, none⟩) nv cv) := fun t => k6 ⟨t.wd, hcr t⟩
          have y2 : ∀ t : Beh wr, t.wd.cell? ⟨w.heap.size, 0, none⟩ = some (.int .u32 (a : Int)) := fun t => q0 ⟨t.wd, hcr t⟩
          have HTK : Hid ((T.take (j + 1)).filter F = (T.take j).filter F ++ (if F x1 then [x1] else [])) := by
            obtain ⟨hl, he⟩ := List.getElem?_eq_some_iff.1 HX.out
            unfold Hid; rw [List.take_succ_eq_append_getElem hl, he, List.filter_append]
            congr 1
            cases h : F x1 <;> simp [List.filter, h]
          have HFL : Hid (((T.take j).filter F).length ≤ 4294967296) := Nat.le_trans (List.length_filter_le _ _) (by rw [List.length_take]; have := HLT.out; omega)
          have b1 : (j : Int) < (nv : Int) := int_lt hjn
          have b2 : (0 : Int) ≤ (j : Int) := by omega
          have b3 : decide ((j : Int) < 0) = false := by simp
          have wv := HWV.out
          clear hcl hg
          by_cases he : x1 = a
          · have e1 : ((x1 : Int) != (a : Int)) = false := by simp [he]
            have HTK2 : Hid ((T.take (j + 1)).filter F = (T.take j).filter F) := by unfold Hid; rw [HTK.out, HF.out]; simp [he]
            go_upto_region 8 with fail
            refine wp_region_beh (by kernel_rfl) (by kernel_rfl) ?_
            repeat (go_big_quiet_step (fail))
            refine wpQuiet_nil ?_
            rintro _ ⟨t, rfl⟩
            have HO2 : Hid (OwnN t.wd w2.heap.size u6 ((T.take (j + 1)).filter F)) := by unfold Hid; rw [HTK2.out]; exact HO.out.below t.ok
            have HB2 : Hid (Below w2.heap.size w2 t.wd) := HB.out.trans (t.ok.mono HB.out.size)
            clear y0 y1 y2 hcr wv
            go_wp2_with fail
            go_roundw
            case rel => exact ⟨j + 1, by go_num, hjn, HO2, HB2⟩
            case measure => simp [intOf]; omega
          · have e1 : ((x1 : Int) != (a : Int)) = true := by simp; omega
            have e2 : ¬ (x1 : Int) = (a : Int) := by omega
            have hFx : F x1 = true := by rw [HF.out]; simp [he]
            go_upto_region 8 with fail
            refine wp_region_beh (by kernel_rfl) (by kernel_rfl) ?_
            repeat (go_big_quiet_step (fail))
            refine wpQuiet_nil ?_
            rintro _ ⟨t, rfl⟩
            have z0 := y0 t
            have z1 := y1 t
            obtain ⟨w4, HW4⟩ : ∃ w4, Hid (w4 = t.wd.alloc (.cells #[.int .i64 (x1 : Int)] 3)) := ⟨_, rfl⟩
            have hb4 : Below t.wd.heap.size t.wd w4 := by rw [HW4.out]; exact (Below.refl _ _).alloc (Nat.le_refl _) _
            have r4 : w4.heap[t.wd.heap.size]? = some (.cells #[.int .i64 (x1 : Int)] 3 (0, 0)) := by rw [HW4.out]; exact heap_alloc_new t.wd _
            have hb24 : Below w2.heap.size w2 w4 := (HB.out.trans (t.ok.mono HB.out.size)).trans (hb4.mono (Nat.le_trans HB.out.size t.ok.size))
            obtain ⟨v', w5, hap, ho5, hg5, hn5⟩ := append_int w4 75 w2.heap.size u6 ((T.take j).filter F) x1 t.wd.heap.size ((HO.out.below t.ok).below hb4) (by rw [cell_of_row _ _ _ _ _ _ r4]; rfl) hb24.size (by have := HFL.out; omega)
            have HO2 : Hid (OwnN w5 w2.heap.size v' ((T.take (j + 1)).filter F)) := by unfold Hid; rw [HTK.out, if_pos hFx]; exact ho5
            have HB2 : Hid (Below w2.heap.size w2 w5) := by
              refine ⟨hg5.os.trans hb24.os, hg5.tape.trans hb24.tape, hg5.output.trans hb24.output, Nat.le_trans hb24.size hg5.size, fun k hk => (hg5.block k (Nat.lt_of_lt_of_le hk hb24.size) (fun e => ?_)).trans (hb24.block k hk)⟩
              have h5 := (World.ownsRow.lt HO.out k e.symm).1
              omega
            have HAP := hid hap
            clear y0 y1 y2 hcr wv hb4 r4 hb24 hap ho5 hg5 hn5 hFx
            go_upto_region 7 with (at_builtin; rw [← HW4.out]; refine wpList_append_run _ rfl _ _ 75 75 rfl _ _ rfl rfl HAP.out ?_)
            go_wp2_with fail
            go_roundw
            case rel => exact ⟨j + 1, by go_num, hjn, HO2, HB2⟩
            case measure => simp [intOf]; omega
        · have b1 : ¬ (j : Int) < (nv : Int) := int_nlt hjn
          have HO3 : Hid (OwnN wr w2.heap.size u6 (T.filter F)) := by
            have h := HO.out
            rw [List.take_of_length_le (by have := HNV.out; omega)] at h
            exact h
          obtain ⟨al, nl, cl, el, -⟩ := HO3.out.shape
          subst el
          have HPR := hid (HP.out.below HBR.out)
          have f6 := HPR.out.cells.2.2.2.2.2.2.2
          have HO0 : OwnN wr 0 (.slice al nl cl) (T.filter F) := HO3.out.low (Nat.zero_le _)
          have hbwr : Below w.heap.size w wr := HB0.out.trans (HBR.out.mono HB0.out.size)
          have HTU := hid (HP0.out.store (u := wr) (Keeps.of hbwr) HO0 (fun g hg => .inr (Nat.le_trans (Nat.le_trans HB0.out.size HBA.out.size) (World.ownsRow.lt HO3.out g hg).1)) (Nat.le_trans (List.length_filter_le _ _) HLT.out) (fun n hn => HP0.out.bt n (List.mem_filter.1 hn).1))
          rw [HF.out] at HTU
          clear HO0 hbwr
          go_wp2_with fail
          go_ret
          exact Or.inr ⟨rfl, HTM.out, rfl, _, HTU.out⟩
  · have e1 : (b != (sub : Int)) = true := by simp [hb]
    have e2 : (b == (sub : Int)) = false := by simp [hb]
    go_upto_region 2 with fail
    refine wp_region_beh (by kernel_rfl) (by kernel_rfl) ?_
    repeat (go_big_quiet_step (fail))
    refine wpQuiet_nil ?_
    rintro _ ⟨t2, rfl⟩
    have HBF := hid (hbw ⟨t2.wd, hcv t2⟩)
    go_wp2_with fail
    go_ret
    exact Or.inl ⟨.inl hb, rfl, HBF.out⟩
end Go.Proofs.Ytahoileampdnkaa
