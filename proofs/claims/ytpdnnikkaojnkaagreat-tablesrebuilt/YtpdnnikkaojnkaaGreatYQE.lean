import Derived.Test.YtpdnnikkaojnkaaGreatYQD
namespace Go.Proofs.YtpdnnikkaojnkaaGreat.Rt
open Go.Proofs.YtpdnnikkaojnkaaGreat Go.ChangeShapes Go.WideShapes Go.ChangeAt Go.RowKit Go.Maps Tri N
set_option maxHeartbeats 8000000
set_option maxRecDepth 100000
theorem rebuilt_walk (r n f : Int) (a : Option Addr) (l cp : Nat) (A : List Opv) (a' : Option Addr) (l' cp' : Nat) (_ : Unit) (w : World) (hs : SeesOp (fun c => c < w.heap.size) w a l A) (hA : ∀ o ∈ A, o.Ok) (hl : l ≤ 9223372036854775807) (hs' : SeesA w a' l') :
    Calls Tryz.prog 3 #[.agg #[.int .i64 r, .int .i64 n, .int .i64 f], .slice a l cp, .slice a' l' cp'] w fun e w' => e = .returned (.bool true) ∧ Below w.heap.size w w' := by
  obtain ⟨w1, HW1⟩ : ∃ w1, Hid (w1 = w.alloc (.cells #[.int .i64 r, .int .i64 n, .int .i64 f] 23)) := ⟨_, rfl⟩
  have hb1 : Below w.heap.size w w1 := by rw [HW1.out]; exact (Below.refl _ _).alloc (Nat.le_refl _) _
  have r1 : w1.heap[w.heap.size]? = some (.cells #[.int .i64 r, .int .i64 n, .int .i64 f] 23) := by rw [HW1.out]; exact heap_alloc_new w _
  have c0 : w1.cell? ⟨w.heap.size, 0, none⟩ = some (.int .i64 r) := by rw [cell_of_row _ _ _ _ _ _ r1]; rfl
  have c1 : w1.cell? ⟨w.heap.size, 1, none⟩ = some (.int .i64 n) := by rw [cell_of_row _ _ _ _ _ _ r1]; rfl
  have c2 : w1.cell? ⟨w.heap.size, 2, none⟩ = some (.int .i64 f) := by rw [cell_of_row _ _ _ _ _ _ r1]; rfl
  have HB1 := hid hb1
  have HR1 := hid r1
  have HNA := hid hs.1
  have HSA : Hid (SeesOp (fun c => c < w1.heap.size) w1 a l A) := (hs.below hb1).more fun c _ hc => Nat.lt_of_lt_of_le hc hb1.size
  have HSD := hid (hs'.below hb1)
  have hl2 := hs'.1
  have HA := hid hA
  have HC := hid (newK_any w1 r n f)
  clear hb1 r1 hs hs' hA
  go_enter Tryz.func3, Tryz.ntmps3
  go_upto_region 1 with fail
  rw [← HW1.out]
  clear HW1
  go_wp2_with fail
  refine HC.out.mono ?_
  intro e w2 hp
  by_cases hcap : Cap r n f
  · obtain ⟨b1, rfl, hk1, hb2⟩ := hp.1 hcap
    have r2 := below_keeps hb2 HR1.out (Array.getElem?_eq_some_iff.1 HR1.out).1
    have d0 : w2.cell? ⟨w.heap.size, 0, none⟩ = some (.int .i64 r) := by rw [cell_of_row _ _ _ _ _ _ r2]; rfl
    have d1 : w2.cell? ⟨w.heap.size, 1, none⟩ = some (.int .i64 n) := by rw [cell_of_row _ _ _ _ _ _ r2]; rfl
    have d2 : w2.cell? ⟨w.heap.size, 2, none⟩ = some (.int .i64 f) := by rw [cell_of_row _ _ _ _ _ _ r2]; rfl
    have HK1 := hid hk1
    have HB2 := hid hb2
    have HCC := hid hcap
    have HC2 := hid (newK_any w2 r n f)
    clear hp hk1 hb2 r2 c0 c1 c2 hcap HC
    go_wp2_with fail
    refine HC2.out.mono ?_
    intro e w3 hp
    obtain ⟨b2, rfl, hk2, hb3⟩ := hp.1 HCC.out
    have HKK : Hid (∃ t, K2 w1 w3.heap.size w3 b1.kb b2.kb t ⟨[], [], [], t.cr, t.cn, t.cf⟩ ∧ LocOk t) := ⟨_, ⟨KK.new rfl HK1.out HB2.out hk2 hb3, HB2.out.trans (hb3.mono HB2.out.size), Nat.le_refl _⟩, fun v hv => by cases hv⟩
    have HF := hid (first_any w3)
    generalize b1.kb = k1 at HKK ⊢
    generalize b2.kb = k2 at HKK ⊢
    obtain ⟨NN, HNN⟩ : ∃ NN, Hid (NN = w3.heap.size) := ⟨_, rfl⟩
    rw [← HNN.out] at HKK
    clear hp hk2 hb3 d0 d1 d2 HC2 HK1 HB2
    go_wp2_with fail
    refine HF.out.mono ?_
    rintro _ w4 ⟨rfl, hb4⟩
    have HI0 : Hid (∃ t, K2 w1 NN w4 k1 k2 t ⟨[], [], [], t.cr, t.cn, t.cf⟩ ∧ LocOk t) := by
      obtain ⟨t, ht, hlo⟩ := HKK.out
      exact ⟨t, ht.below hb4, hlo⟩
    clear hb4 HF HKK HNN
    go_upto_region 8 with fail
    go_loopw [11] (fun i wr => ∃ (j : Nat), i = .int .i64 (j : Int) ∧ j ≤ l ∧ Hid (∃ t, K2 w1 NN wr k1 k2 t ⟨[], [], [], t.cr, t.cn, t.cf⟩ ∧ LocOk t)) (fun i _ => l - (intOf i).toNat)
    case atStart => exact ⟨0, rfl, Nat.zero_le _, HI0⟩
    case round =>
    obtain ⟨j, rfl, hj, HI⟩ := hrel
    obtain ⟨t, ht, hlo⟩ := HI.out
    have HT := hid ht
    have HLO := hid hlo
    clear ht hlo HI
    by_cases hlt : j < l
    · have hlt' : (j : Int) < (l : Int) := int_lt hlt
      have hj0 : (0 : Int) ≤ (j : Int) := by omega
      obtain ⟨o, HO⟩ : ∃ o, Hid (A[j]? = some o) := ⟨_, hid (List.getElem?_eq_getElem (by have := HNA.out; omega))⟩
      have hok := HA.out o (List.mem_of_getElem? HO.out)
      obtain ⟨g, off, rfl, hld⟩ := (HSA.out.below HT.out.bel).load HO.out
      obtain ⟨v0, v1, v2, v3, v4, v5, v6, v7, v8, v9, v10, v11, v12, v13, v14, v15, v16, v17, v18, HOC⟩ : ∃ v0 v1 v2 v3 v4 v5 v6 v7 v8 v9 v10 v11 v12 v13 v14 v15 v16 v17 v18, Hid (o.cells = #[v0, v1, v2, v3, v4, v5, v6, v7, v8, v9, v10, v11, v12, v13, v14, v15, v16, v17, v18]) := ⟨_, _, _, _, _, _, _, _, _, _, _, _, _, _, _, _, _, _, _, rfl⟩
      rw [HOC.out] at hld
      have HLD := hid hld
      obtain ⟨w5, HW5⟩ : ∃ w5, Hid (w5 = wr.alloc (.cells #[v0, v1, v2, v3, v4, v5, v6, v7, v8, v9, v10, v11, v12, v13, v14, v15, v16, v17, v18] 46)) := ⟨_, rfl⟩
      have HC5 := hid (HT.out.one (w' := w5) (by rw [HW5.out, HOC.out]) hok)
      clear hld
      go_wp2_with (first | (refine wpList_ld 46 ⟨g, off + j * 19, none⟩ (.tmp 64) rfl rfl HLD.out rfl ?_) | fail)
      rw [← HW5.out]
      refine HC5.out.mono ?_
      rintro _ w6 ⟨rfl, hk6⟩
      have HI8 : Hid (∃ t, K2 w1 NN w6 k1 k2 t ⟨[], [], [], t.cr, t.cn, t.cf⟩ ∧ LocOk t) := by
        obtain ⟨e1, e2, e3⟩ := one_caps t o
        exact ⟨oneS t o, by rw [e1, e2, e3]; exact hk6, HLO.out.one HT.out.kk.ok o⟩
      obtain ⟨q1, hq1⟩ : ∃ q1 : Int, q1 = (((if oneE t o = 0 then 1 else 0 : Nat)) : Int) := ⟨_, rfl⟩
      obtain ⟨q2, hq2⟩ : ∃ q2 : Int, q2 = oneE t o := ⟨_, rfl⟩
      rw [← hq1, ← hq2]
      clear hk6 HC5 HLD HT hq1 hq2 HW5 HOC hok HLO
      go_wp2_with fail
      go_roundw
      case rel => exact ⟨j + 1, by go_num, hlt, HI8⟩
      case measure => simp [intOf]; omega
    · have hlt' : ¬ (j : Int) < (l : Int) := int_nlt hlt
      have HDA := hid HT.out.kk.dump
      clear hlt
      go_wp2_with fail
      refine HDA.out.mono ?_
      rintro _ w7 ⟨_, rfl, x1, y1, z1, rfl, ⟨A1, o1, s1⟩, ⟨A2, o2, s2⟩, ⟨A3, o3, s3⟩, hb7⟩
      have hl3 : Ls3 t A1 A2 A3 := ⟨s1, s2, s3⟩
      have hok := HT.out.kk.ok
      obtain ⟨hko, hlo⟩ := hl3.ok hok HLO.out
      have HL3 := hid hl3
      have HOK := hid hok
      have HKO := hid hko
      have HLK := hid hlo
      have HK7 := hid (HT.out.below hb7)
      have HLA : Hid (A1.length ≤ 256 ∧ A2.length ≤ 256 ∧ A3.length ≤ 256) := ⟨Nat.le_trans hko.rl.1 hko.rl.2, Nat.le_trans hko.nl.1 hko.nl.2, Nat.le_trans hko.fl.1 hko.fl.2⟩
      have hNr := HT.out.hi
      have HX7 : Hid (Own kR w7 NN x1 A1 ∧ Own kN w7 NN y1 A2 ∧ Own kF w7 NN z1 A3) := ⟨(own_R.2 o1).low hNr, (own_N.2 o2).low hNr, (own_F.2 o3).low hNr⟩
      have HO1 : Hid (x1.oneCell' = true ∧ y1.oneCell' = true ∧ z1.oneCell' = true) := by
        obtain ⟨_, _, _, rfl, -⟩ := (own_R.2 o1).shape
        obtain ⟨_, _, _, rfl, -⟩ := (own_N.2 o2).shape
        obtain ⟨_, _, _, rfl, -⟩ := (own_F.2 o3).shape
        exact ⟨rfl, rfl, rfl⟩
      have HN7 : Hid (NN ≤ w7.heap.size) := Nat.le_trans hNr hb7.size
      clear o1 o2 o3 s1 s2 s3 hb7 hko hlo hl3 hok hNr HDA HT HLO
      go_upto_region 12 with (first | (refine wpList_alB rfl 51 #[.slice none 0 0, .slice none 0 0, .slice none 0 0] rfl (fun u => by kernel_rfl) ?_; intro w8 hb8 hs8 hr8) | (refine wpList_stB rfl 51 (.tmp 12) (.tmp 69) rfl w7.heap.size #[x1, y1, z1] rfl rfl _ hr8 (by kernel_rfl) rfl (by simp [HO1.out.1, HO1.out.2.1, HO1.out.2.2]) ?_; intro w9 hbt9 hr9) | fail)
      have hb9 : Below w7.heap.size w7 w9 := ⟨hbt9.os.trans hb8.os, hbt9.tape.trans hb8.tape, hbt9.output.trans hb8.output, Nat.le_trans hb8.size hbt9.size, fun k hk => (hbt9.block k (by omega) (by omega)).trans (hb8.block k hk)⟩
      obtain ⟨tb, HTB⟩ : ∃ tb, Hid (tb = w7.heap.size) := ⟨_, rfl⟩
      rw [← HTB.out] at hr9 ⊢
      have HX9 : Hid (Own kR w9 NN x1 A1 ∧ Own kN w9 NN y1 A2 ∧ Own kF w9 NN z1 A3) := ⟨HX7.out.1.below hb9, HX7.out.2.1.below hb9, HX7.out.2.2.below hb9⟩
      have HK9 := hid (HK7.out.below hb9)
      have HR9 := hid hr9
      have HTN : Hid (NN ≤ tb) := by unfold Hid; rw [HTB.out]; exact HN7.out
      have HN9 : Hid (NN ≤ w9.heap.size) := Nat.le_trans HN7.out hb9.size
      have HLD9 : Hid ((Instr.loadAt 51 (.pointer (some ⟨tb, 0, none⟩))).run Tryz.prog w9 = .ok (.agg #[x1, y1, z1]) w9) := box_load hr9 Tryz.underlying51 rfl (by kernel_rfl)
      have HPU := hid (puts_any w9 x1 y1 z1 A1 A2 A3 (HX9.out.1.low (Nat.zero_le _)) (HX9.out.2.1.low (Nat.zero_le _)) (HX9.out.2.2.low (Nat.zero_le _)) HLA.out.1 HLA.out.2.1 HLA.out.2.2)
      clear hb8 hs8 hr8 hbt9 hr9 hb9 HK7 HX7 HTB HN7
      go_wp2_with (first | (refine wpList_ld 51 ⟨tb, 0, none⟩ (.tmp 12) rfl rfl HLD9.out rfl ?_) | fail)
      refine HPU.out.mono ?_
      rintro _ w10 ⟨va, rfl, hall, hb10⟩
      obtain ⟨av, nv, cv, rfl, HNV, -, -⟩ := hall.shape
      have HPL : Hid ((putsL A1 A2 A3).length ≤ 768) := putsL_len HKO.out
      have HPO : Hid (∀ o ∈ putsL A1 A2 A3, o.Ok) := putsL_ok HKO.out
      have hrb : Rb w1 NN w10 k1 k2 t ⟨[], [], [], t.cr, t.cn, t.cf⟩ tb x1 y1 z1 A1 A2 A3 (.slice av nv cv) (putsL A1 A2 A3) := ⟨HK9.out.below hb10, below_keeps hb10 HR9.out (Array.getElem?_eq_some_iff.1 HR9.out).1, HTN.out, HX9.out.1.below hb10, HX9.out.2.1.below hb10, HX9.out.2.2.below hb10, hall.low HN9.out⟩
      obtain ⟨e1, e2, e3⟩ := puts_do HKO.out HLK.out
      have HD2 := hid (hrb.do2 hrb.all HPO.out HPL.out)
      rw [e1, e2, e3, ← HNV.out] at HD2
      have HFD : Hid (∀ (u : World) (s2 : Ks), Rb w1 NN u k1 k2 t s2 tb x1 y1 z1 A1 A2 A3 (.slice av nv cv) (putsL A1 A2 A3) → Calls Tryz.prog 13 #[.pointer (some ⟨k1, 0, none⟩)] u fun e w' => e = .returned (.tuple #[]) ∧ Calls Tryz.prog 7 #[.pointer (some ⟨k1, 0, none⟩), .slice av nv cv] w' fun e w'' => e = .returned (.tuple #[.int .i64 (nv : Int), .int .i64 0]) ∧ Re w1 w'' k1 ⟨A1.reverse, A2.reverse, A3.reverse, t.cr, t.cn, t.cf⟩ tb x1 y1 z1 A1 A2 A3) := fun u s2 h => by
        have h2 := h.flush HPO.out HPL.out
        rw [e1, e2, e3, ← HNV.out] at h2
        exact h2
      have hnv : nv ≤ 768 := by rw [HNV.out]; exact HPL.out
      clear hrb hall hb10 HPU HLD9 HK9 HX9 HR9 HTN HN9 e1 e2 e3
      go_wp2_with fail
      refine HD2.out.mono ?_
      rintro _ w11 ⟨rfl, h11⟩
      have HRB := hid h11
      clear h11 HD2
      go_upto_region 14 with fail
      have HLT : Hid (∀ u : World, Below w11.heap.size w11 u → (Instr.loadAt 51 (.pointer (some ⟨tb, 0, none⟩))).run Tryz.prog u = .ok (.agg #[x1, y1, z1]) u) := fun u hu => box_load (HRB.out.below hu).row Tryz.underlying51 rfl (by kernel_rfl)
      have HGD : Hid (∀ u : World, Below w11.heap.size w11 u → Gd A1 A2 A3 (.agg #[x1, y1, z1]) u) := fun u hu => (HRB.out.below hu).gd
      have HDU : Hid (∀ u : World, Below w11.heap.size w11 u → Calls Tryz.prog 8 #[.pointer (some ⟨k2, 0, none⟩)] u fun e u' => ∃ v, e = .returned v ∧ Gd A1 A2 A3 v u' ∧ Below u.heap.size u u') := fun u hu => by
        refine (HRB.out.below hu).k.swap.kk.dump.mono ?_
        rintro e u' ⟨v, he, hd⟩
        exact ⟨v, he, dmp_gd hd (HL3.out.rev _ _ _)⟩
      refine Go.Proofs.YtpdnnikkaojnkaaGreat.NO.wp_region_guarded' 14 (fun i => 78 + i) (FQ [.int .i64 (nv : Int), .slice av nv cv, .int .i64 (nv : Int), .bool false, .bool false, .int .i64 0, .bool false, .bool false, .bool false, .agg #[x1, y1, z1], .pointer (some ⟨k2, 0, none⟩), undef, .bool true, .bool false] (Gd A1 A2 A3)) (fun u => Below w11.heap.size w11 u) (fun _ u u' => Below u.heap.size u u') (by kernel_rfl) (by kernel_rfl) ⟨rfl, rfl, rfl, Nat.le_refl _, fun _ _ => rfl⟩ (fun i _ v u u' _ hf _ hr => FQ.keeps (fun _ _ _ h hb => h.below hb) hf hr) ?_ ?_
      · simp only [List.take_succ_cons, List.take_zero, Go.Proofs.YtpdnnikkaojnkaaGreat.NO.stepsG]
        refine ⟨?_, ?_, ?_, ?_, ?_, ?_, ?_, ?_, ?_, ?_, ?_, ?_, ?_, ?_, trivial⟩
        · intro a u vs hb hold hdep
          exact Go.Proofs.YtpdnnikkaojnkaaGreat.NO.opAt_plain rfl (wp_val (ex_move (.tmp 14) _ rfl (hold 14 (fun j hj => low (by decide)))) ⟨_, rfl, fq_mk (by decide) rfl, hb, Below.refl _ _⟩)
        · intro a u vs hb hold hdep
          exact Go.Proofs.YtpdnnikkaojnkaaGreat.NO.opAt_plain rfl (wp_val (ex_move (.tmp 13) _ rfl (hold 13 (fun j hj => low (by decide)))) ⟨_, rfl, fq_mk (by decide) rfl, hb, Below.refl _ _⟩)
        · intro a u vs hb hold hdep
          exact Go.Proofs.YtpdnnikkaojnkaaGreat.NO.opAt_plain rfl (wp_val (exq_len (.tmp 79) _ _ _ rfl (fq_at (hdep ⟨1, .data⟩ (by simp) rfl (by decide)) (by decide) rfl)) ⟨_, rfl, fq_mk (by decide) rfl, hb, Below.refl _ _⟩)
        · intro a u vs hb hold hdep
          exact Go.Proofs.YtpdnnikkaojnkaaGreat.NO.opAt_plain rfl (wp_val (exq_neq (.tmp 78) (.tmp 80) _ rfl (fq_at (hdep ⟨0, .data⟩ (by simp) rfl (by decide)) (by decide) rfl) (fq_at (hdep ⟨2, .data⟩ (by simp) rfl (by decide)) (by decide) rfl)) ⟨_, rfl, fq_mk (by decide) rfl, hb, Below.refl _ _⟩)
        · intro a u vs hb hold hdep
          exact Go.Proofs.YtpdnnikkaojnkaaGreat.NO.opAt_plain rfl (wp_val (ex_move (.tmp 81) _ rfl (fq_at (hdep ⟨3, .data⟩ (by simp) rfl (by decide)) (by decide) rfl)) ⟨_, rfl, fq_mk (by decide) rfl, hb, Below.refl _ _⟩)
        · intro a u vs hb hold hdep
          exact Go.Proofs.YtpdnnikkaojnkaaGreat.NO.opAt_go (j := 4) (t := 82) (b := false) rfl rfl (fq_at (hdep ⟨4, .guard⟩ (by simp) rfl (by decide)) (by decide) rfl) (wp_val (ex_move (.tmp 15) _ rfl (hold 15 (fun j hj => low (by decide)))) ⟨_, rfl, fq_mk (by decide) rfl, hb, Below.refl _ _⟩)
        · intro a u vs hb hold hdep
          exact Go.Proofs.YtpdnnikkaojnkaaGreat.NO.opAt_go (j := 4) (t := 82) (b := false) rfl rfl (fq_at (hdep ⟨4, .guard⟩ (by simp) rfl (by decide)) (by decide) rfl) (wp_val (exq_neq0 (.tmp 83) rfl (fq_at (hdep ⟨5, .data⟩ (by simp) rfl (by decide)) (by decide) rfl)) ⟨_, rfl, fq_mk (by decide) rfl, hb, Below.refl _ _⟩)
        · intro a u vs hb hold hdep
          exact Go.Proofs.YtpdnnikkaojnkaaGreat.NO.opAt_plain rfl (wp_val (exq_pickF (.tmp 82) (.tmp 84) _ rfl (fq_at (hdep ⟨4, .data⟩ (by simp) rfl (by decide)) (by decide) rfl) (fq_at (hdep ⟨6, .data⟩ (by simp) rfl (by decide)) (by decide) rfl)) ⟨_, rfl, fq_mk (by decide) rfl, hb, Below.refl _ _⟩)
        · intro a u vs hb hold hdep
          exact Go.Proofs.YtpdnnikkaojnkaaGreat.NO.opAt_plain rfl (wp_val (ex_move (.tmp 85) _ rfl (fq_at (hdep ⟨7, .data⟩ (by simp) rfl (by decide)) (by decide) rfl)) ⟨_, rfl, fq_mk (by decide) rfl, hb, Below.refl _ _⟩)
        · intro a u vs hb hold hdep
          exact Go.Proofs.YtpdnnikkaojnkaaGreat.NO.opAt_go (j := 8) (t := 86) (b := false) rfl rfl (fq_at (hdep ⟨8, .guard⟩ (by simp) rfl (by decide)) (by decide) rfl) (wp_val (ex_load _ ⟨tb, 0, none⟩ (.tmp 12) _ rfl (hold 12 (fun j hj => low (by decide))) (HLT.out u hb)) ⟨_, rfl, fq_mk (by decide) rfl, hb, Below.refl _ _⟩)
        · intro a u vs hb hold hdep
          exact Go.Proofs.YtpdnnikkaojnkaaGreat.NO.opAt_go (j := 8) (t := 86) (b := false) rfl rfl (fq_at (hdep ⟨8, .guard⟩ (by simp) rfl (by decide)) (by decide) rfl) (wp_val (ex_move (.tmp 9) _ rfl (hold 9 (fun j hj => low (by decide)))) ⟨_, rfl, fq_mk (by decide) rfl, hb, Below.refl _ _⟩)
        · intro a u vs hb hold hdep
          have e10 : a.eval (.tmp 88) = .pointer (some ⟨k2, 0, none⟩) := (fq_at (hdep ⟨10, .data⟩ (by simp) rfl (by decide)) (by decide) rfl)
          refine Go.Proofs.YtpdnnikkaojnkaaGreat.NO.opAt_go (j := 8) (t := 86) (b := false) rfl rfl (fq_at (hdep ⟨8, .guard⟩ (by simp) rfl (by decide)) (by decide) rfl) ?_
          refine wp_call 8 _ _ rfl (enters_of Tryz.func8 (by kernel_rfl) rfl) #[.pointer (some ⟨k2, 0, none⟩)] (by simp only [List.map_toArray, List.map_cons, List.map_nil, e10]) ?_
          refine (HDU.out u hb).mono ?_
          rintro _ u' ⟨v, rfl, hg, hb'⟩
          exact ⟨_, rfl, _, rfl, ⟨fun _ => hg, fun e => absurd rfl e⟩, hb.trans (hb'.mono hb.size), hb'⟩
        · intro a u vs hb hold hdep
          have e9 : a.eval (.tmp 87) = .agg #[x1, y1, z1] := (fq_at (hdep ⟨9, .data⟩ (by simp) rfl (by decide)) (by decide) rfl)
          have h11 := (hdep ⟨11, .data⟩ (by simp) rfl (by decide))
          have e11 : a.eval (.tmp 89) = vs 11 := h11.1
          have g11 := h11.2.1 rfl
          refine Go.Proofs.YtpdnnikkaojnkaaGreat.NO.opAt_go (j := 8) (t := 86) (b := false) rfl rfl (fq_at (hdep ⟨8, .guard⟩ (by simp) rfl (by decide)) (by decide) rfl) ?_
          refine wp_call 10 _ _ rfl (enters_of Tryz.func10 (by kernel_rfl) rfl) #[.agg #[x1, y1, z1], vs 11] (by simp only [List.map_toArray, List.map_cons, List.map_nil, e9, e11]) ?_
          refine (gd_dumps (HGD.out u hb) g11 HLA.out.1 HLA.out.2.1 HLA.out.2.2).mono ?_
          rintro _ u' ⟨rfl, hb'⟩
          exact ⟨_, rfl, _, rfl, fq_mk (by decide) rfl, hb.trans (hb'.mono hb.size), hb'⟩
        · intro a u vs hb hold hdep
          exact Go.Proofs.YtpdnnikkaojnkaaGreat.NO.opAt_go (j := 8) (t := 86) (b := false) rfl rfl (fq_at (hdep ⟨8, .guard⟩ (by simp) rfl (by decide)) (by decide) rfl) (wp_val (exq_not (.tmp 90) true rfl (fq_at (hdep ⟨12, .data⟩ (by simp) rfl (by decide)) (by decide) rfl)) ⟨_, rfl, fq_mk (by decide) rfl, hb, Below.refl _ _⟩)
      intro vs u hb hF
      have e0 : vs 0 = .int .i64 (nv : Int) := (hF 0 (by decide)).2 (by decide) _ rfl
      have e1 : vs 1 = .slice av nv cv := (hF 1 (by decide)).2 (by decide) _ rfl
      have e2 : vs 2 = .int .i64 (nv : Int) := (hF 2 (by decide)).2 (by decide) _ rfl
      have e3 : vs 3 = .bool false := (hF 3 (by decide)).2 (by decide) _ rfl
      have e4 : vs 4 = .bool false := (hF 4 (by decide)).2 (by decide) _ rfl
      have e5 : vs 5 = .int .i64 0 := (hF 5 (by decide)).2 (by decide) _ rfl
      have e6 : vs 6 = .bool false := (hF 6 (by decide)).2 (by decide) _ rfl
      have e7 : vs 7 = .bool false := (hF 7 (by decide)).2 (by decide) _ rfl
      have e8 : vs 8 = .bool false := (hF 8 (by decide)).2 (by decide) _ rfl
      have e9 : vs 9 = .agg #[x1, y1, z1] := (hF 9 (by decide)).2 (by decide) _ rfl
      have e10 : vs 10 = .pointer (some ⟨k2, 0, none⟩) := (hF 10 (by decide)).2 (by decide) _ rfl
      have e12 : vs 12 = .bool true := (hF 12 (by decide)).2 (by decide) _ rfl
      have e13 : vs 13 = .bool false := (hF 13 (by decide)).2 (by decide) _ rfl
      clear hF
      simp only [List.drop_succ_cons, List.drop_zero, Go.Proofs.YtpdnnikkaojnkaaGreat.N.puts, List.range, List.range.loop, List.foldr, if_true, e0, e1, e2, e3, e4, e5, e6, e7, e8, e9, e10, e12, e13, Act.put, List.setIfInBounds_toArray, List.set_cons_zero, List.set_cons_succ]
      clear e0 e1 e2 e3 e4 e5 e6 e7 e8 e9 e10 e12 e13
      generalize vs 11 = v11 at *
      have HRU := hid (HRB.out.below hb)
      clear hb HRB HLT HGD HDU
      go_upto_region 17 with fail
      go_loopw [16, 17, 18, 19, 20] (fun i _ _ _ _ wr => ∃ (j : Nat), i = .int .i64 (j : Int) ∧ j ≤ l' ∧ Hid (Rb w1 NN wr k1 k2 t ⟨A1.reverse, A2.reverse, A3.reverse, t.cr, t.cn, t.cf⟩ tb x1 y1 z1 A1 A2 A3 (.slice av nv cv) (putsL A1 A2 A3))) (fun i _ _ _ _ _ => l' - (intOf i).toNat)
      case atStart => exact ⟨0, rfl, Nat.zero_le _, HRU⟩
      case round =>
      obtain ⟨j, rfl, hj, HI⟩ := hrel
      by_cases hlt : j < l'
      · have hlt' : (j : Int) < (l' : Int) := int_lt hlt
        have hj0 : (0 : Int) ≤ (j : Int) := by omega
        obtain ⟨g, off, x, rfl, hg, hx, hcx⟩ := (HSD.out.below HI.out.k.bel).2 j hlt
        have HG := hid hg
        have HC := hid (HI.out.k.resolve x)
        have HCX0 : Hid (∀ u : World, Below wr.heap.size wr u → u.cell? ⟨g, off + j, none⟩ = some (.int .u32 (x : Int))) := fun u hu => (hu.cell (p := ⟨g, off + j, none⟩) HG.out).trans hcx
        clear hx hg
        go_wp2_with fail
        refine HC.out.mono ?_
        rintro _ w2' ⟨r, hlr, rfl, hb2⟩
        obtain ⟨hs11, hone⟩ := hopS t r
        obtain ⟨hz, HHZ⟩ : ∃ hz, Hid (hz = (hopR t r).1) := ⟨_, rfl⟩
        obtain ⟨he, HHE⟩ : ∃ he, Hid (he = (hopR t r).2) := ⟨_, rfl⟩
        have HEQ : ∀ u : World, (Op.equalIn 10000 56 (.agg hz) (.agg hz)).run Tryz.prog u = .ok true u := fun u => by rw [HHZ.out]; exact eqH t r u
        rw [← HHZ.out] at hs11 hone
        have HS11 := hid hs11
        have HONE := hid hone
        have HINF : Hid ((Tryz.prog.info? 56).map (·.size) = some hz.size) := by unfold Hid; rw [HS11.out]; kernel_rfl
        have HLR := hid hlr
        have HB2 := hid hb2
        rw [← HHZ.out, ← HHE.out]
        clear hb2 hlr hs11 hone HC hcx
        have HEQH := hid HEQ
        clear HEQ
        go_upto_region 20 with (first | (refine wpList_alB rfl 56 hopZ rfl alloc_hop ?_; intro w3 hb3 hs3 hr3) | (refine wpList_stB rfl 56 (.tmp 17) (.tmp 106) rfl w2'.heap.size hz rfl rfl hopZ hr3 HINF.out (by rw [HS11.out]; rfl) HONE.out ?_; intro w6 hbt hr4) | fail)
        have hb4 : Below w2'.heap.size w2' w6 := ⟨hbt.os.trans hb3.os, hbt.tape.trans hb3.tape, hbt.output.trans hb3.output, Nat.le_trans hb3.size hbt.size, fun k hk => (hbt.block k (by omega) (by omega)).trans (hb3.block k hk)⟩
        have hb6 : Below wr.heap.size wr w6 := HB2.out.trans (hb4.mono HB2.out.size)
        have HH6 : Hid (w6.heap[w2'.heap.size]? = some (.cells hz 56)) := hr4
        have HI6 := hid (HI.out.below hb6)
        have c6 : w6.cell? ⟨g, off + j, none⟩ = some (.int .u32 (x : Int)) := HCX0.out w6 hb6
        have HC6 : Hid (Calls Tryz.prog 11 #[.pointer (some ⟨k2, 0, none⟩), .int .u32 (x : Int)] w6 fun e u' => e = .returned (.tuple #[.agg hz, .int .i64 he]) ∧ Below w6.heap.size w6 u') := by
          refine (HI6.out.k.swap.resolve x).mono ?_
          rintro e u' ⟨r', hl', rfl, hb⟩
          have e := same_hop HOK.out (s' := ⟨A1.reverse, A2.reverse, A3.reverse, t.cr, t.cn, t.cf⟩) (fun e => by rw [← HL3.out.r.2 e]; simp) (fun e => by rw [← HL3.out.n.2 e]; simp) (fun e => by rw [← HL3.out.f.2 e]; simp) HLR.out hl'
          rw [e, ← HHZ.out, ← HHE.out]
          exact ⟨rfl, hb⟩
        obtain ⟨p6, HP6⟩ : ∃ p6, Hid (p6 = w2'.heap.size) := ⟨_, rfl⟩
        rw [← HP6.out] at HH6 ⊢
        clear hb3 hs3 hr3 hbt hr4 hb4 hb6 HCX0 HB2 HI HP6
        go_wp2_with fail
        refine HC6.out.mono ?_
        rintro _ w8 ⟨rfl, hb8⟩
        have HI8 := hid (HI6.out.below hb8)
        have HH8 : Hid (w8.heap[p6]? = some (.cells hz 56)) := below_keeps hb8 HH6.out (Array.getElem?_eq_some_iff.1 HH6.out).1
        clear hb8 HC6 HI6 HH6 c6
        go_upto_region 21 with (first | (refine wpList_alB rfl 56 hopZ rfl alloc_hop ?_; intro w3 hb3 hs3 hr3) | (refine wpList_stB rfl 56 (.tmp 19) (.tmp 115) rfl w8.heap.size hz rfl rfl hopZ hr3 HINF.out (by rw [HS11.out]; rfl) HONE.out ?_; intro w9 hbt hr4) | fail)
        have hb9 : Below w8.heap.size w8 w9 := ⟨hbt.os.trans hb3.os, hbt.tape.trans hb3.tape, hbt.output.trans hb3.output, Nat.le_trans hb3.size hbt.size, fun k hk => (hbt.block k (by omega) (by omega)).trans (hb3.block k hk)⟩
        have HLD1 : Hid ((Instr.loadAt 56 (.pointer (some ⟨p6, 0, none⟩))).run Tryz.prog w9 = .ok (.agg hz) w9) := box_load (below_keeps hb9 HH8.out (Array.getElem?_eq_some_iff.1 HH8.out).1) Tryz.underlying56 rfl HINF.out
        have HLD2 : Hid ((Instr.loadAt 56 (.pointer (some ⟨w8.heap.size, 0, none⟩))).run Tryz.prog w9 = .ok (.agg hz) w9) := box_load hr4 Tryz.underlying56 rfl HINF.out
        have HI7 := hid (HI8.out.below hb9)
        have heq := HEQH.out
        clear hb3 hs3 hr3 hbt hr4 hb9 HI8 HH8
        go_wp2_with (first | (refine wpList_ld 56 ⟨p6, 0, none⟩ (.tmp 17) rfl rfl HLD1.out rfl ?_) | (refine wpList_ld 56 ⟨w8.heap.size, 0, none⟩ (.tmp 19) rfl rfl HLD2.out rfl ?_) | fail)
        go_roundw
        case rel => exact ⟨j + 1, by go_num, hlt, HI7⟩
        case measure => simp [intOf]; omega
      · have hlt' : ¬ (j : Int) < (l' : Int) := int_nlt hlt
        have HDE := hid (dels_any wr av nv cv (putsL A1 A2 A3) (HI.out.all.low (Nat.zero_le _)) HPL.out (fun o ho => by
          unfold putsL at ho
          simp only [List.mem_append, List.mem_map] at ho
          rcases ho with ⟨v, _, rfl⟩ | ⟨v, _, rfl⟩ | ⟨v, _, rfl⟩ <;> simp [opF, opR, opN]))
        clear hlt HRU
        go_wp2_with fail
        refine HDE.out.mono ?_
        rintro _ w12 ⟨vd, rfl, hde, hb12⟩
        obtain ⟨ad, nd, cd, rfl, HND, -, -⟩ := hde.shape
        have h12 := HI.out.below hb12
        obtain ⟨e1, e2, e3⟩ := dels_do (A := A1) (B := A2) (C := A3) (cr := t.cr) (cn := t.cn) (cf := t.cf) HKO.out.rk
        have HD3 := hid (h12.do2 (hde.low (Nat.le_trans HI.out.k.hi (Nat.le_refl _))) (opD_ok HPO.out) (by rw [List.length_map]; exact HPL.out))
        rw [e1, e2, e3, ← HNV.out] at HD3
        clear h12 hde hb12 HDE HI e1 e2 e3
        go_wp2_with fail
        refine HD3.out.mono ?_
        rintro _ w13 ⟨rfl, h13⟩
        have HRB := hid h13
        have HDU := hid h13.k.swap.kk.dump
        clear h13 HD3
        go_wp2_with fail
        refine HDU.out.mono ?_
        rintro _ w14 ⟨v2, rfl, hd2⟩
        obtain ⟨hg2, hb14⟩ := dmp_gd hd2 (ls3_nil _ _ _)
        have HR14 := hid (HRB.out.below hb14)
        have HDS := hid (gd_dumps (v2 := .agg #[.slice none 0 0, .slice none 0 0, .slice none 0 0]) hg2 ⟨_, _, _, rfl, Own.nil _ _, Own.nil _ _, Own.nil _ _⟩ (by decide) (by decide) (by decide))
        have HBT : Hid (∀ u : World, (Instr.build 51 #[]).run Tryz.prog u = .ok (.agg #[.slice none 0 0, .slice none 0 0, .slice none 0 0]) u) := fun u => by kernel_rfl
        clear hd2 hg2 hb14 HDU HRB
        go_wp2_with (first | (refine wpList_bdO 51 #[] #[] rfl rfl (HBT.out _) rfl ?_) | fail)
        refine HDS.out.mono ?_
        rintro _ w15 ⟨rfl, hb15⟩
        have HFL := hid (HFD.out _ _ (HR14.out.below hb15))
        clear hb15 HDS HR14 HFD
        go_wp2_with fail
        refine HFL.out.mono ?_
        rintro _ w16 ⟨rfl, hdo⟩
        have HDO := hid hdo
        clear hdo HFL
        go_wp2_with fail
        refine HDO.out.mono ?_
        rintro _ w17 ⟨rfl, hre⟩
        have HRE := hid hre
        clear hre HDO
        go_upto_region 28 with fail
        have HLT : Hid (∀ u : World, Below w17.heap.size w17 u → (Instr.loadAt 51 (.pointer (some ⟨tb, 0, none⟩))).run Tryz.prog u = .ok (.agg #[x1, y1, z1]) u) := fun u hu => box_load (HRE.out.below hu).row Tryz.underlying51 rfl (by kernel_rfl)
        have HGD : Hid (∀ u : World, Below w17.heap.size w17 u → Gd A1 A2 A3 (.agg #[x1, y1, z1]) u) := fun u hu => (HRE.out.below hu).gd
        have HDU : Hid (∀ u : World, Below w17.heap.size w17 u → Calls Tryz.prog 8 #[.pointer (some ⟨k1, 0, none⟩)] u fun e u' => ∃ v, e = .returned v ∧ Gd A1 A2 A3 v u' ∧ Below u.heap.size u u') := fun u hu => by
          refine (HRE.out.below hu).dump.mono ?_
          rintro e u' ⟨v, he, hd⟩
          exact ⟨v, he, dmp_gd hd (HL3.out.rev _ _ _)⟩
        refine Go.Proofs.YtpdnnikkaojnkaaGreat.NO.wp_region_guarded' 14 (fun i => 155 + i) (FQ [.int .i64 (nv : Int), .slice av nv cv, .int .i64 (nv : Int), .bool true, .bool true, .int .i64 0, .bool true, .bool true, .bool true, .agg #[x1, y1, z1], .pointer (some ⟨k1, 0, none⟩), undef, .bool true, .bool true] (Gd A1 A2 A3)) (fun u => Below w17.heap.size w17 u) (fun _ u u' => Below u.heap.size u u') (by kernel_rfl) (by kernel_rfl) ⟨rfl, rfl, rfl, Nat.le_refl _, fun _ _ => rfl⟩ (fun i _ v u u' _ hf _ hr => FQ.keeps (fun _ _ _ h hb => h.below hb) hf hr) ?_ ?_
        · simp only [List.take_succ_cons, List.take_zero, Go.Proofs.YtpdnnikkaojnkaaGreat.NO.stepsG]
          refine ⟨?_, ?_, ?_, ?_, ?_, ?_, ?_, ?_, ?_, ?_, ?_, ?_, ?_, ?_, trivial⟩
          · intro a u vs hb hold hdep
            exact Go.Proofs.YtpdnnikkaojnkaaGreat.NO.opAt_plain rfl (wp_val (ex_move (.tmp 14) _ rfl (hold 14 (fun j hj => low (by decide)))) ⟨_, rfl, fq_mk (by decide) rfl, hb, Below.refl _ _⟩)
          · intro a u vs hb hold hdep
            exact Go.Proofs.YtpdnnikkaojnkaaGreat.NO.opAt_plain rfl (wp_val (ex_move (.tmp 13) _ rfl (hold 13 (fun j hj => low (by decide)))) ⟨_, rfl, fq_mk (by decide) rfl, hb, Below.refl _ _⟩)
          · intro a u vs hb hold hdep
            exact Go.Proofs.YtpdnnikkaojnkaaGreat.NO.opAt_plain rfl (wp_val (exq_len (.tmp 156) _ _ _ rfl (fq_at (hdep ⟨1, .data⟩ (by simp) rfl (by decide)) (by decide) rfl)) ⟨_, rfl, fq_mk (by decide) rfl, hb, Below.refl _ _⟩)
          · intro a u vs hb hold hdep
            exact Go.Proofs.YtpdnnikkaojnkaaGreat.NO.opAt_plain rfl (wp_val (exq_eql (.tmp 155) (.tmp 157) _ rfl (fq_at (hdep ⟨0, .data⟩ (by simp) rfl (by decide)) (by decide) rfl) (fq_at (hdep ⟨2, .data⟩ (by simp) rfl (by decide)) (by decide) rfl)) ⟨_, rfl, fq_mk (by decide) rfl, hb, Below.refl _ _⟩)
          · intro a u vs hb hold hdep
            exact Go.Proofs.YtpdnnikkaojnkaaGreat.NO.opAt_plain rfl (wp_val (ex_move (.tmp 158) _ rfl (fq_at (hdep ⟨3, .data⟩ (by simp) rfl (by decide)) (by decide) rfl)) ⟨_, rfl, fq_mk (by decide) rfl, hb, Below.refl _ _⟩)
          · intro a u vs hb hold hdep
            exact Go.Proofs.YtpdnnikkaojnkaaGreat.NO.opAt_go (j := 4) (t := 159) (b := true) rfl rfl (fq_at (hdep ⟨4, .guard⟩ (by simp) rfl (by decide)) (by decide) rfl) (wp_val (ex_move (.tmp 15) _ rfl (hold 15 (fun j hj => low (by decide)))) ⟨_, rfl, fq_mk (by decide) rfl, hb, Below.refl _ _⟩)
          · intro a u vs hb hold hdep
            exact Go.Proofs.YtpdnnikkaojnkaaGreat.NO.opAt_go (j := 4) (t := 159) (b := true) rfl rfl (fq_at (hdep ⟨4, .guard⟩ (by simp) rfl (by decide)) (by decide) rfl) (wp_val (exq_eql0 (.tmp 160) rfl (fq_at (hdep ⟨5, .data⟩ (by simp) rfl (by decide)) (by decide) rfl)) ⟨_, rfl, fq_mk (by decide) rfl, hb, Below.refl _ _⟩)
          · intro a u vs hb hold hdep
            exact Go.Proofs.YtpdnnikkaojnkaaGreat.NO.opAt_plain rfl (wp_val (exq_pickT (.tmp 159) (.tmp 161) _ rfl (fq_at (hdep ⟨4, .data⟩ (by simp) rfl (by decide)) (by decide) rfl) (fq_at (hdep ⟨6, .data⟩ (by simp) rfl (by decide)) (by decide) rfl)) ⟨_, rfl, fq_mk (by decide) rfl, hb, Below.refl _ _⟩)
          · intro a u vs hb hold hdep
            exact Go.Proofs.YtpdnnikkaojnkaaGreat.NO.opAt_plain rfl (wp_val (ex_move (.tmp 162) _ rfl (fq_at (hdep ⟨7, .data⟩ (by simp) rfl (by decide)) (by decide) rfl)) ⟨_, rfl, fq_mk (by decide) rfl, hb, Below.refl _ _⟩)
          · intro a u vs hb hold hdep
            exact Go.Proofs.YtpdnnikkaojnkaaGreat.NO.opAt_go (j := 8) (t := 163) (b := true) rfl rfl (fq_at (hdep ⟨8, .guard⟩ (by simp) rfl (by decide)) (by decide) rfl) (wp_val (ex_load _ ⟨tb, 0, none⟩ (.tmp 12) _ rfl (hold 12 (fun j hj => low (by decide))) (HLT.out u hb)) ⟨_, rfl, fq_mk (by decide) rfl, hb, Below.refl _ _⟩)
          · intro a u vs hb hold hdep
            exact Go.Proofs.YtpdnnikkaojnkaaGreat.NO.opAt_go (j := 8) (t := 163) (b := true) rfl rfl (fq_at (hdep ⟨8, .guard⟩ (by simp) rfl (by decide)) (by decide) rfl) (wp_val (ex_move (.tmp 7) _ rfl (hold 7 (fun j hj => low (by decide)))) ⟨_, rfl, fq_mk (by decide) rfl, hb, Below.refl _ _⟩)
          · intro a u vs hb hold hdep
            have e10 : a.eval (.tmp 165) = .pointer (some ⟨k1, 0, none⟩) := (fq_at (hdep ⟨10, .data⟩ (by simp) rfl (by decide)) (by decide) rfl)
            refine Go.Proofs.YtpdnnikkaojnkaaGreat.NO.opAt_go (j := 8) (t := 163) (b := true) rfl rfl (fq_at (hdep ⟨8, .guard⟩ (by simp) rfl (by decide)) (by decide) rfl) ?_
            refine wp_call 8 _ _ rfl (enters_of Tryz.func8 (by kernel_rfl) rfl) #[.pointer (some ⟨k1, 0, none⟩)] (by simp only [List.map_toArray, List.map_cons, List.map_nil, e10]) ?_
            refine (HDU.out u hb).mono ?_
            rintro _ u' ⟨v, rfl, hg, hb'⟩
            exact ⟨_, rfl, _, rfl, ⟨fun _ => hg, fun e => absurd rfl e⟩, hb.trans (hb'.mono hb.size), hb'⟩
          · intro a u vs hb hold hdep
            have e9 : a.eval (.tmp 164) = .agg #[x1, y1, z1] := (fq_at (hdep ⟨9, .data⟩ (by simp) rfl (by decide)) (by decide) rfl)
            have h11 := (hdep ⟨11, .data⟩ (by simp) rfl (by decide))
            have e11 : a.eval (.tmp 166) = vs 11 := h11.1
            have g11 := h11.2.1 rfl
            refine Go.Proofs.YtpdnnikkaojnkaaGreat.NO.opAt_go (j := 8) (t := 163) (b := true) rfl rfl (fq_at (hdep ⟨8, .guard⟩ (by simp) rfl (by decide)) (by decide) rfl) ?_
            refine wp_call 10 _ _ rfl (enters_of Tryz.func10 (by kernel_rfl) rfl) #[.agg #[x1, y1, z1], vs 11] (by simp only [List.map_toArray, List.map_cons, List.map_nil, e9, e11]) ?_
            refine (gd_dumps (HGD.out u hb) g11 HLA.out.1 HLA.out.2.1 HLA.out.2.2).mono ?_
            rintro _ u' ⟨rfl, hb'⟩
            exact ⟨_, rfl, _, rfl, fq_mk (by decide) rfl, hb.trans (hb'.mono hb.size), hb'⟩
          · intro a u vs hb hold hdep
            exact Go.Proofs.YtpdnnikkaojnkaaGreat.NO.opAt_plain rfl (wp_val (exq_pickT (.tmp 163) (.tmp 167) _ rfl (fq_at (hdep ⟨8, .data⟩ (by simp) rfl (by decide)) (by decide) rfl) (fq_at (hdep ⟨12, .data⟩ (by simp) rfl (by decide)) (by decide) rfl)) ⟨_, rfl, fq_mk (by decide) rfl, hb, Below.refl _ _⟩)
        intro vs u hb hF
        have e0 : vs 0 = .int .i64 (nv : Int) := (hF 0 (by decide)).2 (by decide) _ rfl
        have e1 : vs 1 = .slice av nv cv := (hF 1 (by decide)).2 (by decide) _ rfl
        have e2 : vs 2 = .int .i64 (nv : Int) := (hF 2 (by decide)).2 (by decide) _ rfl
        have e3 : vs 3 = .bool true := (hF 3 (by decide)).2 (by decide) _ rfl
        have e4 : vs 4 = .bool true := (hF 4 (by decide)).2 (by decide) _ rfl
        have e5 : vs 5 = .int .i64 0 := (hF 5 (by decide)).2 (by decide) _ rfl
        have e6 : vs 6 = .bool true := (hF 6 (by decide)).2 (by decide) _ rfl
        have e7 : vs 7 = .bool true := (hF 7 (by decide)).2 (by decide) _ rfl
        have e8 : vs 8 = .bool true := (hF 8 (by decide)).2 (by decide) _ rfl
        have e9 : vs 9 = .agg #[x1, y1, z1] := (hF 9 (by decide)).2 (by decide) _ rfl
        have e10 : vs 10 = .pointer (some ⟨k1, 0, none⟩) := (hF 10 (by decide)).2 (by decide) _ rfl
        have e12 : vs 12 = .bool true := (hF 12 (by decide)).2 (by decide) _ rfl
        have e13 : vs 13 = .bool true := (hF 13 (by decide)).2 (by decide) _ rfl
        clear hF
        simp only [List.drop_succ_cons, List.drop_zero, Go.Proofs.YtpdnnikkaojnkaaGreat.N.puts, List.range, List.range.loop, List.foldr, if_true, e0, e1, e2, e3, e4, e5, e6, e7, e8, e9, e10, e12, e13, Act.put, List.setIfInBounds_toArray, List.set_cons_zero, List.set_cons_succ]
        clear e0 e1 e2 e3 e4 e5 e6 e7 e8 e9 e10 e12 e13
        generalize vs 11 = v11 at *
        have HFIN : Hid (Below w.heap.size w u) := HB1.out.trans ((HRE.out.below hb).bel.mono HB1.out.size)
        clear hb HRE HLT HGD HDU
        go_wp2_with fail
        go_ret
        exact ⟨rfl, HFIN.out⟩
  · obtain ⟨rfl, ew⟩ := hp.2 hcap
    obtain rfl := ew.symm
    have HCC := hid hcap
    have HC2 := HC
    clear hp ew hcap
    go_wp2_with fail
    refine HC2.out.mono ?_
    intro e w3 hp
    obtain ⟨rfl, ew⟩ := hp.2 HCC.out
    obtain rfl := ew.symm
    have HF := hid (first_any w1)
    clear hp ew HC HC2 c0 c1 c2
    go_wp2_with fail
    refine HF.out.mono ?_
    rintro _ w4 ⟨rfl, hb4⟩
    have HFIN : Hid (Below w.heap.size w w4) := HB1.out.trans (hb4.mono HB1.out.size)
    clear hb4 HF
    go_wp2_with fail
    go_ret
    exact ⟨rfl, HFIN.out⟩
end Go.Proofs.YtpdnnikkaojnkaaGreat.Rt
