import Derived.Test.YthpokoiclfbddaaDoorEH
namespace Go.Proofs.YthpokoiclfbddaaDoor.Fl
open Go.Proofs.YthpokoiclfbddaaDoor Go.ChangeShapes Go.WideShapes Go.ChangeAt Go.RowKit Go.Maps N
set_option maxHeartbeats 4000000
set_option maxRecDepth 100000

theorem refE_vals (h : Hd) (n : Nat) : refE h n = 0 ∨ refE h n = 34 ∨ refE h n = 36 ∨ refE h n = 37 := by
  unfold refE; repeat (first | (exact .inl rfl) | (exact .inr (.inl rfl)) | (exact .inr (.inr (.inl rfl))) | (exact .inr (.inr (.inr rfl))) | split)

theorem read_any (h : Hd) (vo vb : Value) (B : List Nat) (w : World) (hok : h.Ok) (hvo : SeesB w vo h.opts) (hvb : SeesB w vb B) (hlo : h.opts.length ≤ 140737488355328) (hlb : B.length ≤ 140737488355328) :
    Calls Tryd.prog 44 #[.agg (pkCells h vo vb)] w fun e w' => e = .returned (.tuple #[cv (rdC h B), .int .i64 (rdE h B)]) ∧ Below w.heap.size w w' := by
  obtain ⟨w1, HW1⟩ : ∃ w1, Hid (w1 = w.alloc (.cells (pkCells h vo vb) 36)) := ⟨_, rfl⟩
  have hb1 : Below w.heap.size w w1 := by rw [HW1.out]; exact (Below.refl _ _).alloc (Nat.le_refl _) _
  obtain ⟨b, HB⟩ : ∃ b, Hid (b = w.heap.size) := ⟨_, rfl⟩
  have hr1 : w1.heap[b]? = some (.cells (pkCells h vo vb) 36 (0, 0)) := by rw [HW1.out, HB.out]; exact heap_alloc_new w _
  have hbs : b < w1.heap.size := (Array.getElem?_eq_some_iff.1 hr1).1
  have HBU := hid (build_code h vo vb B w1 hok (hvo.below hb1) (hvb.below hb1) hlo hlb)
  have HLD := hid (pk_load hr1)
  obtain ⟨ab, nb, capb, rfl, HNB, hnb1, hnb2⟩ := hvb.shape
  have HKC : Hid (∀ u, Below w1.heap.size w1 u → u.cell? ⟨b, 4, none⟩ = some (.int .i64 h.off) ∧ u.cell? ⟨b, 6, none⟩ = some (.int .u8 (h.proto : Int)) ∧ u.cell? ⟨b, 10, none⟩ = some (.slice ab nb capb)) := fun u hu => by
    have hk := below_keeps hu hr1 hbs
    exact ⟨pk_at hk 4 (by omega), pk_at hk 6 (by omega), pk_at hk 10 (by omega)⟩
  have HCO : Hid (8 ≤ B.length → ∀ u, Below w.heap.size w u → Calls Tryd.prog 65 #[.int .u8 (h.proto : Int), .slice ab nb capb] u fun e w' => e = .returned (.tuple #[cv (contC h.proto B), .bool (contC h.proto B).isSome]) ∧ Below u.heap.size u w') := fun h8 u hu => contentOf_any _ _ B u (hvb.below hu) h8 hlb
  have HCN : Hid (B.length < 8 → least h.proto ≤ B.length → ∀ u, Below w.heap.size w u → Calls Tryd.prog 65 #[.int .u8 (h.proto : Int), .slice ab nb capb] u fun e w' => e = .returned (.tuple #[cv (contC h.proto B), .bool (contC h.proto B).isSome]) ∧ Below u.heap.size u w') := fun h8 hle u hu => by
    have h1 : h.proto ≠ 1 := fun e => by unfold least at hle; rw [if_pos (.inl e)] at hle; omega
    have h2 : h.proto ≠ 17 := fun e => by unfold least at hle; rw [if_pos (.inr e)] at hle; omega
    have h3 : h.proto ≠ 6 := fun e => by unfold least at hle; rw [if_neg (by omega), if_pos e] at hle; omega
    have e : Hid (contC h.proto B = none) := by unfold Hid contC; rw [if_neg h1, if_neg h2, if_neg h3]
    have q1 : ((h.proto : Int) == 1) = false := by simp; omega
    have q2 : ((h.proto : Int) == 17) = false := by simp; omega
    have q3 : ((h.proto : Int) == 6) = false := by simp; omega
    generalize contC h.proto B = R at *
    clear h1 h2 h3 HKC HCO HLD HBU hr1 HNB
    go_enter Tryd.func65, Tryd.ntmps65
    go_wp2_with fail
    refine bodyPost_ret (results_tmp2 Tryd.results65 _ _ _) rfl ?_
    exact ⟨by rw [e.out]; rfl, Below.refl _ _⟩
  have HC : Hid (least h.proto ≤ B.length → ∀ u, Below w.heap.size w u → Calls Tryd.prog 65 #[.int .u8 (h.proto : Int), .slice ab nb capb] u fun e w' => e = .returned (.tuple #[cv (contC h.proto B), .bool (contC h.proto B).isSome]) ∧ Below u.heap.size u w') := fun hle u hu => by
    rcases Nat.lt_or_ge B.length 8 with h8 | h8
    · exact HCN.out h8 hle u hu
    · exact HCO.out h8 u hu
  have HEE : Hid (rdE h B = if refE h B.length ≠ 0 then refE h B.length else if 0 < h.off then 75 else if B.length < least h.proto then 30 else if (contC h.proto B).isNone then 210 else 0) := rfl
  have HRC : Hid (rdC h B = if rdE h B = 0 then contC h.proto B else none) := rfl
  have HL := fun u => leastBody_any h.proto u
  have hoff := hok.off
  have hnl : nb = B.length := HNB.out
  have HB1 := hid hb1
  have hw2 : w.heap.size ≤ w1.heap.size := hb1.size
  obtain ⟨len, HLN⟩ : ∃ len, Hid (len = B.length) := ⟨_, rfl⟩
  rw [← HLN.out] at HC HEE hnl hlb HBU
  generalize contC h.proto B = C at *
  generalize refE h len = RB at *
  generalize rdE h B = RE at *
  generalize rdC h B = RC at *
  generalize least h.proto = lp at *
  generalize hpk : pkCells h vo (.slice ab nb capb) = pk at *
  clear hb1 hr1 hbs hvo hvb hok hlo HCO HCN HNB hpk HLN
  subst hnl
  unfold maxLen at hnb2
  by_cases he : RB = 0
  · have q1 : (RB != 0) = false := by simp [he]
    by_cases ho : 0 < h.off
    · have hE : Hid (RE = 75) := by unfold Hid; rw [HEE.out, if_neg (by simpa using he), if_pos ho]
      have hC : Hid (RC = none) := by unfold Hid; rw [HRC.out, if_neg (by rw [hE.out]; omega)]
      clear he HEE HRC
      go_enter Tryd.func44, Tryd.ntmps44
      go_upto_region 1 with fail
      rw [← HW1.out, ← HB.out]
      go_wp2_with (first | (refine wpList_ld 36 ⟨b, 0, none⟩ (.tmp 1) rfl rfl HLD.out rfl ?_) | fail)
      refine HBU.out.mono ?_
      rintro _ w2 ⟨ao, n, cap, rfl, hs2, hb2⟩
      obtain ⟨c4, c6, c10⟩ := HKC.out w2 hb2
      have HB2 := hid (HB1.out.trans (hb2.mono hw2))
      clear hs2 hb2
      go_wp2_with fail
      refine bodyPost_ret (results_tmp2 Tryd.results44 _ _ _) rfl ?_
      exact ⟨by rw [hE.out, hC.out]; rfl, HB2.out⟩
    · by_cases hl : nb < lp
      · have hE : Hid (RE = 30) := by unfold Hid; rw [HEE.out, if_neg (by simpa using he), if_neg ho, if_pos hl]
        have hC : Hid (RC = none) := by unfold Hid; rw [HRC.out, if_neg (by rw [hE.out]; omega)]
        clear he HEE HRC
        go_enter Tryd.func44, Tryd.ntmps44
        go_upto_region 1 with fail
        rw [← HW1.out, ← HB.out]
        go_wp2_with (first | (refine wpList_ld 36 ⟨b, 0, none⟩ (.tmp 1) rfl rfl HLD.out rfl ?_) | fail)
        refine HBU.out.mono ?_
        rintro _ w2 ⟨ao, n, cap, rfl, hs2, hb2⟩
        obtain ⟨c4, c6, c10⟩ := HKC.out w2 hb2
        have HB2 := hid (HB1.out.trans (hb2.mono hw2))
        clear hs2 hb2
        go_upto_region 6 with fail
        go_quiet ((go_at_call 64; exact Calls.quiet_of_same (HL _)))
        go_wp2_with fail
        refine bodyPost_ret (results_tmp2 Tryd.results44 _ _ _) rfl ?_
        exact ⟨by rw [hE.out, hC.out]; rfl, below_drewN HB2.out _⟩
      · have HCC := hid (HC.out (by omega))
        cases C with
        | none =>
          have hE : Hid (RE = 210) := by unfold Hid; rw [HEE.out, if_neg (by simpa using he), if_neg ho, if_neg hl]; rfl
          have hC : Hid (RC = none) := by unfold Hid; rw [HRC.out, if_neg (by rw [hE.out]; omega)]
          clear he HEE HRC HC
          go_enter Tryd.func44, Tryd.ntmps44
          go_upto_region 1 with fail
          rw [← HW1.out, ← HB.out]
          go_wp2_with (first | (refine wpList_ld 36 ⟨b, 0, none⟩ (.tmp 1) rfl rfl HLD.out rfl ?_) | fail)
          refine HBU.out.mono ?_
          rintro _ w2 ⟨ao, n, cap, rfl, hs2, hb2⟩
          obtain ⟨c4, c6, c10⟩ := HKC.out w2 hb2
          have HB2 := hid (HB1.out.trans (hb2.mono hw2))
          clear hs2 hb2
          go_upto_region 6 with fail
          go_quiet ((go_at_call 64; exact Calls.quiet_of_same (HL _)))
          go_wp2_with fail
          refine (HCC.out _ (below_drewN HB2.out _)).mono ?_
          rintro _ w3 ⟨rfl, hb3⟩
          have HB3 := hid ((below_drewN HB2.out _).trans (hb3.mono HB2.out.size))
          clear hb3
          go_wp2_with fail
          refine bodyPost_ret (results_tmp2 Tryd.results44 _ _ _) rfl ?_
          exact ⟨by rw [hE.out, hC.out]; rfl, HB3.out⟩
        | some c =>
          have hE : Hid (RE = 0) := by unfold Hid; rw [HEE.out, if_neg (by simpa using he), if_neg ho, if_neg hl]; rfl
          have hC : Hid (RC = some c) := by unfold Hid; rw [HRC.out, if_pos hE.out]
          clear he HEE HRC HC
          go_enter Tryd.func44, Tryd.ntmps44
          go_upto_region 1 with fail
          rw [← HW1.out, ← HB.out]
          go_wp2_with (first | (refine wpList_ld 36 ⟨b, 0, none⟩ (.tmp 1) rfl rfl HLD.out rfl ?_) | fail)
          refine HBU.out.mono ?_
          rintro _ w2 ⟨ao, n, cap, rfl, hs2, hb2⟩
          obtain ⟨c4, c6, c10⟩ := HKC.out w2 hb2
          have HB2 := hid (HB1.out.trans (hb2.mono hw2))
          clear hs2 hb2
          go_upto_region 6 with fail
          go_quiet ((go_at_call 64; exact Calls.quiet_of_same (HL _)))
          go_wp2_with fail
          refine (HCC.out _ (below_drewN HB2.out _)).mono ?_
          rintro _ w3 ⟨rfl, hb3⟩
          have HB3 := hid ((below_drewN HB2.out _).trans (hb3.mono HB2.out.size))
          clear hb3
          go_wp2_with fail
          refine bodyPost_ret (results_tmp2 Tryd.results44 _ _ _) rfl ?_
          exact ⟨by rw [hE.out, hC.out]; rfl, HB3.out⟩
  · have q1 : (RB != 0) = true := by simp [he]
    have hE : Hid (RE = RB) := by unfold Hid; rw [HEE.out, if_pos he]
    have hC : Hid (RC = none) := by unfold Hid; rw [HRC.out, if_neg (by rw [hE.out]; exact he)]
    clear he HEE HRC HC
    go_enter Tryd.func44, Tryd.ntmps44
    go_upto_region 1 with fail
    rw [← HW1.out, ← HB.out]
    go_wp2_with (first | (refine wpList_ld 36 ⟨b, 0, none⟩ (.tmp 1) rfl rfl HLD.out rfl ?_) | fail)
    refine HBU.out.mono ?_
    rintro _ w2 ⟨ao, n, cap, rfl, hs2, hb2⟩
    have HB2 := hid (HB1.out.trans (hb2.mono hw2))
    clear hs2 hb2
    go_wp2_with fail
    refine bodyPost_ret (results_tmp2 Tryd.results44 _ _ _) rfl ?_
    exact ⟨by rw [hE.out, hC.out]; rfl, HB2.out⟩
end Go.Proofs.YthpokoiclfbddaaDoor.Fl
