/-
  The reference: Put, Copy.
-/
import Derived.Test.YtaelfhjhinfikabDH
namespace Go.Proofs.Ytaelfhjhinfikab
open Go.ChangeShapes Go.WideShapes Go.ChangeAt Go.RowKit Me
set_option maxHeartbeats 2000000
set_option maxRecDepth 100000

abbrev Rn := Ho 67 mkR
abbrev RnD := HoD 67 mkR

/-- A packet joins. -/
theorem HAt.push {ty : TypeId} {mk : Value → Array Value} {w w3 : World} {pb : Nat} {v : Value} {E : List En} (h : HAt ty mk w pb v E) (hty : ty ≠ 41 ∧ ty ≠ 5) (i : Nat) (hmk : ∀ v', (mk v).setIfInBounds i v' = mk v') (ad : Nat) (L : List Nat) (a3 : Option Addr) (n3 c3 : Nat)
    (ho : OwnB w3 w.heap.size (.slice a3 n3 c3) L) (hb3 : Below w.heap.size w w3) (had : ad < 4294967296) (hl : L.length ≤ 65535) (hby : ∀ x ∈ L, x < 256) (hE : E.length ≤ 4096) :
    ∃ a5 n5 c5 w5, (∀ ty, (Builtin.append_ #[33, 33] ty #[v, .slice (some ⟨w3.heap.size, 0, none⟩) 1 1]).run Try.prog (w3.alloc (.cells #[.int .u32 (ad : Int), .slice a3 n3 c3] 41)) = .ok (.slice a5 n5 c5) w5) ∧ w5.heap[pb]? = some (.cells (mk v) ty (0, 0)) ∧ HTurn ty mk w (w5.setCell ⟨pb, i, none⟩ (.slice a5 n5 c5)) pb v E (.slice a5 n5 c5) (E ++ [⟨ad, L, .slice a3 n3 c3⟩]) := by
  have hb4 : Below w.heap.size w (w3.alloc (.cells #[.int .u32 (ad : Int), .slice a3 n3 c3] 41)) := hb3.alloc hb3.size _
  have hk := heap_alloc_new w3 (.cells #[.int .u32 (ad : Int), .slice a3 n3 c3] 41)
  have h4 := h.below hb4
  have ho4 : OwnB (w3.alloc (.cells #[.int .u32 (ad : Int), .slice a3 n3 c3] 41)) 0 (.slice a3 n3 c3) L := (ho.below ((Below.refl _ _).alloc (Nat.le_refl _) _)).low (Nat.zero_le _)
  have hnew : ∀ k, Value.ownBlock (.slice a3 n3 c3) = some k → w.heap.size ≤ k := fun k hk => (ho.lt hk).1
  obtain ⟨v5, w5, hr, hf, hk5, hn5⟩ := append_en (w3.alloc (.cells #[.int .u32 (ad : Int), .slice a3 n3 c3] 41)) 0 v E ⟨ad, L, .slice a3 n3 c3⟩ w3.heap.size h4.fl (by rw [cell_of_row _ _ _ _ _ _ hk]; rfl) (by rw [cell_of_row _ _ _ _ _ _ hk]; rfl) ho4 ⟨had, hl, hby⟩ (fun x hx k hk hk2 => by
    have h5 := hnew k hk2
    have h6 := h.lt (.inr (.inr ⟨x, hx, hk⟩))
    omega) (by omega)
  obtain ⟨a5, n5, c5, rfl, -⟩ := hf.shape
  refine ⟨a5, n5, c5, w5, fun ty => hr, ?_, ?_⟩
  · refine hk5.mem h4.row fun e => ?_
    obtain ⟨cs, h7⟩ := row_kind h4.fl.row e
    rw [h4.row] at h7
    simp at h7
    exact hty.1 h7.2
  · refine h.store hty i (hmk _) ((Keeps.of hb4).trans hk5) (fun k e => .inl e) hf fun k hk => ?_
    rcases hk with hk | ⟨x, hx, hk⟩
    · exact (hn5 k hk).imp .inl fun e => Nat.le_trans hb4.size e
    · rcases List.mem_append.1 hx with hx | hx
      · exact .inl (.inr ⟨x, hx, hk⟩)
      · simp at hx; subst hx
        exact .inr (hnew k hk)

theorem putR_any (w : World) (K F : Nat → Prop) (pb m : Nat) (v : Value) (S L : List Pk) (h : Rn w pb m S F) (hv : SeesS K w v L) (hK : ∀ k, F k → ¬ K k) :
    Calls Try.prog 23 #[.pointer (some ⟨pb, 0, none⟩), v] w fun e w' => e = .returned (.tuple #[.int .i64 ((puN m S L : Nat) : Int), .int .i64 ((puE m S L : Nat) : Int)]) ∧ RnD w w' pb m (puS m S L) F := by
  obtain ⟨vf, E, hat, hS, hF, hle, hm⟩ := h
  have HF := hid hF
  have HV := hid hv
  have HK := hid hK
  have HAT := hid hat
  have HSE := hid hS
  have HMM := hid hm
  have HLE := hid hle
  obtain ⟨ao, n, cap, rfl, HN, hn1, hn2⟩ := hv.shape
  unfold maxLen at hn2
  obtain ⟨AN, HAN⟩ : ∃ x, Hid (x = puN m S L) := ⟨_, rfl⟩
  obtain ⟨AE, HAE⟩ : ∃ x, Hid (x = puE m S L) := ⟨_, rfl⟩
  obtain ⟨AS, HAS⟩ : ∃ x, Hid (x = puS m S L) := ⟨_, rfl⟩
  rw [← HAN.out, ← HAE.out, ← HAS.out]
  clear hF hv hK hat hS hm hle
  go_enter Try.func23, Try.ntmps23
  go_upto_region 2 with fail
  go_loopw [6] (fun i wr => ∃ j : Nat, i = .int .i64 (j : Int) ∧ j ≤ n ∧ Hid (∃ v1 E1, HTurn 67 (mkR m) w wr pb vf E v1 E1 ∧ (E1.map En.pk).length ≤ m ∧ AN = j + puN m (E1.map En.pk) (L.drop j) ∧ AE = puE m (E1.map En.pk) (L.drop j) ∧ AS = puS m (E1.map En.pk) (L.drop j))) (fun i _ => n - (intOf i).toNat)
  case atStart => exact ⟨0, rfl, Nat.zero_le _, vf, E, HTurn.same HAT.out (Below.refl _ _), by rw [← HSE.out]; exact HLE.out, by rw [HAN.out, HSE.out]; simp, by rw [HAE.out, HSE.out]; simp, by rw [HAS.out, HSE.out]; simp⟩
  case round =>
    obtain ⟨j, rfl, hj, HI⟩ := hrel
    obtain ⟨v1, E1, ht1, hl1, hn1', he1, hs1⟩ := HI.out
    by_cases hlt : j < n
    · have hlt' : (j : Int) < (n : Int) := int_lt hlt
      have hj2 : (0 : Int) ≤ (j : Int) := by omega
      have HVr : Hid (SeesS K wr (.slice ao n cap) L) := HV.out.keeps ht1.keeps fun k h1 h2 => HK.out k ((HF.out k).2 h2) h1
      obtain ⟨g, off, u, p, rfl, hg, c0, c1, hub, had, HP⟩ := HVr.out.at j hlt
      obtain ⟨ad, bb⟩ := p
      simp only at c0 hub had
      obtain ⟨ua, un, uc, rfl, HUN, hu1, hu2⟩ := hub.shape
      unfold maxLen at hu2
      have HDR : Hid (L.drop j = ⟨ad, bb⟩ :: L.drop (j + 1)) := drop_cons HP.out
      have hatr := ht1.net
      obtain ⟨d0, d1, -⟩ := hatr.cellsR
      obtain ⟨va, vn, vc, rfl, HVN, hv1, hv2, -⟩ := hatr.fl.shape
      unfold maxLen at hv2
      obtain ⟨J, HJE⟩ : ∃ J, Hid (J = joE m (E1.map En.pk) ⟨ad, bb⟩) := ⟨_, rfl⟩
      rw [HDR.out] at hn1' he1 hs1
      have HSTOP : Hid (J ≠ 0 → AN = j ∧ AE = J ∧ ∀ w2, Below wr.heap.size wr w2 → RnD w w2 pb m AS F) := fun hJ => by
        have hj0 : joE m (E1.map En.pk) ⟨ad, bb⟩ ≠ 0 := by rw [← HJE.out]; exact hJ
        rw [puN_stop hj0] at hn1'
        rw [puE_stop hj0, ← HJE.out] at he1
        rw [puS_stop hj0] at hs1
        exact ⟨by omega, he1, fun w2 hb2 => HoD.turn (ht1.more hb2) HF.out (by rw [hs1]) (by rw [hs1]; exact hl1) HMM.out⟩
      by_cases hl : 65535 < un
      · have hJ2 : J = 2 := by rw [HJE.out]; unfold joE; simp only; rw [if_pos (by have := HUN.out; omega)]
        have HFIN := hid (HSTOP.out (by rw [hJ2]; decide))
        rw [hJ2] at HFIN
        have hl' : (65535 : Int) < (un : Int) := by omega
        clear HI ht1 hl1 hn1' he1 hs1 hub hatr d0 d1 hJ2 HSTOP
        go_wp2_with fail
        go_ret2
        exact ⟨by rw [HFIN.out.1, HFIN.out.2.1]; rfl, HFIN.out.2.2 _ (Below.refl _ _)⟩
      · have hl' : ¬ (65535 : Int) < (un : Int) := by omega
        by_cases hmn : m ≤ vn
        · have hJ4 : J = 4 := by
            rw [HJE.out]; unfold joE; simp only; rw [if_neg (by have := HUN.out; omega), if_pos (by rw [List.length_map]; have := HVN.out; omega)]
          have HFIN := hid (HSTOP.out (by rw [hJ4]; decide))
          rw [hJ4] at HFIN
          have hm' : (m : Int) ≤ (vn : Int) := by omega
          clear HI ht1 hl1 hn1' he1 hs1 hub hatr hJ4 HSTOP
          go_upto_region 6 with fail
          go_quiet (fail)
          have HB2 : Hid (Below wr.heap.size wr (wr.drewN nq)) := below_drewN (Below.refl _ _) _
          go_wp2_with fail
          go_ret2
          exact ⟨by rw [HFIN.out.1, HFIN.out.2.1]; rfl, HFIN.out.2.2 _ HB2.out⟩
        · have hm' : ¬ (m : Int) ≤ (vn : Int) := by omega
          have hj0 : joE m (E1.map En.pk) ⟨ad, bb⟩ = 0 := by
            unfold joE; simp only; rw [if_neg (by have := HUN.out; omega), if_neg (by rw [List.length_map]; have := HVN.out; omega)]
          rw [puN_step hj0] at hn1'
          rw [puE_step hj0] at he1
          rw [puS_step hj0] at hs1
          have HLL : Hid (bb.length ≤ 65535) := by have := HUN.out; unfold Hid; omega
          have HTW : Hid (∀ u1 : World, Below wr.heap.size wr u1 → Calls Try.prog 37 #[.agg #[.int .u32 (ad : Int), .slice ua un uc]] u1 fun e w' => ∃ a n c, e = .returned (.agg #[.int .u32 (ad : Int), .slice a n c]) ∧ OwnB w' u1.heap.size (.slice a n c) bb ∧ Below u1.heap.size u1 w') := fun u1 h1 => own_any u1 K ad _ bb (hub.below h1) HLL.out
          have HPU : Hid (∀ (u1 w3 : World) (a3 : Option Addr) (n3 c3 : Nat), Below wr.heap.size wr u1 → OwnB w3 u1.heap.size (.slice a3 n3 c3) bb → Below u1.heap.size u1 w3 → ∃ a5 n5 c5 w5, (∀ ty, (Builtin.append_ #[33, 33] ty #[.slice va vn vc, .slice (some ⟨w3.heap.size, 0, none⟩) 1 1]).run Try.prog (w3.alloc (.cells #[.int .u32 (ad : Int), .slice a3 n3 c3] 41)) = .ok (.slice a5 n5 c5) w5) ∧ w5.heap[pb]? = some (.cells (mkR m (.slice va vn vc)) 67 (0, 0)) ∧ (∃ v1 E1, HTurn 67 (mkR m) w (w5.setCell ⟨pb, 0, none⟩ (.slice a5 n5 c5)) pb vf E v1 E1 ∧ (E1.map En.pk).length ≤ m ∧ AN = (j + 1) + puN m (E1.map En.pk) (L.drop (j + 1)) ∧ AE = puE m (E1.map En.pk) (L.drop (j + 1)) ∧ AS = puS m (E1.map En.pk) (L.drop (j + 1)))) := by
            intro u1 w3 a3 n3 c3 h1 h2 h3
            obtain ⟨a5, n5, c5, w5, p1, p2, p3⟩ := hatr.push (by decide) 0 (fun _ => rfl) ad bb a3 n3 c3 (h2.low h1.size) (h1.trans (h3.mono h1.size)) had HLL.out hub.bytes (by have := HMM.out; rw [List.length_map] at hl1; omega)
            refine ⟨a5, n5, c5, w5, p1, p2, _, _, ht1.trans p3, ?_, ?_, ?_, ?_⟩
            · rw [List.length_map] at *
              rw [List.length_append]
              have := HVN.out
              simp
              omega
            · rw [List.map_append]; show AN = j + 1 + puN m (List.map En.pk E1 ++ [⟨ad, bb⟩]) _; omega
            · rw [List.map_append]; exact he1
            · rw [List.map_append]; exact hs1
          have HCL : Hid (∀ u1 : World, Below wr.heap.size wr u1 → u1.cell? ⟨pb, 0, none⟩ = some (.slice va vn vc) ∧ u1.cell? ⟨pb, 1, none⟩ = some (.int .i64 (m : Int)) ∧ u1.cell? ⟨g, off + j * 2, none⟩ = some (.int .u32 (ad : Int)) ∧ u1.cell? ⟨g, off + j * 2 + 1, none⟩ = some (.slice ua un uc) ∧ pb < u1.heap.size ∧ g < u1.heap.size) := fun u1 h1 =>
            ⟨(hatr.below h1).cellsR.1, (hatr.below h1).cellsR.2.1, (h1.cell (p := ⟨g, _, none⟩) hg.1).trans c0, (h1.cell (p := ⟨g, _, none⟩) hg.1).trans c1, (hatr.below h1).lt (.inl rfl), Nat.lt_of_lt_of_le hg.1 h1.size⟩
          clear HI ht1 hl1 hn1' he1 hs1 hub hatr HSTOP hj0
          go_upto_region 6 with fail
          go_quiet (fail)
          obtain ⟨u0, HU0⟩ : ∃ u0, Hid (u0 = wr.drewN nq) := ⟨_, rfl⟩
          have HB0 : Hid (Below wr.heap.size wr u0) := by unfold Hid; rw [HU0.out]; exact below_drewN (Below.refl _ _) _
          have HB0d : Hid (Below wr.heap.size wr u0.drew) := below_drew HB0.out
          rw [← HU0.out]
          obtain ⟨e0, e1, e2, e3, -, -⟩ := HCL.out u0 HB0.out
          clear c0 c1 d0 d1
          go_upto_region 8 with fail
          go_region_law (first
            | (go_simp; go_at_call 37; refine (HTW.out u0.drew HB0d.out).mono ?_; rintro _ w3 ⟨a3, n3, c3, rfl, ho3, hb3⟩; obtain ⟨a5, n5, c5, w5, hap, hr5, hnx⟩ := HPU.out u0.drew w3 a3 n3 c3 HB0d.out ho3 hb3; have HAP := hid hap; have HNX := hid hnx; obtain ⟨f0, f1, f2, f3, hp3, hg3⟩ := HCL.out w3 (HB0d.out.trans (hb3.mono HB0d.out.size)); have g1 : w5.cell? ⟨pb, 0, none⟩ = some (.slice va vn vc) := (by rw [cell_of_row _ _ _ _ _ _ hr5]; rfl); have g2 : w5.frozen? ⟨pb, 0, none⟩ = false := frozen_of_row _ _ _ _ _ hr5; clear hap hnx hr5 ho3 hb3)
            | (refine step_append_run rfl _ _ _ _ rfl _ _ rfl rfl (HAP.out _) ?_)
            | fail)
          all_goals (
            go_wp2_with fail
            go_roundw
            case rel => exact ⟨j + 1, by go_num, hlt, HNX⟩
            case measure => simp [intOf]; omega)
    · have hlt' : ¬ (j : Int) < (n : Int) := int_nlt hlt
      have hdn : L.drop j = [] := drop_nil (by have := HN.out; omega)
      rw [hdn] at hn1' he1 hs1
      have hjn : j = n := by omega
      have HFIN : Hid (AN = n ∧ AE = 0 ∧ RnD w wr pb m AS F) := by
        refine ⟨by rw [hn1']; unfold puN; omega, by rw [he1]; rfl, ?_⟩
        refine HoD.turn ht1 HF.out (by rw [hs1]; unfold puS; simp) ?_ HMM.out
        rw [hs1]; unfold puS; simpa using hl1
      clear HI ht1 hl1 hn1' he1 hs1 hdn hjn
      go_wp2_with fail
      go_ret2
      exact ⟨by rw [HFIN.out.1, HFIN.out.2.1]; rfl, HFIN.out.2.2⟩
end Go.Proofs.Ytaelfhjhinfikab
