/-
  The tale's tell: a Rewrite.
-/
import Derived.Test.YteoebmpfdcbbmabDoorNF
import Derived.Test.YteoebmpfdcbbmabDoorOA2
namespace Go.Proofs.YteoebmpfdcbbmabDoor
open Go.ChangeShapes Go.WideShapes Go.ChangeAt Go.RowKit Jn N
set_option maxHeartbeats 16000000
set_option maxRecDepth 100000

section
variable {w u : World} {S : Nat → Prop} {p : Nat} {l : Lg} {q : Nat} {C : Nat → Prop} {vG vP vR : Value} {Gs : List Value} {X : List Pt3} {Gc : List (List (List Nat))} {R : List (List Nat)} {P : Pts} {sz wr : Nat}
theorem TaX.box (h : TaX w u S p l q C vG vP vR Gs X Gc R P sz wr) {b : Nat} {cs : Array Value} (hb : u.heap[b]? = some (.cells cs 54 (0, 0))) : b ≠ q ∧ vG.ownBlock ≠ some b ∧ vR.ownBlock ≠ some b := by
  obtain ⟨Vs, h1, -, -⟩ := h.fr
  unfold OwnS at h1
  refine ⟨fun e => ?_, row_ne h.fg hb (by decide), row_ne h1 hb (by decide)⟩
  have hr := h.row
  unfold taRow at hr
  rw [← e, hb] at hr
  simp at hr
end

theorem SeesBB.bytes {w : World} {v : Value} {rs : List (List Nat)} (h : SeesBB w v rs) : ∀ r ∈ rs, ∀ x ∈ r, x < 256 := fun r hr => by
  obtain ⟨j, hj, rfl⟩ := List.mem_iff_getElem.1 hr
  obtain ⟨ao, cap, -, -, -, h3⟩ := h
  obtain ⟨g, off, u, -, -, -, hu⟩ := h3 j hj
  exact hu.bytes
theorem tell_rew {w u : World} {S : Nat → Prop} {p : Nat} {l : Lg} {q : Nat} {R : List (List Nat)} {P : Pts} {N : Nat} (h : Tst w u S p l q R P N) (ht : TabN w) {v vs : Value} {rs : List (List Nat)} {z : Int} (hv : ∃ a n c, v = .slice a n c) (hvs : SeesBB w vs rs) (hN : N + 1 ≤ 2500000000000) (hrl : rs.length ≤ 8796093022208) :
    Calls Tryd.prog 27 #[.pointer (some ⟨q, 0, none⟩), .pointer (some ⟨p, 0, none⟩), .agg (opv 2 v vs z)] u fun e u' => e = .returned (.bool true) ∧ ∃ S' l' R' P', Tst w u' S' p l' q R' P' (N + 1) ∧ Nxt l l' := by
  obtain ⟨u0, hu0⟩ : ∃ u0, u0 = u.alloc (.cells (opv 2 v vs z) 54) := ⟨_, rfl⟩
  have hb0 : Below u.heap.size u u0 := by rw [hu0]; exact (Below.refl _ _).alloc (Nat.le_refl _) _
  have hr0 : u0.heap[u.heap.size]? = some (.cells (opv 2 v vs z) 54 (0, 0)) := by rw [hu0]; exact heap_alloc_new u _
  unfold opv at hr0 hu0 ⊢
  have H0 := h.below hb0
  have hSl : ∀ k, S k → k < u.heap.size := h.jr.log.lt
  have HV : Hid (∀ u', Below w.heap.size w u' → SeesBB u' vs rs) := fun u' hb => hvs.below hb
  obtain ⟨av, nv, cv, rfl⟩ := hv
  obtain ⟨vs1, n, vs3, rfl, HNS, hs1, hs2⟩ := hvs.shape
  unfold maxLen at hs2
  have HU0 := hid hu0
  have HT := hid ht
  have z0 : u0.cell? ⟨u.heap.size, 0, none⟩ = some (.int .i64 2) := by rw [cell_of_row _ _ _ _ _ _ hr0]; rfl
  have z2 : u0.cell? ⟨u.heap.size, 2, none⟩ = some (.slice vs1 n vs3) := by rw [cell_of_row _ _ _ _ _ _ hr0]; rfl
  have hbl : u.heap.size < u0.heap.size := (Array.getElem?_eq_some_iff.1 hr0).1
  obtain ⟨b, hbb⟩ : ∃ b, b = u.heap.size := ⟨_, rfl⟩
  have HKB : Hid (∀ u1 l', Left u0 u1 S p l' → u1.heap[b]? = some (.cells #[.int .i64 2, .slice av nv cv, .slice vs1 n vs3, .int .i64 z] 54 (0, 0))) := fun u1 l' hl => by
    rw [hbb]
    exact (hl.kp.block _ hbl (fun e => by have := hSl _ e; omega)).trans hr0
  have HA : Hid (Calls Tryd.prog 45 #[.pointer (some ⟨p, 0, none⟩), .slice vs1 n vs3] u0 fun e w' => e = .returned (.int .i64 ((rewE rs : Nat) : Int)) ∧ Left u0 w' S p (rewL l rs)) := rewrite_any S p l _ rs u0 H0.jr.log H0.jr.ok (hvs.below H0.jr.be) hrl (by have := h.ws; omega) (ht.below H0.jr.be ht.2)
  have HZ : Hid (∀ u1 l', Left u0 u1 S p l' → Calls Tryd.prog 46 #[.slice vs1 n vs3] u1 fun e w' => e = .returned (.int .i64 (sizeZ rs)) ∧ w' = u1) := fun u1 l' hl => sizeZ_any _ rs u1 (HV.out u1 (H0.jr.left hl).be) hrl
  have HH := hid H0
  have hbl' : b < u0.heap.size := by omega
  rw [← hbb] at z0 z2
  have HBB := hid hbb
  clear h hu0 ht hvs hr0 hb0 H0 hSl hbl hbb
  by_cases hlong : rs.any (fun r => decide (65536 < r.length)) = true
  · as_aux_lemma =>
      have hE : rewE rs = 2 := by unfold rewE; rw [hlong]; rfl
      have hLl : rewL l rs = l := by unfold rewL; rw [hE]; rfl
      have hZ : sizeZ rs = -1 := by unfold sizeZ; rw [hlong]; rfl
      rw [hE, hLl] at HA
      rw [hZ] at HZ
      clear hE hLl hZ hlong
      go_enter Tryd.func27, Tryd.ntmps27
      go_upto_region 1 with fail
      rw [← HU0.out, ← HBB.out]
      go_wp2_with fail
      refine HA.out.mono ?_
      rintro _ u1 ⟨rfl, hl1⟩
      have H1 := hid (HH.out.left hl1)
      have hr1 := HKB.out u1 _ hl1
      have HZ1 := hid (HZ.out u1 _ hl1)
      have y2 : u1.cell? ⟨b, 2, none⟩ = some (.slice vs1 n vs3) := by rw [cell_of_row _ _ _ _ _ _ hr1]; rfl
      have hbl1 := (Array.getElem?_eq_some_iff.1 hr1).1
      clear hl1 hr1 HA HKB HZ
      go_wp2_with fail
      refine HZ1.out.mono ?_
      rintro _ ux ⟨rfl, rfl⟩
      go_wp2_with fail
      go_ret
      exact ⟨rfl, _, _, _, _, H1.out.more (by omega), .inl rfl⟩
  · have hany : rs.any (fun r => decide (65536 < r.length)) = false := by simpa using hlong
    have hall : ∀ r ∈ rs, r.length ≤ 65536 := fun r hr => by
      have := List.any_eq_false.1 hany r hr
      simpa using this
    obtain ⟨sn, HSN⟩ : ∃ sn, sn = 16 + baseL rs := ⟨_, rfl⟩
    have hZ : sizeZ rs = (sn : Int) := by unfold sizeZ; rw [hany, HSN]; rfl
    rw [hZ] at HZ
    clear hlong hZ
    by_cases hfull : 1048576 < sn
    · as_aux_lemma =>
        have hE : rewE rs = 4 := by unfold rewE; rw [hany, if_neg (by decide), if_pos (by omega)]
        have hLl : rewL l rs = l := by unfold rewL; rw [hE]; rfl
        have hsnb : sn ≤ 576582705658691600 := by
          have h1 := baseL_le hall
          omega
        rw [hE, hLl] at HA
        clear hE hLl hany hall HSN
        go_enter Tryd.func27, Tryd.ntmps27
        go_upto_region 1 with fail
        rw [← HU0.out, ← HBB.out]
        go_wp2_with fail
        refine HA.out.mono ?_
        rintro _ u1 ⟨rfl, hl1⟩
        have H1 := hid (HH.out.left hl1)
        have hr1 := HKB.out u1 _ hl1
        have HZ1 := hid (HZ.out u1 _ hl1)
        have y2 : u1.cell? ⟨b, 2, none⟩ = some (.slice vs1 n vs3) := by rw [cell_of_row _ _ _ _ _ _ hr1]; rfl
        have hbl1 := (Array.getElem?_eq_some_iff.1 hr1).1
        clear hl1 hr1 HA HKB HZ
        go_wp2_with fail
        refine HZ1.out.mono ?_
        rintro _ ux ⟨rfl, rfl⟩
        go_wp2_with fail
        go_ret
        exact ⟨rfl, _, _, _, _, H1.out.more (by omega), .inl rfl⟩
    · as_aux_lemma =>
        have hE : rewE rs = 0 := by unfold rewE; rw [hany, if_neg (by decide), if_neg (by omega)]
        have hLl : rewL l rs = l.rew rs := by unfold rewL; rw [if_pos hE]
        rw [hE, hLl] at HA
        have HALL := hid hall
        have hn : n ≤ 87382 := by
          have h1 := len_base rs
          have h2 := HNS.out
          omega
        have HSN' := hid HSN
        clear hE hLl hany hall HSN
        go_enter Tryd.func27, Tryd.ntmps27
        go_upto_region 1 with fail
        rw [← HU0.out, ← HBB.out]
        go_wp2_with fail
        refine HA.out.mono ?_
        rintro _ u1 ⟨rfl, hl1⟩
        have hr1 := HKB.out u1 _ hl1
        have HZ1 := hid (HZ.out u1 _ hl1)
        have y2 : u1.cell? ⟨b, 2, none⟩ = some (.slice vs1 n vs3) := by rw [cell_of_row _ _ _ _ _ _ hr1]; rfl
        have hbl1 := (Array.getElem?_eq_some_iff.1 hr1).1
        obtain ⟨C, vG, vP, vR, Gs, X, Gc, hX0, hset, hgl, hTl, bX, bG, bW⟩ := HH.out
        have hX1 := hX0.left hl1
        obtain ⟨S1, hS1⟩ : ∃ S1, S1 = NewS S u0.heap.size u1 := ⟨_, rfl⟩
        rw [← hS1] at hX1
        obtain ⟨ls, HLS⟩ : ∃ ls, ls = l.size := ⟨_, rfl⟩
        obtain ⟨ds, HDS⟩ : ∃ ds, ds = dirt l.ws := ⟨_, rfl⟩
        have hds : ds ≤ 1048576 * 2500000000000 := by have h1 := hX0.jr.ok.ws.le; rw [HDS]; omega
        rw [← HLS, ← HDS] at hX1
        obtain ⟨c0, -, c2, -, -, cf⟩ := ta_cells hX1.row
        have hql := hX1.lt.1
        obtain ⟨aG, mG, cG, rfl, hmG⟩ : ∃ a m c, vG = .slice a m c ∧ m = Gs.length := by obtain ⟨a, c, e, -, -⟩ := row_shape hX1.fg; exact ⟨a, _, c, e, rfl⟩
        have hbA : Below u1.heap.size u1 (u1.alloc (.cells #[.slice none 0 0] 27)) := (Below.refl _ _).alloc (Nat.le_refl _) _
        obtain ⟨iG, hiG, hy0, hy1, hy2⟩ := info_parts infoG
        obtain ⟨gA, cA, wA, hapA, hoA, hgA, hatA, hltA⟩ := run_append_lies (P := Tryd.prog) (w := u1.alloc (.cells #[.slice none 0 0] 27)) 56 56 w.heap.size 27 iG _ 1 24 uG hiG hy0 hy1 hy2 rfl (by decide) _ mG Gs (by rw [hmG]; exact (hX1.below hbA).fg) ⟨u1.heap.size, 0, none⟩ 1 1 [.slice none 0 0] rfl (World.news_of_block (heap_alloc_new _ _)) (by simp [Value.oneCell']) (by decide) (by unfold maxLen; omega) (by omega) ((hX1.below hbA).jr.be.size) _ rfl
        obtain ⟨C2, hX2⟩ := hX1.newGen hbA hset hgl (by rw [List.length_append, ← hmG]; exact hoA) hgA (hatA.imp id (fun e => Nat.le_of_eq e.symm))
        have hrA : wA.heap[q]? = some (taRow (.slice aG mG cG) vP vR ls ds) := (hgA.block q (hX1.below hbA).lt.1 (fun e => hX1.ne.1 e.symm)).trans (hX1.below hbA).row
        obtain ⟨a0, -, -, -, -, af⟩ := ta_cells hrA
        have hqA := (Array.getElem?_eq_some_iff.1 hrA).1
        have hrB : (wA.setCell ⟨q, 0, none⟩ (.slice (some ⟨gA, 0, none⟩) (mG + 1) cA)).heap[q]? = some (taRow (.slice (some ⟨gA, 0, none⟩) (mG + 1) cA) vP vR ls ds) := by
          unfold taRow at hrA ⊢
          exact set_cells hrA
        obtain ⟨-, -, a2, -, -, ag⟩ := ta_cells hrB
        have hqB := (Array.getElem?_eq_some_iff.1 hrB).1
        have HAPA := hid hapA
        obtain ⟨u2, hu2⟩ : ∃ u2, u2 = (wA.setCell ⟨q, 0, none⟩ (.slice (some ⟨gA, 0, none⟩) (mG + 1) cA)).setCell ⟨q, 2, none⟩ (.slice none 0 0) := ⟨_, rfl⟩
        have hbx := hX1.box hr1
        have hr2 : u2.heap[b]? = some (.cells #[.int .i64 2, .slice av nv cv, .slice vs1 n vs3, .int .i64 z] 54 (0, 0)) := by
          have hk : Keeps (At1 q) wA u2 := by rw [hu2]; exact ((Keeps.refl (At1 q) wA).set ⟨q, 0, none⟩ rfl _).set ⟨q, 2, none⟩ rfl _
          have h1 := (hbA.block b hbl1).trans hr1
          have h2 := (hgA.block b (Nat.lt_of_lt_of_le hbl1 hbA.size) (fun e => hbx.2.1 e.symm)).trans h1
          exact (hk.block b (Array.getElem?_eq_some_iff.1 h2).1 hbx.1).trans h2
        rw [← hu2] at hX2
        have HU2 := hid hu2
        have HX2 : Hid (TaX w u2 S1 p (l.rew rs) q C2 (.slice (some ⟨gA, 0, none⟩) (mG + 1) cA) vP (.slice none 0 0) (Gs ++ [.slice none 0 0]) X (Gc ++ [R]) (rs.take 0) P ls ds) := hX2
        have HR2 := hid hr2
        have HGL : Hid ((Gs ++ [Value.slice none 0 0]).length = (Gc ++ [R]).length + 1) := by unfold Hid; simp [hgl]
        have hbX : X.length + 1 ≤ 4000000000000 := by omega
        have hbG : (Gs ++ [Value.slice none 0 0]).length ≤ 4000000000000 := by simp; omega
        have HEND : Hid (∀ u9 C' vG' vP' vR' Gs' X', TaX w u9 S1 p (l.rew rs) q C' vG' vP' vR' Gs' X' (Gc ++ [R]) rs (P ++ [(ds + sn, rs)]) sn (ds + sn) → Gs'[(Gc ++ [R]).length]? = some vR' → Gs'.length = (Gc ++ [R]).length + 1 → X'.length = X.length + 1 → Tst w u9 S1 p (l.rew rs) q rs (P ++ [(ds + sn, rs)]) (N + 1)) := by
          intro u9 C' vG' vP' vR' Gs' X' h1 h2 h3 h4
          have e1 : (l.rew rs).size = sn := by show 16 + baseL rs = _; rw [HSN'.out]
          have e2 : dirt (l.rew rs).ws = ds + sn := by
            show dirt (l.ws ++ [_]) = _
            rw [dirt_append, HDS, HSN'.out]
            simp [dirt, gener_len]
          refine ⟨C', vG', vP', vR', Gs', X', Gc ++ [R], by rw [e1, e2]; exact h1, h2, h3, ?_, by omega, by rw [h3, List.length_append, List.length_singleton]; omega, by show (l.ws ++ [_]).length ≤ _; simp; omega⟩
          have := hTl.rew HALL.out (by have := HSN'.out; omega)
          rw [← HDS, ← HSN'.out] at this
          exact this
        have HNX : Hid (Nxt l (l.rew rs)) := .inr (.inr (.inl ⟨rs, HALL.out, (HV.out _ hX1.jr.be).bytes, by have := HSN'.out; omega, rfl⟩))
        obtain ⟨GS, HGS⟩ : ∃ GS, GS = Gs ++ [Value.slice none 0 0] := ⟨_, rfl⟩
        obtain ⟨GC, HGC⟩ : ∃ GC, GC = Gc ++ [R] := ⟨_, rfl⟩
        rw [← HGS] at HX2 HGL hbG
        rw [← HGC] at HX2 HGL HEND
        clear hX0 hl1 hr1 HA HKB HZ hX1 hS1 hset hTl hiG hy0 hy1 hy2 HLS HDS bX bG bW HH hgl hu2 hX2 hbx hbA hapA hoA hgA hatA hltA hr2 HGS HGC hrA hrB hmG
        go_wp2_with fail
        refine HZ1.out.mono ?_
        rintro _ ux ⟨rfl, rfl⟩
        go_upto_region 22 with (at_builtin; refine wpList_append_run _ rfl _ _ 56 56 rfl _ _ rfl rfl HAPA.out ?_)
        go_wp2_with fail
        rw [← HU2.out]
        clear HU2 HAPA HZ1 y2 c0 c2 a0 a2 af ag cf
        obtain ⟨VG, hVG⟩ : ∃ VG, VG = Value.slice (some ⟨gA, 0, none⟩) (mG + 1) cA := ⟨_, rfl⟩
        rw [← hVG] at HX2
        clear hVG hqA hqB
        obtain ⟨L', HLR⟩ : ∃ L', L' = l.rew rs := ⟨_, rfl⟩
        rw [← HLR] at HX2 HEND HNX
        clear HLR
        go_loopw [11] (fun i wr => ∃ (k : Nat) (C' : Nat → Prop) (vR' : Value), i = .int .i64 (k : Int) ∧ k ≤ n ∧ Hid (TaX w wr S1 p L' q C' VG vP vR' GS X GC (rs.take k) P ls ds) ∧ Hid (wr.heap[b]? = some (.cells #[.int .i64 2, .slice av nv cv, .slice vs1 n vs3, .int .i64 z] 54 (0, 0)))) (fun i _ => n - (intOf i).toNat)
        case atStart => exact ⟨0, C2, _, rfl, Nat.zero_le _, HX2, HR2⟩
        case round =>
          obtain ⟨k, C', vR', rfl, hk, HX, HR⟩ := hrel
          clear HX2 HR2
          have y2 : wr.cell? ⟨b, 2, none⟩ = some (.slice vs1 n vs3) := by rw [cell_of_row _ _ _ _ _ _ HR.out]; rfl
          have hbw := (Array.getElem?_eq_some_iff.1 HR.out).1
          obtain ⟨-, -, c2, c3, c4, cf⟩ := ta_cells HX.out.row
          have hqw := HX.out.lt.1
          by_cases hlt : k < n
          · as_aux_lemma =>
              obtain ⟨gx, off, x, r, rfl, hgx, hcx, hx, HXR⟩ := (HV.out wr HX.out.jr.be).at k hlt
              have hrl : r.length ≤ 65536 := HALL.out r (List.mem_of_getElem? HXR.out)
              obtain ⟨ax, nx, cx, rfl, HNX, -, -⟩ := hx.shape
              obtain ⟨Vs, hV, hVl, hVf⟩ := HX.out.fr
              obtain ⟨ar, nr, cr, rfl, HNR, hcr1, hcr2⟩ := hV.shape
              have hnrB : nr ≤ 1000000 := by
                have h3 := HNR.out
                rw [hVl, List.length_take] at h3
                omega
              obtain ⟨i0, hi0, hz0, hz1, hz2⟩ := info_parts infoS
              have HI := hid hi0
              have hC3 : nr + 1 ≤ maxLen := by unfold maxLen; omega
              have hC : (nr + 1) * 24 ≤ 140737488355328 := by omega
              have hbx := HX.out.box HR.out
              have HCL : Hid (Calls Tryd.prog 13 #[.slice ax nx cx] wr.drew fun e w' => ∃ a n c, e = .returned (.slice a n c) ∧ OwnB w' wr.heap.size (.slice a n c) r ∧ Below wr.heap.size wr w') := by
                refine (clone_any (.slice ax nx cx) r wr.drew (hx.below (below_drew (Below.refl _ _))) (by omega)).mono ?_
                rintro e w' ⟨v', rfl, h1, h2⟩
                have hb2 : Below wr.heap.size wr w' := ⟨h2.os, h2.tape, h2.output, h2.size, h2.block⟩
                rcases h1.2 with ⟨rfl, h3⟩ | ⟨g, cap, cur, rfl, h3⟩
                · exact ⟨_, _, _, rfl, h1, hb2⟩
                · exact ⟨_, _, _, rfl, h1, hb2⟩
              have HRO : Hid (∀ w1, Below wr.heap.size wr w1 → w1.heap[q]? = some (taRow VG vP (.slice ar nr cr) ls ds)) := fun w1 hb => (HX.out.below hb).row
              have HRA : Hid (∀ w1 x, Below wr.heap.size wr w1 → (w1.alloc (.cells #[x] 24)).heap[q]? = some (taRow VG vP (.slice ar nr cr) ls ds)) := fun w1 x hb => ((HX.out.below hb).below ((Below.refl _ _).alloc (Nat.le_refl _) _)).row
              have HOWN : Hid (∀ w1 x, Below wr.heap.size wr w1 → (w1.alloc (.cells #[x] 24)).ownsRow w.heap.size 24 1 (.slice ar nr cr) nr Vs) := fun w1 x hb => by
                have := (hV.below hb).below ((Below.refl _ _).alloc (Nat.le_refl _) (.cells #[x] 24))
                unfold OwnS at this
                rw [← HNR.out] at this
                exact this
              have HNEW : Hid (∀ (w1 : World) (x : Value) (i : Nat) y, [x][i]? = some y → (w1.alloc (.cells #[x] 24)).cell? ((⟨w1.heap.size, 0, none⟩ : Addr).add i) = some y) := fun w1 x => World.news_of_block (heap_alloc_new w1 _)
              have HB4 : Hid (∀ w1 x, Below wr.heap.size wr w1 → w.heap.size ≤ (w1.alloc (.cells #[x] 24)).heap.size) := fun w1 x hb => by
                rw [World.size_alloc]
                have := HX.out.jr.be.size
                have := hb.size
                omega
              have HROW : Hid (∀ (w1 w6 : World) x, Below wr.heap.size wr w1 → (w1.alloc (.cells #[x] 24)).grownBy w6 (Value.ownBlock (.slice ar nr cr)) → w6.heap[q]? = some (taRow VG vP (.slice ar nr cr) ls ds)) := fun w1 w6 x hb hg => by
                have h2 := (HX.out.below hb).below ((Below.refl _ _).alloc (Nat.le_refl _) (.cells #[x] 24))
                exact (hg.block q h2.lt.1 (fun e => h2.ne.2.2.1 e.symm)).trans h2.row
              have HFIN : Hid (∀ (w1 w6 : World) (a : Option Addr) (n' c g6 cap6 : Nat), OwnB w1 wr.heap.size (.slice a n' c) r → Below wr.heap.size wr w1 → w6.ownsRow w.heap.size 24 1 (.slice (some ⟨g6, 0, none⟩) (nr + 1) cap6) (nr + 1) (Vs ++ [.slice a n' c]) → (w1.alloc (.cells #[.slice a n' c] 24)).grownBy w6 (Value.ownBlock (.slice ar nr cr)) → (Value.ownBlock (.slice ar nr cr) = some g6 ∨ g6 = w1.heap.size + 1) →
                  (∃ C'', TaX w (w6.setCell ⟨q, 2, none⟩ (.slice (some ⟨g6, 0, none⟩) (nr + 1) cap6)) S1 p L' q C'' VG vP (.slice (some ⟨g6, 0, none⟩) (nr + 1) cap6) GS X GC (rs.take (k + 1)) P ls ds) ∧ (w6.setCell ⟨q, 2, none⟩ (.slice (some ⟨g6, 0, none⟩) (nr + 1) cap6)).heap[b]? = some (.cells #[.int .i64 2, .slice av nv cv, .slice (some ⟨gx, off, none⟩) n vs3, .int .i64 z] 54 (0, 0))) := by
                intro w1 w6 a n' c g6 cap6 ho hb how hg hat
                have hbA : Below w1.heap.size w1 (w1.alloc (.cells #[.slice a n' c] 24)) := (Below.refl _ _).alloc (Nat.le_refl _) _
                have hbW : Below wr.heap.size wr (w1.alloc (.cells #[.slice a n' c] 24)) := hb.trans (hbA.mono hb.size)
                obtain ⟨C'', hC'⟩ := HX.out.add hbW hVl hVf ((ho.sees hx.bytes).below hbA) (fun a' n' c' e => by
                  have h1 := World.ownsRow.lt ho a'.block (by simp at e; obtain ⟨rfl, -, -⟩ := e; rcases ho.2 with ⟨e2, -⟩ | ⟨g, cap, cur, e2, -⟩ <;> simp at e2 <;> rw [e2.1] <;> rfl)
                  have h2 := hbA.size
                  omega) (by unfold OwnS; rw [List.length_append, ← HNR.out]; exact how) hg (hat.imp id (fun e => by rw [World.size_alloc]; omega))
                refine ⟨⟨C'', by rw [take_snoc HXR.out]; exact hC'⟩, ?_⟩
                have h1 := (hbW.block b hbw).trans HR.out
                have h2 := (hg.block b (Nat.lt_of_lt_of_le hbw hbW.size) (fun e => hbx.2.2 e.symm)).trans h1
                have hk : Keeps (At1 q) w6 (w6.setCell ⟨q, 2, none⟩ (.slice (some ⟨g6, 0, none⟩) (nr + 1) cap6)) := (Keeps.refl (At1 q) w6).set ⟨q, 2, none⟩ rfl _
                exact (hk.block b (Array.getElem?_eq_some_iff.1 h2).1 hbx.1).trans h2
              clear hV hVl hVf hi0 HNR hx HEND hbx
              go_upto_region 26 with fail
              go_region_law (first
                | (go_simp; go_at_call 13; refine HCL.out.mono ?_; rintro _ w1 ⟨xa, xn, xc, rfl, hxo, hxb⟩; have HXO := hid hxo; have HXB := hid hxb; clear hxo hxb; obtain ⟨-, -, y2, -, -, yf⟩ := ta_cells (HRO.out w1 HXB.out); obtain ⟨-, -, y3, -, -, yg⟩ := ta_cells (HRA.out w1 (.slice xa xn xc) HXB.out))
                | (refine step_append_lies _ (by rfl) _ _ _ (by rfl) w.heap.size 24 i0 (.slice none 0 0) 1 24 (by kernel_rfl) HI.out hz0 hz1 hz2 rfl (by omega) (.slice ar nr cr) nr Vs (by rfl) (HOWN.out w1 _ HXB.out) ⟨w1.heap.size, 0, none⟩ 1 1 [.slice xa xn xc] (by rfl) (by rfl) (HNEW.out w1 _) (by simp [Value.oneCell']) (by omega) hC3 hC (HB4.out w1 _ HXB.out) (w1.heap.size + 1) (World.size_alloc _ _) ?_; intro g6 cap6 w6 hown6 hgrow hat6 hlt6; obtain ⟨-, -, k2, k3, k4, kf⟩ := ta_cells (HROW.out w1 w6 _ HXB.out hgrow))
                | fail)
              all_goals (
                obtain ⟨⟨C'', hE⟩, hBX⟩ := HFIN.out w1 w6 xa xn xc g6 cap6 HXO.out HXB.out hown6 hgrow hat6
                have HE := hid hE
                have HBX := hid hBX
                clear hown6 hgrow hat6 hlt6 hE hBX
                go_wp2_with fail
                go_roundw
                case rel => exact ⟨k + 1, C'', _, by go_num, by omega, HE, HBX⟩
                case measure => simp [intOf]; omega)
          · as_aux_lemma =>
              have hX := HX.out
              rw [List.take_of_length_le (by have := HNS.out; omega)] at hX
              have hr := hX.row
              unfold taRow at hr
              have hr7 := set_cells (i := 4) (v := .int .i64 ((ds : Int) + (sn : Int))) (set_cells (i := 3) (v := .int .i64 (sn : Int)) hr)
              have hX9 : TaX w ((wr.setCell ⟨q, 3, none⟩ (.int .i64 (sn : Int))).setCell ⟨q, 4, none⟩ (.int .i64 ((ds : Int) + (sn : Int)))) S1 p L' q C' VG vP vR' GS X GC rs P sn (ds + sn) := by
                refine hX.nums (((Keeps.refl (At1 q) _).set ⟨q, 3, none⟩ rfl _).set ⟨q, 4, none⟩ rfl _) (hr7.trans ?_)
                unfold taRow
                rw [show ((ds + sn : Nat) : Int) = (ds : Int) + (sn : Int) by omega]
                rfl
              have HNO := hid (note_some hX9 HGL.out hbX hbG)
              clear hX hr hr7 hX9
              go_wp2_with fail
              refine HNO.out.mono ?_
              rintro _ u9 ⟨rfl, vG', vP', Gs', X', h1, h2, h3, h4⟩
              have HTS := hid (HEND.out u9 _ _ _ _ _ _ h1 h2 h3 h4)
              clear h1 h2 h3 h4
              go_wp2_with fail
              go_ret
              exact ⟨rfl, _, _, _, _, HTS.out, HNX.out⟩
end Go.Proofs.YteoebmpfdcbbmabDoor
