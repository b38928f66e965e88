/-
  The reference's Open.
-/
import Derived.Test.YteoebmpfdcbbmacDoorRH
import Derived.Test.YteoebmpfdcbbmacDoorRJ
namespace Go.Proofs.YteoebmpfdcbbmacDoor
open Go.ChangeShapes Go.WideShapes Go.ChangeAt Go.RowKit Jn N
set_option maxHeartbeats 16000000
set_option maxRecDepth 100000

theorem OwnB.frz {u : World} {B : Nat} {x : Value} {L : List Nat} {C : Nat → Prop} (h : OwnB u B x L) (hb : ∀ y ∈ L, y < 256) (hC : ∀ k, x.ownBlock = some k → C k) : Frz u C x L := by
  refine ⟨h.sees hb, fun a n c e => ?_⟩
  rcases h.2 with ⟨e2, -⟩ | ⟨g, cap, cur, e2, -⟩
  · rw [e2] at e; cases e
  · rw [e2] at e
    simp at e
    obtain ⟨rfl, -, -⟩ := e
    exact hC g (by rw [e2]; rfl)
/-- A log that was just opened. -/
theorem rf_make {B : Nat} {u : World} {p c g fr fin : Nat} {xa xb : Value} {A Bb : List Nat} (hrow : u.heap[p]? = some (rfRow xa xb (.slice none 0 0) c g fr fin)) (hp : B ≤ p) (ha : OwnB u B xa A) (hb : OwnB u B xb Bb) (yA : ∀ y ∈ A, y < 256) (yB : ∀ y ∈ Bb, y < 256) : RefAt B u p ⟨A, Bb, [], c, g, fr, fin⟩ := by
  have hr := hrow
  unfold rfRow at hr
  refine ⟨fun k => xa.ownBlock = some k ∨ xb.ownBlock = some k, xa, xb, .slice none 0 0, [], hrow, hp, ha.frz yA (fun k hk => .inl hk), hb.frz yB (fun k hk => .inr hk), World.ownsRow_nil _ _ _ _, rfl, fun x hx => by simp at hx, fun k hk => ?_⟩
  rcases hk with hk | hk
  · have h1 := World.ownsRow.lt ha k hk
    exact ⟨h1.2, fun e => row_ne ha hr (by decide) (by rw [hk, e]), by simp [Value.ownBlock], h1.1⟩
  · have h1 := World.ownsRow.lt hb k hk
    exact ⟨h1.2, fun e => row_ne hb hr (by decide) (by rw [hk, e]), by simp [Value.ownBlock], h1.1⟩
theorem uWR : Tryd.prog.underlying 84 = some (.slice 89) := by kernel_rfl
theorem infoWR : (Tryd.prog.info? 89).map (fun i => (i.zero, i.size, i.bytes)) = some (some (.agg #[.int .i64 0, .int .i64 0, .slice none 0 0]), 3, 40) := by kernel_rfl
/-- A log whose first generation is written. -/
theorem rf_make1 {B : Nat} {u : World} {p g6 n6 cap6 : Nat} {xa xb xh : Value} {A Bb : List Nat} (hrow : u.heap[p]? = some (rfRow xa xb (.slice (some ⟨g6, 0, none⟩) n6 cap6) 0 1 0 16)) (hp : B ≤ p) (ha : OwnB u B xa A) (hb : OwnB u B xb Bb) (hh : OwnB u B xh (head 1 0)) (hw : u.ownsRow B 89 3 (.slice (some ⟨g6, 0, none⟩) n6 cap6) 1 [.int .i64 0, .int .i64 0, xh]) (yA : ∀ y ∈ A, y < 256) (yB : ∀ y ∈ Bb, y < 256) : RefAt B u p ⟨A, Bb, [⟨0, 0, gener 1 []⟩], 0, 1, 0, 16⟩ := by
  have hr := hrow
  unfold rfRow at hr
  have hg : gener 1 [] = head 1 0 := by simp [gener, frames, baseL]
  refine ⟨fun k => xa.ownBlock = some k ∨ xb.ownBlock = some k ∨ xh.ownBlock = some k, xa, xb, _, [⟨0, 0, xh, head 1 0⟩], hrow, hp, ha.frz yA (fun k hk => .inl hk), hb.frz yB (fun k hk => .inr (.inl hk)), hw, by rw [hg]; rfl, fun x hx => ?_, fun k hk => ?_⟩
  · simp at hx
    subst hx
    exact hh.frz (head_bytes _ _) (fun k hk => .inr (.inr hk))
  · rcases hk with hk | hk | hk
    · have h1 := World.ownsRow.lt ha k hk
      exact ⟨h1.2, fun e => row_ne ha hr (by decide) (by rw [hk, e]), rows_ne ha hw (by decide) k hk, h1.1⟩
    · have h1 := World.ownsRow.lt hb k hk
      exact ⟨h1.2, fun e => row_ne hb hr (by decide) (by rw [hk, e]), rows_ne hb hw (by decide) k hk, h1.1⟩
    · have h1 := World.ownsRow.lt hh k hk
      exact ⟨h1.2, fun e => row_ne hh hr (by decide) (by rw [hk, e]), rows_ne hh hw (by decide) k hk, h1.1⟩

theorem tmod33 {gA gB : Nat} (h : gB < 4294967296) : ((gA : Int) - (gB : Int) + 4294967296).tmod 4294967296 = (((gA + 4294967296 - gB) % 4294967296 : Nat) : Int) := by
  rw [show (gA : Int) - (gB : Int) + 4294967296 = ((gA + 4294967296 - gB : Nat) : Int) by omega]
  rfl
theorem openR_any (va vb : Value) (A B : List Nat) (w : World) (hva : SeesB w va A) (hvb : SeesB w vb B) :
    Calls Tryd.prog 13 #[.agg #[va, vb]] w fun e w' => (opnE A B = true → e = .returned (.tuple #[.pointer none, .slice none 0 0, .int .i64 120]) ∧ Below w.heap.size w w') ∧ (opnE A B = false → ∃ p v, e = .returned (.tuple #[.pointer (some ⟨p, 0, none⟩), v, .int .i64 0]) ∧ RefAt w.heap.size w' p (opnL A B) ∧ SeesBB w' v (opnR A B) ∧ Below w.heap.size w w') := by
  have HFA := hid (rdA_facts A hva.bytes)
  have HFB := hid (rdA_facts B hvb.bytes)
  have HYA := hid hva.bytes
  have HYB := hid hvb.bytes
  obtain ⟨a0, n0, c0, rfl, HN0, -, -⟩ := hva.shape
  obtain ⟨a1, n1, c1, rfl, HN1, -, -⟩ := hvb.shape
  obtain ⟨cA, HCA⟩ : ∃ cA, Hid (cA = rdA A) := ⟨_, rfl⟩
  obtain ⟨cB, HCB⟩ : ∃ cB, Hid (cB = rdA B) := ⟨_, rfl⟩
  obtain ⟨u0, hu0⟩ : ∃ u0, u0 = w.alloc (.cells #[.slice a0 n0 c0, .slice a1 n1 c1] 24) := ⟨_, rfl⟩
  have hb0 : Below w.heap.size w u0 := by rw [hu0]; exact (Below.refl _ _).alloc (Nat.le_refl _) _
  have hr0 : u0.heap[w.heap.size]? = some (dkRow (.slice a0 n0 c0) (.slice a1 n1 c1)) := by rw [hu0]; exact heap_alloc_new w _
  have HSA := hid (hva.below hb0)
  have HSB := hid (hvb.below hb0)
  obtain ⟨e0, e1, ef⟩ := dk_cells hr0
  have hl0 := (Array.getElem?_eq_some_iff.1 hr0).1
  obtain ⟨b, hbb⟩ : ∃ b, b = w.heap.size := ⟨_, rfl⟩
  rw [← hbb] at e0 e1 hl0 hr0
  have HBB := hid hbb
  have HU0 := hid hu0
  have HR0 := hid hr0
  have HB0 := hid hb0
  have HRA := hid (readR_any _ A u0 HSA.out)
  rw [← HCA.out] at HRA
  clear hva hvb hu0 hb0 hr0 hbb
  go_enter Tryd.func13, Tryd.ntmps13
  go_upto_region 1 with fail
  rw [← HU0.out, ← HBB.out]
  go_wp2_with fail
  refine HRA.out.mono ?_
  rintro _ u1 ⟨_, rfl, vrA, rfl, hsA, hb1⟩
  obtain ⟨ra0, rn0, rc0, rfl, HRN0, -, -⟩ := hsA.shape
  obtain ⟨u2, hu2⟩ : ∃ u2, u2 = u1.alloc (.cells #[.int .i64 (cA.st : Int), .int .i64 (cA.gen : Int), .slice ra0 rn0 rc0, .int .i64 (cA.fin : Int)] 81) := ⟨_, rfl⟩
  have hb2 : Below u1.heap.size u1 u2 := by rw [hu2]; exact (Below.refl _ _).alloc (Nat.le_refl _) _
  have hr2 : u2.heap[u1.heap.size]? = some (arRow cA.st cA.gen (.slice ra0 rn0 rc0) cA.fin) := by rw [hu2]; exact heap_alloc_new u1 _
  obtain ⟨pa, hpa⟩ : ∃ pa, pa = u1.heap.size := ⟨_, rfl⟩
  rw [← hpa] at hr2
  have hb02 : Below u0.heap.size u0 u2 := hb1.trans (hb2.mono hb1.size)
  have HB02 := hid hb02
  have HSRA := hid (hsA.below hb2)
  have HRB := hid (readR_any _ B u2 (HSB.out.below hb02))
  rw [← HCB.out] at HRB
  have HU2 := hid hu2
  have HPA := hid hpa
  have HR2 := hid hr2
  obtain ⟨-, f1, -⟩ := dk_cells ((hb02.block b hl0).trans HR0.out)
  have hl2 := Nat.lt_of_lt_of_le hl0 hb02.size
  clear hsA hb1 hb2 hu2 hr2 hpa hb02 HRA e0 e1 ef
  go_upto_region 2 with fail
  rw [← HU2.out, ← HPA.out]
  go_wp2_with fail
  refine HRB.out.mono ?_
  rintro _ u3 ⟨_, rfl, vrB, rfl, hsB, hb3⟩
  obtain ⟨ra1, rn1, rc1, rfl, HRN1, -, -⟩ := hsB.shape
  obtain ⟨u4, hu4⟩ : ∃ u4, u4 = u3.alloc (.cells #[.int .i64 (cB.st : Int), .int .i64 (cB.gen : Int), .slice ra1 rn1 rc1, .int .i64 (cB.fin : Int)] 81) := ⟨_, rfl⟩
  have hb4 : Below u3.heap.size u3 u4 := by rw [hu4]; exact (Below.refl _ _).alloc (Nat.le_refl _) _
  have hr4 : u4.heap[u3.heap.size]? = some (arRow cB.st cB.gen (.slice ra1 rn1 rc1) cB.fin) := by rw [hu4]; exact heap_alloc_new u3 _
  obtain ⟨pb, hpb⟩ : ∃ pb, pb = u3.heap.size := ⟨_, rfl⟩
  rw [← hpb] at hr4
  have hb24 : Below u2.heap.size u2 u4 := hb3.trans (hb4.mono hb3.size)
  have HB04 : Hid (Below u0.heap.size u0 u4) := HB02.out.trans (hb24.mono HB02.out.size)
  have HRD : Hid (∀ W, Below u4.heap.size u4 W → W.heap[b]? = some (dkRow (.slice a0 n0 c0) (.slice a1 n1 c1)) ∧ W.heap[pa]? = some (arRow cA.st cA.gen (.slice ra0 rn0 rc0) cA.fin) ∧ W.heap[pb]? = some (arRow cB.st cB.gen (.slice ra1 rn1 rc1) cB.fin)) := fun W hW => by
    have h1 := (HB04.out.block b hl0).trans HR0.out
    have h2 := (hb24.block pa (Array.getElem?_eq_some_iff.1 HR2.out).1).trans HR2.out
    exact ⟨below_keeps hW h1 (Array.getElem?_eq_some_iff.1 h1).1, below_keeps hW h2 (Array.getElem?_eq_some_iff.1 h2).1, below_keeps hW hr4 (Array.getElem?_eq_some_iff.1 hr4).1⟩
  have HSRA4 := hid (HSRA.out.below hb24)
  have HSRB4 := hid (hsB.below hb4)
  have HB4w : Hid (Below w.heap.size w u4) := HB0.out.trans (HB04.out.mono HB0.out.size)
  have HCP := fun (lA : A.length ≤ 1048576) (lB : B.length ≤ 1048576) => hid (copiedR_any _ _ A B u4 (HSA.out.below HB04.out) (HSB.out.below HB04.out) (by omega) (by omega))
  have HU4 := hid hu4
  have HPB := hid hpb
  clear hsB hb3 hb4 hu4 hr4 hpb hb24 HRB f1 hl2 HSRA HB02 HR2 HPA HU2 HU0 HBB HSB HSA HR0
  obtain ⟨x0, x1, -⟩ := dk_cells (HRD.out u4 (Below.refl _ _)).1
  obtain ⟨y0, y1, y2, y3, -⟩ := ar_cellsR (HRD.out u4 (Below.refl _ _)).2.1
  obtain ⟨z0, z1, z2, z3, -⟩ := ar_cellsR (HRD.out u4 (Below.refl _ _)).2.2
  have hlb := (Array.getElem?_eq_some_iff.1 (HRD.out u4 (Below.refl _ _)).1).1
  have hla := (Array.getElem?_eq_some_iff.1 (HRD.out u4 (Below.refl _ _)).2.1).1
  have hlc := (Array.getElem?_eq_some_iff.1 (HRD.out u4 (Below.refl _ _)).2.2).1
  go_upto_region 3 with fail
  rw [← HU4.out, ← HPB.out]
  have HE : Hid (opnE A B = (((cA.st == 1) || (cB.st == 1)) || (((cA.st == 2) || (cB.st == 2)) && !((cA.st == 3) || (cB.st == 3))))) := by unfold Hid opnE; rw [HCA.out, HCB.out]
  have HL : Hid (opnL A B = if cA.st ≠ 3 ∧ cB.st ≠ 3 then ⟨A, B, [⟨0, 0, gener 1 []⟩], 0, 1, 0, 16⟩ else if newerN cA.st cA.gen cB.st cB.gen = 0 then ⟨A, B, [], 0, cA.gen, cA.recs.length, cA.fin⟩ else ⟨A, B, [], 1, cB.gen, cB.recs.length, cB.fin⟩) := by unfold Hid opnL; rw [HCA.out, HCB.out]; rfl
  have HRR : Hid (opnR A B = if cA.st ≠ 3 ∧ cB.st ≠ 3 then [] else if newerN cA.st cA.gen cB.st cB.gen = 0 then cA.recs else cB.recs) := by unfold Hid opnR; rw [HCA.out, HCB.out]
  have HLA : Hid (cA.st ≠ 1 → A.length ≤ 1048576 ∧ (cA.st = 0 ∨ cA.st = 2 ∨ cA.st = 3) ∧ cA.gen < 4294967296) := fun hne => by
    rw [HCA.out] at hne ⊢
    rcases HFA.out with ⟨e, h1⟩ | e | ⟨e, h1⟩ | ⟨e, h1, h2, -⟩
    · rw [e]; exact ⟨by omega, .inl rfl, by show 0 < _; omega⟩
    · rw [e] at hne; exact absurd rfl hne
    · rw [e]; exact ⟨h1, .inr (.inl rfl), by show 0 < _; omega⟩
    · exact ⟨h1, .inr (.inr e), h2⟩
  have HLB : Hid (cB.st ≠ 1 → B.length ≤ 1048576 ∧ (cB.st = 0 ∨ cB.st = 2 ∨ cB.st = 3) ∧ cB.gen < 4294967296) := fun hne => by
    rw [HCB.out] at hne ⊢
    rcases HFB.out with ⟨e, h1⟩ | e | ⟨e, h1⟩ | ⟨e, h1, h2, -⟩
    · rw [e]; exact ⟨by omega, .inl rfl, by show 0 < _; omega⟩
    · rw [e] at hne; exact absurd rfl hne
    · rw [e]; exact ⟨h1, .inr (.inl rfl), by show 0 < _; omega⟩
    · exact ⟨h1, .inr (.inr e), h2⟩
  have hA3 : cA.st ≤ 3 := by
    by_cases h : cA.st = 1
    · omega
    · rcases (HLA.out h).2.1 with e | e | e <;> omega
  have hB3 : cB.st ≤ 3 := by
    by_cases h : cB.st = 1
    · omega
    · rcases (HLB.out h).2.1 with e | e | e <;> omega
  clear HCA HCB HFA HFB
  obtain ⟨sA, gA, RA, fA⟩ := cA
  obtain ⟨sB, gB, RB, fB⟩ := cB
  simp only at *
  by_cases hA1 : sA = 1
  · as_aux_lemma =>
      subst hA1
      go_wp2_with fail
      refine bodyPost_ret (v := .tuple #[.pointer none, .slice none 0 0, .int .i64 120]) (by simp [results, Tryd.results13, go_sem]) rfl ⟨fun _ => ⟨rfl, HB4w.out⟩, fun e => by rw [HE.out] at e; simp at e⟩
  · by_cases hB1 : sB = 1
    · as_aux_lemma =>
        subst hB1
        have qa : ((sA : Int) == 1) = false := by simp; omega
        go_wp2_with fail
        refine bodyPost_ret (v := .tuple #[.pointer none, .slice none 0 0, .int .i64 120]) (by simp [results, Tryd.results13, go_sem]) rfl ⟨fun _ => ⟨rfl, HB4w.out⟩, fun e => by rw [HE.out] at e; simp at e⟩
    · obtain ⟨lA, oA, hgA⟩ := HLA.out hA1
      obtain ⟨lB, oB, hgB⟩ := HLB.out hB1
      have HC4 := HCP lA lB
      clear HLA HLB HCP hA1 hB1 hA3 hB3
      rcases oA with rfl | rfl | rfl
      · rcases oB with rfl | rfl | rfl
        · as_aux_lemma =>
            go_wp2_with fail
            refine HC4.out.mono ?_
            rintro _ u5 ⟨xa, xb, rfl, ⟨a5, n5, c5, rfl⟩, ⟨a6, n6, c6, rfl⟩, hoa, hob, hb5⟩
            obtain ⟨u6, hu6⟩ : ∃ u6, u6 = u5.alloc (.cells #[.slice a5 n5 c5, .slice a6 n6 c6, .slice none 0 0, .int .i64 0, .int .i64 0, .int .i64 0, .int .i64 0] 86) := ⟨_, rfl⟩
            have hb6 : Below u5.heap.size u5 u6 := by rw [hu6]; exact (Below.refl _ _).alloc (Nat.le_refl _) _
            have hr6 : u6.heap[u5.heap.size]? = some (rfRow (.slice a5 n5 c5) (.slice a6 n6 c6) (.slice none 0 0) 0 0 0 0) := by rw [hu6]; exact heap_alloc_new u5 _
            obtain ⟨p, hp⟩ : ∃ p, p = u5.heap.size := ⟨_, rfl⟩
            rw [← hp] at hr6
            have HB46 : Hid (Below u4.heap.size u4 u6) := hb5.trans (hb6.mono hb5.size)
            have HPL : Hid (u4.heap.size ≤ p) := by rw [hp]; exact hb5.size
            have HR6 := hid hr6
            have HOA := hid (hoa.below hb6)
            have HOB := hid (hob.below hb6)
            have HU6 := hid hu6
            have HP := hid hp
            obtain ⟨y0, y1, y2, y3, -⟩ := ar_cellsR (HRD.out u6 HB46.out).2.1
            obtain ⟨z0, z1, z2, z3, -⟩ := ar_cellsR (HRD.out u6 HB46.out).2.2
            have hla := (Array.getElem?_eq_some_iff.1 (HRD.out u6 HB46.out).2.1).1
            have hlc := (Array.getElem?_eq_some_iff.1 (HRD.out u6 HB46.out).2.2).1
            obtain ⟨s0, s1, s2, s3, s4, s5, s6, sf⟩ := rf_cells hr6
            have hlp := (Array.getElem?_eq_some_iff.1 hr6).1
            clear hoa hob hb5 hb6 hu6 hr6 hp HC4
            go_upto_region 6 with fail
            rw [← HU6.out, ← HP.out]
            obtain ⟨u7, hu7⟩ : ∃ u7, u7 = (u6.setCell ⟨p, 4, none⟩ (.int .i64 1)).setCell ⟨p, 6, none⟩ (.int .i64 16) := ⟨_, rfl⟩
            have hk7 : Keeps (At1 p) u6 u7 := by rw [hu7]; exact ((Keeps.refl (At1 p) u6).set ⟨p, 4, none⟩ rfl _).set ⟨p, 6, none⟩ rfl _
            have hr7 : u7.heap[p]? = some (rfRow (.slice a5 n5 c5) (.slice a6 n6 c6) (.slice none 0 0) 0 1 0 16) := by
              have h := HR6.out
              unfold rfRow at h ⊢
              rw [hu7]
              exact set_cells (set_cells h)
            have hrr : u6.heap[p]? = some (.cells #[.slice a5 n5 c5, .slice a6 n6 c6, .slice none 0 0, .int .i64 0, .int .i64 0, .int .i64 0, .int .i64 0] 86 (0, 0)) := HR6.out
            have hOA7 : OwnB u7 u4.heap.size (.slice a5 n5 c5) A := HOA.out.keeps hk7 (fun k hk e => row_ne HOA.out hrr (by decide) (by unfold At1 at e; rw [hk, e]))
            have hOB7 : OwnB u7 u4.heap.size (.slice a6 n6 c6) B := HOB.out.keeps hk7 (fun k hk e => row_ne HOB.out hrr (by decide) (by unfold At1 at e; rw [hk, e]))
            have hB7 : Below u4.heap.size u4 u7 := hk7.below HB46.out HB46.out.size (fun k hk e => by unfold At1 at e; have := HPL.out; omega)
            have h4w := HB4w.out.size
            have hB7w : Below w.heap.size w u7 := HB4w.out.trans (hB7.mono h4w)
            have HHD : Hid (Calls Tryd.prog 43 #[.int .i64 1, .int .i64 0] u7.drew fun e w' => ∃ a m c, e = .returned (.slice a m c) ∧ OwnB w' u7.heap.size (.slice a m c) (head 1 0) ∧ Below u7.heap.size u7 w') := by
              refine (headR_any 1 0 u7.drew (by decide) (by decide)).mono ?_
              rintro e w' ⟨v', rfl, h1, h2⟩
              obtain ⟨a, m, c, rfl, -⟩ := h1.sl
              exact ⟨a, m, c, rfl, h1, h2.os, h2.tape, h2.output, h2.size, h2.block⟩
            obtain ⟨i0, hi0, hz0, hz1, hz2⟩ := info_parts infoWR
            have HI := hid hi0
            have HRO : Hid (∀ w1, Below u7.heap.size u7 w1 → w1.heap[p]? = some (rfRow (.slice a5 n5 c5) (.slice a6 n6 c6) (.slice none 0 0) 0 1 0 16)) := fun w1 hb => below_keeps hb hr7 (Array.getElem?_eq_some_iff.1 hr7).1
            have HRA : Hid (∀ w1 x, Below u7.heap.size u7 w1 → (w1.alloc (.cells #[.int .i64 0, .int .i64 0, x] 89)).heap[p]? = some (rfRow (.slice a5 n5 c5) (.slice a6 n6 c6) (.slice none 0 0) 0 1 0 16)) := fun w1 x hb => below_keeps (hb.trans (((Below.refl w1.heap.size w1).alloc (Nat.le_refl _) _).mono hb.size)) hr7 (Array.getElem?_eq_some_iff.1 hr7).1
            have HNEW : Hid (∀ (w1 : World) (x : Value) (i : Nat) y, [Value.int .i64 0, .int .i64 0, x][i]? = some y → (w1.alloc (.cells #[.int .i64 0, .int .i64 0, x] 89)).cell? ((⟨w1.heap.size, 0, none⟩ : Addr).add i) = some y) := fun w1 x => World.news_of_block (heap_alloc_new w1 _)
            have HB9 : Hid (∀ w1 x, Below u7.heap.size u7 w1 → w.heap.size ≤ (w1.alloc (.cells #[.int .i64 0, .int .i64 0, x] 89)).heap.size) := fun w1 x hb => by
              rw [World.size_alloc]
              have := hB7w.size
              have := hb.size
              omega
            have HROW : Hid (∀ (w1 w6 : World) x, Below u7.heap.size u7 w1 → (w1.alloc (.cells #[.int .i64 0, .int .i64 0, x] 89)).grownBy w6 (Value.ownBlock (.slice none 0 0)) → w6.heap[p]? = some (rfRow (.slice a5 n5 c5) (.slice a6 n6 c6) (.slice none 0 0) 0 1 0 16)) := fun w1 w6 x hb hg =>
              (hg.block p (Array.getElem?_eq_some_iff.1 (HRA.out w1 x hb)).1 (fun e => by simp [Value.ownBlock] at e)).trans (HRA.out w1 x hb)
            have HFIN : Hid (∀ (w1 w6 : World) (a : Option Addr) (m c g6 cap6 : Nat), OwnB w1 u7.heap.size (.slice a m c) (head 1 0) → Below u7.heap.size u7 w1 → w6.ownsRow w.heap.size 89 3 (.slice (some ⟨g6, 0, none⟩) (0 + 1) cap6) (0 + 1) ([] ++ [.int .i64 0, .int .i64 0, .slice a m c]) → (w1.alloc (.cells #[.int .i64 0, .int .i64 0, .slice a m c] 89)).grownBy w6 (Value.ownBlock (.slice none 0 0)) →
                RefAt w.heap.size (w6.setCell ⟨p, 2, none⟩ (.slice (some ⟨g6, 0, none⟩) (0 + 1) cap6)) p ⟨A, B, [⟨0, 0, gener 1 []⟩], 0, 1, 0, 16⟩ ∧ Below w.heap.size w (w6.setCell ⟨p, 2, none⟩ (.slice (some ⟨g6, 0, none⟩) (0 + 1) cap6))) := by
              intro w1 w6 a m c g6 cap6 hoh hb how hg
              have hbA : Below w1.heap.size w1 (w1.alloc (.cells #[.int .i64 0, .int .i64 0, .slice a m c] 89)) := (Below.refl _ _).alloc (Nat.le_refl _) _
              have hb6 : Below w1.heap.size w1 w6 := hbA.trans ⟨hg.os, hg.tape, hg.output, by have := hg.size; have := hbA.size; omega, fun k hk => hg.block k (Nat.lt_of_lt_of_le hk hbA.size) (fun e => by simp [Value.ownBlock] at e)⟩
              have hb76 : Below u7.heap.size u7 w6 := hb.trans (hb6.mono hb.size)
              have hk : Keeps (At1 p) w6 (w6.setCell ⟨p, 2, none⟩ (.slice (some ⟨g6, 0, none⟩) (0 + 1) cap6)) := (Keeps.refl (At1 p) w6).set ⟨p, 2, none⟩ rfl _
              have hrp := HROW.out w1 w6 _ hb hg
              have hrp' : w6.heap[p]? = some (.cells #[.slice a5 n5 c5, .slice a6 n6 c6, .slice none 0 0, .int .i64 0, .int .i64 1, .int .i64 0, .int .i64 16] 86 (0, 0)) := hrp
              have hrw : (w6.setCell ⟨p, 2, none⟩ (.slice (some ⟨g6, 0, none⟩) (0 + 1) cap6)).heap[p]? = some (rfRow (.slice a5 n5 c5) (.slice a6 n6 c6) (.slice (some ⟨g6, 0, none⟩) (0 + 1) cap6) 0 1 0 16) := set_cells hrp'
              have s4 := hB7.size
              have oA := (hOA7.below hb76)
              have oB := (hOB7.below hb76)
              have oH := (hoh.below hb6)
              have hpw : w.heap.size ≤ p := by have := HPL.out; omega
              refine ⟨rf_make1 hrw hpw ((oA.keeps hk (fun k hk' e => row_ne oA hrp' (by decide) (by unfold At1 at e; rw [hk', e]))).mono h4w) ((oB.keeps hk (fun k hk' e => row_ne oB hrp' (by decide) (by unfold At1 at e; rw [hk', e]))).mono h4w) ((oH.keeps hk (fun k hk' e => row_ne oH hrp' (by decide) (by unfold At1 at e; rw [hk', e]))).mono (by omega)) (row_keeps how hk (fun k hk' e => row_ne how hrp' (by decide) (by unfold At1 at e; rw [hk', e]))) HYA.out HYB.out, ?_⟩
              have h9 : Below w.heap.size w w6 := hB7w.trans (hb76.mono hB7w.size)
              exact hk.below h9 h9.size (fun k hk e => by unfold At1 at e; omega)
            have HL0 : Hid (opnL A B = ⟨A, B, [⟨0, 0, gener 1 []⟩], 0, 1, 0, 16⟩) := by unfold Hid; rw [HL.out, if_pos (by simp)]
            have HR0' : Hid (opnR A B = []) := by unfold Hid; rw [HRR.out, if_pos (by simp)]
            obtain ⟨-, -, c2, -, -, -, -, cf⟩ := rf_cells hr7
            have hl7 := (Array.getElem?_eq_some_iff.1 hr7).1
            have r4' : (u6.setCell ⟨p, 4, none⟩ (.int .i64 1)).cell? ⟨p, 6, none⟩ = some (.int .i64 0) := by
              have h := set_cells (i := 4) (v := .int .i64 1) hrr
              rw [cell_of_row _ _ _ _ _ _ h]; rfl
            have rf4 : ∀ i, (u6.setCell ⟨p, 4, none⟩ (.int .i64 1)).frozen? ⟨p, i, none⟩ = false := fun i => frozen_of_row _ _ _ _ _ (set_cells (i := 4) (v := .int .i64 1) hrr)
            have HU7 := hid hu7
            clear hu7 hk7 hr7 hrr hOA7 hOB7 hB7 hB7w hi0
            go_upto_region 11 with fail
            rw [← HU7.out]
            go_region_law (first
              | (go_simp; go_at_call 43; refine HHD.out.mono ?_; rintro _ w1 ⟨xa, xn, xc, rfl, hxo, hxb⟩; have HXO := hid hxo; have HXB := hid hxb; clear hxo hxb; obtain ⟨-, -, m2, -, -, -, -, mf⟩ := rf_cells (HRO.out w1 HXB.out); obtain ⟨-, -, m3, -, -, -, -, mg⟩ := rf_cells (HRA.out w1 (.slice xa xn xc) HXB.out))
              | (refine step_append_lies _ (by rfl) _ _ _ (by rfl) w.heap.size 89 i0 (.agg #[.int .i64 0, .int .i64 0, .slice none 0 0]) 3 40 (by kernel_rfl) HI.out hz0 hz1 hz2 rfl (by omega) (.slice none 0 0) 0 [] (by rfl) (World.ownsRow_nil _ _ _ _) ⟨w1.heap.size, 0, none⟩ 1 1 [.int .i64 0, .int .i64 0, .slice xa xn xc] (by rfl) (by rfl) (HNEW.out w1 _) (by simp [Value.oneCell']) (by omega) (by unfold maxLen; omega) (by omega) (HB9.out w1 _ HXB.out) (w1.heap.size + 1) (World.size_alloc _ _) ?_; intro g6 cap6 w6 hown6 hgrow hat6 hlt6; obtain ⟨-, -, k2, -, -, -, -, kf⟩ := rf_cells (HROW.out w1 w6 _ HXB.out hgrow))
              | fail)
            all_goals (
              have HFF := hid (HFIN.out w1 w6 xa xn xc g6 cap6 HXO.out HXB.out hown6 hgrow)
              clear hown6 hgrow hat6 hlt6
              go_wp2_with fail
              refine bodyPost_ret (v := .tuple #[.pointer (some ⟨p, 0, none⟩), .slice none 0 0, .int .i64 0]) (by simp [results, Tryd.results13, go_sem]) rfl ⟨fun e => by rw [HE.out] at e; simp at e, fun _ => ⟨p, _, rfl, by rw [HL0.out]; exact HFF.out.1, by rw [HR0'.out]; exact seesBB_nil _, HFF.out.2⟩⟩)
        · as_aux_lemma =>
            go_wp2_with fail
            refine HC4.out.mono ?_
            rintro _ u5 ⟨xa, xb, rfl, ⟨a5, n5, c5, rfl⟩, ⟨a6, n6, c6, rfl⟩, hoa, hob, hb5⟩
            obtain ⟨u6, hu6⟩ : ∃ u6, u6 = u5.alloc (.cells #[.slice a5 n5 c5, .slice a6 n6 c6, .slice none 0 0, .int .i64 0, .int .i64 0, .int .i64 0, .int .i64 0] 86) := ⟨_, rfl⟩
            have hb6 : Below u5.heap.size u5 u6 := by rw [hu6]; exact (Below.refl _ _).alloc (Nat.le_refl _) _
            have hr6 : u6.heap[u5.heap.size]? = some (rfRow (.slice a5 n5 c5) (.slice a6 n6 c6) (.slice none 0 0) 0 0 0 0) := by rw [hu6]; exact heap_alloc_new u5 _
            obtain ⟨p, hp⟩ : ∃ p, p = u5.heap.size := ⟨_, rfl⟩
            rw [← hp] at hr6
            have HB46 : Hid (Below u4.heap.size u4 u6) := hb5.trans (hb6.mono hb5.size)
            have HPL : Hid (u4.heap.size ≤ p) := by rw [hp]; exact hb5.size
            have HR6 := hid hr6
            have HOA := hid (hoa.below hb6)
            have HOB := hid (hob.below hb6)
            have HU6 := hid hu6
            have HP := hid hp
            obtain ⟨y0, y1, y2, y3, -⟩ := ar_cellsR (HRD.out u6 HB46.out).2.1
            obtain ⟨z0, z1, z2, z3, -⟩ := ar_cellsR (HRD.out u6 HB46.out).2.2
            have hla := (Array.getElem?_eq_some_iff.1 (HRD.out u6 HB46.out).2.1).1
            have hlc := (Array.getElem?_eq_some_iff.1 (HRD.out u6 HB46.out).2.2).1
            obtain ⟨s0, s1, s2, s3, s4, s5, s6, sf⟩ := rf_cells hr6
            have hlp := (Array.getElem?_eq_some_iff.1 hr6).1
            clear hoa hob hb5 hb6 hu6 hr6 hp HC4
            go_upto_region 6 with fail
            rw [← HU6.out, ← HP.out]
            have HBF : Hid (Below w.heap.size w u6) := HB4w.out.trans (HB46.out.mono HB4w.out.size)
            go_wp2_with fail
            refine bodyPost_ret (v := .tuple #[.pointer none, .slice none 0 0, .int .i64 120]) (by simp [results, Tryd.results13, go_sem]) rfl ⟨fun _ => ⟨rfl, HBF.out⟩, fun e => by rw [HE.out] at e; simp at e⟩
        · as_aux_lemma =>
            go_wp2_with fail
            refine HC4.out.mono ?_
            rintro _ u5 ⟨xa, xb, rfl, ⟨a5, n5, c5, rfl⟩, ⟨a6, n6, c6, rfl⟩, hoa, hob, hb5⟩
            obtain ⟨u6, hu6⟩ : ∃ u6, u6 = u5.alloc (.cells #[.slice a5 n5 c5, .slice a6 n6 c6, .slice none 0 0, .int .i64 0, .int .i64 0, .int .i64 0, .int .i64 0] 86) := ⟨_, rfl⟩
            have hb6 : Below u5.heap.size u5 u6 := by rw [hu6]; exact (Below.refl _ _).alloc (Nat.le_refl _) _
            have hr6 : u6.heap[u5.heap.size]? = some (rfRow (.slice a5 n5 c5) (.slice a6 n6 c6) (.slice none 0 0) 0 0 0 0) := by rw [hu6]; exact heap_alloc_new u5 _
            obtain ⟨p, hp⟩ : ∃ p, p = u5.heap.size := ⟨_, rfl⟩
            rw [← hp] at hr6
            have HB46 : Hid (Below u4.heap.size u4 u6) := hb5.trans (hb6.mono hb5.size)
            have HPL : Hid (u4.heap.size ≤ p) := by rw [hp]; exact hb5.size
            have HR6 := hid hr6
            have HOA := hid (hoa.below hb6)
            have HOB := hid (hob.below hb6)
            have HU6 := hid hu6
            have HP := hid hp
            obtain ⟨y0, y1, y2, y3, -⟩ := ar_cellsR (HRD.out u6 HB46.out).2.1
            obtain ⟨z0, z1, z2, z3, -⟩ := ar_cellsR (HRD.out u6 HB46.out).2.2
            have hla := (Array.getElem?_eq_some_iff.1 (HRD.out u6 HB46.out).2.1).1
            have hlc := (Array.getElem?_eq_some_iff.1 (HRD.out u6 HB46.out).2.2).1
            obtain ⟨s0, s1, s2, s3, s4, s5, s6, sf⟩ := rf_cells hr6
            have hlp := (Array.getElem?_eq_some_iff.1 hr6).1
            clear hoa hob hb5 hb6 hu6 hr6 hp HC4
            go_upto_region 6 with fail
            rw [← HU6.out, ← HP.out]
            obtain ⟨u7, hu7⟩ : ∃ u7, u7 = u6.alloc (.cells #[.int .i64 0, .int .i64 (gA : Int), .slice ra0 rn0 rc0, .int .i64 (fA : Int)] 81) := ⟨_, rfl⟩
            have hb7 : Below u6.heap.size u6 u7 := by rw [hu7]; exact (Below.refl _ _).alloc (Nat.le_refl _) _
            have hr7 : u7.heap[u6.heap.size]? = some (arRow 0 gA (.slice ra0 rn0 rc0) fA) := by rw [hu7]; exact heap_alloc_new u6 _
            obtain ⟨px, hpx⟩ : ∃ px, px = u6.heap.size := ⟨_, rfl⟩
            rw [← hpx] at hr7
            have hppx : p ≠ px := by omega
            have HU7 := hid hu7
            have HPX := hid hpx
            have HR7p : Hid (u7.heap[p]? = some (rfRow (.slice a5 n5 c5) (.slice a6 n6 c6) (.slice none 0 0) 0 0 0 0)) := (hb7.block p hlp).trans HR6.out
            obtain ⟨t0, t1, t2, t3, tf⟩ := ar_cellsR hr7
            obtain ⟨v0, v1, v2, v3, v4, v5, v6, vf⟩ := rf_cells HR7p.out
            have hlx := (Array.getElem?_eq_some_iff.1 hr7).1
            have hlp7 := (Array.getElem?_eq_some_iff.1 HR7p.out).1
            obtain ⟨-, k1, k2, k3, -⟩ := ar_cellsR (HRD.out u7 (HB46.out.trans (hb7.mono HB46.out.size))).2.2
            obtain ⟨k0, -, -, -, -⟩ := ar_cellsR (HRD.out u7 (HB46.out.trans (hb7.mono HB46.out.size))).2.2
            obtain ⟨l0', l1', l2', l3', -⟩ := ar_cellsR (HRD.out u7 (HB46.out.trans (hb7.mono HB46.out.size))).2.1
            have hla7 := (Array.getElem?_eq_some_iff.1 (HRD.out u7 (HB46.out.trans (hb7.mono HB46.out.size))).2.1).1
            have hlc7 := (Array.getElem?_eq_some_iff.1 (HRD.out u7 (HB46.out.trans (hb7.mono HB46.out.size))).2.2).1
            obtain ⟨W8, hW8⟩ : ∃ W8, W8 = (((u7.setCell ⟨px, 0, none⟩ (.int .i64 3)).setCell ⟨px, 1, none⟩ (.int .i64 (gB : Int))).setCell ⟨px, 2, none⟩ (.slice ra1 rn1 rc1)).setCell ⟨px, 3, none⟩ (.int .i64 (fB : Int)) := ⟨_, rfl⟩
            have hP8 := arR_put hr7 (.int .i64 3) (.int .i64 (gB : Int)) (.slice ra1 rn1 rc1) (.int .i64 (fB : Int))
            rw [← hW8] at hP8
            have hr8 : W8.heap[px]? = some (arRow 3 gB (.slice ra1 rn1 rc1) fB) := hP8.1
            have hr8p : W8.heap[p]? = some (rfRow (.slice a5 n5 c5) (.slice a6 n6 c6) (.slice none 0 0) 0 0 0 0) := (hP8.2.block p hlp7 hppx).trans HR7p.out
            obtain ⟨o0, o1, o2, o3, of'⟩ := ar_cellsR hr8
            obtain ⟨w0, w1', w2', w3', w4', w5', w6', wf'⟩ := rf_cells hr8p
            have hl8 := (Array.getElem?_eq_some_iff.1 hr8).1
            have hl8p := (Array.getElem?_eq_some_iff.1 hr8p).1
            obtain ⟨WF, hWF⟩ : ∃ WF, WF = (((W8.setCell ⟨p, 3, none⟩ (.int .i64 1)).setCell ⟨p, 4, none⟩ (.int .i64 (gB : Int))).setCell ⟨p, 5, none⟩ (.int .i64 (rn1 : Int))).setCell ⟨p, 6, none⟩ (.int .i64 (fB : Int)) := ⟨_, rfl⟩
            have hkF : Keeps (At1 p) W8 WF := by rw [hWF]; exact ((((Keeps.refl (At1 p) W8).set ⟨p, 3, none⟩ rfl _).set ⟨p, 4, none⟩ rfl _).set ⟨p, 5, none⟩ rfl _).set ⟨p, 6, none⟩ rfl _
            have hrF : WF.heap[p]? = some (rfRow (.slice a5 n5 c5) (.slice a6 n6 c6) (.slice none 0 0) 1 gB rn1 fB) := by
              have h := hr8p
              unfold rfRow at h ⊢
              rw [hWF]
              exact set_cells (set_cells (set_cells (set_cells h)))
            have hrx : WF.heap[px]? = some (arRow 3 gB (.slice ra1 rn1 rc1) fB) := (hkF.block px hl8 (fun e => hppx e.symm)).trans hr8
            have hB8 : Below u4.heap.size u4 W8 := hP8.2.below (HB46.out.trans (hb7.mono HB46.out.size)) (HB46.out.trans (hb7.mono HB46.out.size)).size (fun k hk e => by unfold At1 at e; have := HB46.out.size; have := HPX.out; omega)
            have HB7 : Hid (Below u4.heap.size u4 WF) := hkF.below hB8 hB8.size (fun k hk e => by unfold At1 at e; have := HPL.out; omega)
            have hra : u7.heap[px]? = some (.cells #[.int .i64 (0 : Nat), .int .i64 (gA : Int), .slice ra0 rn0 rc0, .int .i64 (fA : Int)] 81 (0, 0)) := hr7
            have hOA8 : OwnB W8 u4.heap.size (.slice a5 n5 c5) A := (HOA.out.below hb7).keeps hP8.2 (fun k hk e => row_ne (HOA.out.below hb7) hra (by decide) (by unfold At1 at e; rw [hk, e]))
            have hOB8 : OwnB W8 u4.heap.size (.slice a6 n6 c6) B := (HOB.out.below hb7).keeps hP8.2 (fun k hk e => row_ne (HOB.out.below hb7) hra (by decide) (by unfold At1 at e; rw [hk, e]))
            have hOA : OwnB WF u4.heap.size (.slice a5 n5 c5) A := hOA8.keeps hkF (fun k hk e => row_ne hOA8 (by have h := hr8p; unfold rfRow at h; exact h) (by decide) (by unfold At1 at e; rw [hk, e]))
            have hOB : OwnB WF u4.heap.size (.slice a6 n6 c6) B := hOB8.keeps hkF (fun k hk e => row_ne hOB8 (by have h := hr8p; unfold rfRow at h; exact h) (by decide) (by unfold At1 at e; rw [hk, e]))
            have HW8 := hid hW8
            have h4w := HB4w.out.size
            have HREF : Hid (RefAt w.heap.size WF p ⟨A, B, [], 1, gB, RB.length, fB⟩) := by
              have hlen : rn1 = RB.length := HRN1.out
              rw [← hlen]
              exact rf_make hrF (by have := HPL.out; omega) (hOA.mono h4w) (hOB.mono h4w) HYA.out HYB.out
            have HSEE : Hid (SeesBB WF (.slice ra1 rn1 rc1) RB) := HSRB4.out.below HB7.out
            have HBF : Hid (Below w.heap.size w WF) := HB4w.out.trans (HB7.out.mono HB4w.out.size)
            obtain ⟨-, -, x2', x3', -⟩ := ar_cellsR hrx
            have hlxF := (Array.getElem?_eq_some_iff.1 hrx).1
            have HWF := hid hWF
            clear hWF hkF hrF hrx hOA hOB hb7 hu7 hpx hr7 hP8 hr8 hr8p hB8 hra hOA8 hOB8 hW8
            go_upto_region 14 with fail
            rw [← HU7.out, ← HPX.out]
            go_upto_region 16 with fail
            rw [← HW8.out]
            go_upto_region 20 with fail
            rw [← HWF.out]
            go_region_law (fail)
            all_goals (
              go_wp2_with fail
              refine bodyPost_ret (v := .tuple #[.pointer (some ⟨p, 0, none⟩), .slice ra1 rn1 rc1, .int .i64 0]) (by simp [results, Tryd.results13, go_sem]) rfl ⟨fun e => by rw [HE.out] at e; simp at e, fun _ => ⟨p, _, rfl, ?_, ?_, below_drew HBF.out⟩⟩
              · rw [HL.out]
                rw [if_neg (by simp), if_neg (by unfold newerN; rw [if_neg (by simp), if_neg (by rintro ⟨e, -⟩; cases e)]; decide)]
                exact HREF.out.below (below_drew (Below.refl _ _))
              · rw [HRR.out]
                rw [if_neg (by simp), if_neg (by unfold newerN; rw [if_neg (by simp), if_neg (by rintro ⟨e, -⟩; cases e)]; decide)]
                exact HSEE.out.below (below_drew (Below.refl _ _)))
      · rcases oB with rfl | rfl | rfl
        · as_aux_lemma =>
            go_wp2_with fail
            refine HC4.out.mono ?_
            rintro _ u5 ⟨xa, xb, rfl, ⟨a5, n5, c5, rfl⟩, ⟨a6, n6, c6, rfl⟩, hoa, hob, hb5⟩
            obtain ⟨u6, hu6⟩ : ∃ u6, u6 = u5.alloc (.cells #[.slice a5 n5 c5, .slice a6 n6 c6, .slice none 0 0, .int .i64 0, .int .i64 0, .int .i64 0, .int .i64 0] 86) := ⟨_, rfl⟩
            have hb6 : Below u5.heap.size u5 u6 := by rw [hu6]; exact (Below.refl _ _).alloc (Nat.le_refl _) _
            have hr6 : u6.heap[u5.heap.size]? = some (rfRow (.slice a5 n5 c5) (.slice a6 n6 c6) (.slice none 0 0) 0 0 0 0) := by rw [hu6]; exact heap_alloc_new u5 _
            obtain ⟨p, hp⟩ : ∃ p, p = u5.heap.size := ⟨_, rfl⟩
            rw [← hp] at hr6
            have HB46 : Hid (Below u4.heap.size u4 u6) := hb5.trans (hb6.mono hb5.size)
            have HPL : Hid (u4.heap.size ≤ p) := by rw [hp]; exact hb5.size
            have HR6 := hid hr6
            have HOA := hid (hoa.below hb6)
            have HOB := hid (hob.below hb6)
            have HU6 := hid hu6
            have HP := hid hp
            obtain ⟨y0, y1, y2, y3, -⟩ := ar_cellsR (HRD.out u6 HB46.out).2.1
            obtain ⟨z0, z1, z2, z3, -⟩ := ar_cellsR (HRD.out u6 HB46.out).2.2
            have hla := (Array.getElem?_eq_some_iff.1 (HRD.out u6 HB46.out).2.1).1
            have hlc := (Array.getElem?_eq_some_iff.1 (HRD.out u6 HB46.out).2.2).1
            obtain ⟨s0, s1, s2, s3, s4, s5, s6, sf⟩ := rf_cells hr6
            have hlp := (Array.getElem?_eq_some_iff.1 hr6).1
            clear hoa hob hb5 hb6 hu6 hr6 hp HC4
            go_upto_region 6 with fail
            rw [← HU6.out, ← HP.out]
            have HBF : Hid (Below w.heap.size w u6) := HB4w.out.trans (HB46.out.mono HB4w.out.size)
            go_wp2_with fail
            refine bodyPost_ret (v := .tuple #[.pointer none, .slice none 0 0, .int .i64 120]) (by simp [results, Tryd.results13, go_sem]) rfl ⟨fun _ => ⟨rfl, HBF.out⟩, fun e => by rw [HE.out] at e; simp at e⟩
        · as_aux_lemma =>
            go_wp2_with fail
            refine HC4.out.mono ?_
            rintro _ u5 ⟨xa, xb, rfl, ⟨a5, n5, c5, rfl⟩, ⟨a6, n6, c6, rfl⟩, hoa, hob, hb5⟩
            obtain ⟨u6, hu6⟩ : ∃ u6, u6 = u5.alloc (.cells #[.slice a5 n5 c5, .slice a6 n6 c6, .slice none 0 0, .int .i64 0, .int .i64 0, .int .i64 0, .int .i64 0] 86) := ⟨_, rfl⟩
            have hb6 : Below u5.heap.size u5 u6 := by rw [hu6]; exact (Below.refl _ _).alloc (Nat.le_refl _) _
            have hr6 : u6.heap[u5.heap.size]? = some (rfRow (.slice a5 n5 c5) (.slice a6 n6 c6) (.slice none 0 0) 0 0 0 0) := by rw [hu6]; exact heap_alloc_new u5 _
            obtain ⟨p, hp⟩ : ∃ p, p = u5.heap.size := ⟨_, rfl⟩
            rw [← hp] at hr6
            have HB46 : Hid (Below u4.heap.size u4 u6) := hb5.trans (hb6.mono hb5.size)
            have HPL : Hid (u4.heap.size ≤ p) := by rw [hp]; exact hb5.size
            have HR6 := hid hr6
            have HOA := hid (hoa.below hb6)
            have HOB := hid (hob.below hb6)
            have HU6 := hid hu6
            have HP := hid hp
            obtain ⟨y0, y1, y2, y3, -⟩ := ar_cellsR (HRD.out u6 HB46.out).2.1
            obtain ⟨z0, z1, z2, z3, -⟩ := ar_cellsR (HRD.out u6 HB46.out).2.2
            have hla := (Array.getElem?_eq_some_iff.1 (HRD.out u6 HB46.out).2.1).1
            have hlc := (Array.getElem?_eq_some_iff.1 (HRD.out u6 HB46.out).2.2).1
            obtain ⟨s0, s1, s2, s3, s4, s5, s6, sf⟩ := rf_cells hr6
            have hlp := (Array.getElem?_eq_some_iff.1 hr6).1
            clear hoa hob hb5 hb6 hu6 hr6 hp HC4
            go_upto_region 6 with fail
            rw [← HU6.out, ← HP.out]
            have HBF : Hid (Below w.heap.size w u6) := HB4w.out.trans (HB46.out.mono HB4w.out.size)
            go_wp2_with fail
            refine bodyPost_ret (v := .tuple #[.pointer none, .slice none 0 0, .int .i64 120]) (by simp [results, Tryd.results13, go_sem]) rfl ⟨fun _ => ⟨rfl, HBF.out⟩, fun e => by rw [HE.out] at e; simp at e⟩
        · as_aux_lemma =>
            go_wp2_with fail
            refine HC4.out.mono ?_
            rintro _ u5 ⟨xa, xb, rfl, ⟨a5, n5, c5, rfl⟩, ⟨a6, n6, c6, rfl⟩, hoa, hob, hb5⟩
            obtain ⟨u6, hu6⟩ : ∃ u6, u6 = u5.alloc (.cells #[.slice a5 n5 c5, .slice a6 n6 c6, .slice none 0 0, .int .i64 0, .int .i64 0, .int .i64 0, .int .i64 0] 86) := ⟨_, rfl⟩
            have hb6 : Below u5.heap.size u5 u6 := by rw [hu6]; exact (Below.refl _ _).alloc (Nat.le_refl _) _
            have hr6 : u6.heap[u5.heap.size]? = some (rfRow (.slice a5 n5 c5) (.slice a6 n6 c6) (.slice none 0 0) 0 0 0 0) := by rw [hu6]; exact heap_alloc_new u5 _
            obtain ⟨p, hp⟩ : ∃ p, p = u5.heap.size := ⟨_, rfl⟩
            rw [← hp] at hr6
            have HB46 : Hid (Below u4.heap.size u4 u6) := hb5.trans (hb6.mono hb5.size)
            have HPL : Hid (u4.heap.size ≤ p) := by rw [hp]; exact hb5.size
            have HR6 := hid hr6
            have HOA := hid (hoa.below hb6)
            have HOB := hid (hob.below hb6)
            have HU6 := hid hu6
            have HP := hid hp
            obtain ⟨y0, y1, y2, y3, -⟩ := ar_cellsR (HRD.out u6 HB46.out).2.1
            obtain ⟨z0, z1, z2, z3, -⟩ := ar_cellsR (HRD.out u6 HB46.out).2.2
            have hla := (Array.getElem?_eq_some_iff.1 (HRD.out u6 HB46.out).2.1).1
            have hlc := (Array.getElem?_eq_some_iff.1 (HRD.out u6 HB46.out).2.2).1
            obtain ⟨s0, s1, s2, s3, s4, s5, s6, sf⟩ := rf_cells hr6
            have hlp := (Array.getElem?_eq_some_iff.1 hr6).1
            clear hoa hob hb5 hb6 hu6 hr6 hp HC4
            go_upto_region 6 with fail
            rw [← HU6.out, ← HP.out]
            obtain ⟨u7, hu7⟩ : ∃ u7, u7 = u6.alloc (.cells #[.int .i64 2, .int .i64 (gA : Int), .slice ra0 rn0 rc0, .int .i64 (fA : Int)] 81) := ⟨_, rfl⟩
            have hb7 : Below u6.heap.size u6 u7 := by rw [hu7]; exact (Below.refl _ _).alloc (Nat.le_refl _) _
            have hr7 : u7.heap[u6.heap.size]? = some (arRow 2 gA (.slice ra0 rn0 rc0) fA) := by rw [hu7]; exact heap_alloc_new u6 _
            obtain ⟨px, hpx⟩ : ∃ px, px = u6.heap.size := ⟨_, rfl⟩
            rw [← hpx] at hr7
            have hppx : p ≠ px := by omega
            have HU7 := hid hu7
            have HPX := hid hpx
            have HR7p : Hid (u7.heap[p]? = some (rfRow (.slice a5 n5 c5) (.slice a6 n6 c6) (.slice none 0 0) 0 0 0 0)) := (hb7.block p hlp).trans HR6.out
            obtain ⟨t0, t1, t2, t3, tf⟩ := ar_cellsR hr7
            obtain ⟨v0, v1, v2, v3, v4, v5, v6, vf⟩ := rf_cells HR7p.out
            have hlx := (Array.getElem?_eq_some_iff.1 hr7).1
            have hlp7 := (Array.getElem?_eq_some_iff.1 HR7p.out).1
            obtain ⟨-, k1, k2, k3, -⟩ := ar_cellsR (HRD.out u7 (HB46.out.trans (hb7.mono HB46.out.size))).2.2
            obtain ⟨k0, -, -, -, -⟩ := ar_cellsR (HRD.out u7 (HB46.out.trans (hb7.mono HB46.out.size))).2.2
            obtain ⟨l0', l1', l2', l3', -⟩ := ar_cellsR (HRD.out u7 (HB46.out.trans (hb7.mono HB46.out.size))).2.1
            have hla7 := (Array.getElem?_eq_some_iff.1 (HRD.out u7 (HB46.out.trans (hb7.mono HB46.out.size))).2.1).1
            have hlc7 := (Array.getElem?_eq_some_iff.1 (HRD.out u7 (HB46.out.trans (hb7.mono HB46.out.size))).2.2).1
            obtain ⟨W8, hW8⟩ : ∃ W8, W8 = (((u7.setCell ⟨px, 0, none⟩ (.int .i64 3)).setCell ⟨px, 1, none⟩ (.int .i64 (gB : Int))).setCell ⟨px, 2, none⟩ (.slice ra1 rn1 rc1)).setCell ⟨px, 3, none⟩ (.int .i64 (fB : Int)) := ⟨_, rfl⟩
            have hP8 := arR_put hr7 (.int .i64 3) (.int .i64 (gB : Int)) (.slice ra1 rn1 rc1) (.int .i64 (fB : Int))
            rw [← hW8] at hP8
            have hr8 : W8.heap[px]? = some (arRow 3 gB (.slice ra1 rn1 rc1) fB) := hP8.1
            have hr8p : W8.heap[p]? = some (rfRow (.slice a5 n5 c5) (.slice a6 n6 c6) (.slice none 0 0) 0 0 0 0) := (hP8.2.block p hlp7 hppx).trans HR7p.out
            obtain ⟨o0, o1, o2, o3, of'⟩ := ar_cellsR hr8
            obtain ⟨w0, w1', w2', w3', w4', w5', w6', wf'⟩ := rf_cells hr8p
            have hl8 := (Array.getElem?_eq_some_iff.1 hr8).1
            have hl8p := (Array.getElem?_eq_some_iff.1 hr8p).1
            obtain ⟨WF, hWF⟩ : ∃ WF, WF = (((W8.setCell ⟨p, 3, none⟩ (.int .i64 1)).setCell ⟨p, 4, none⟩ (.int .i64 (gB : Int))).setCell ⟨p, 5, none⟩ (.int .i64 (rn1 : Int))).setCell ⟨p, 6, none⟩ (.int .i64 (fB : Int)) := ⟨_, rfl⟩
            have hkF : Keeps (At1 p) W8 WF := by rw [hWF]; exact ((((Keeps.refl (At1 p) W8).set ⟨p, 3, none⟩ rfl _).set ⟨p, 4, none⟩ rfl _).set ⟨p, 5, none⟩ rfl _).set ⟨p, 6, none⟩ rfl _
            have hrF : WF.heap[p]? = some (rfRow (.slice a5 n5 c5) (.slice a6 n6 c6) (.slice none 0 0) 1 gB rn1 fB) := by
              have h := hr8p
              unfold rfRow at h ⊢
              rw [hWF]
              exact set_cells (set_cells (set_cells (set_cells h)))
            have hrx : WF.heap[px]? = some (arRow 3 gB (.slice ra1 rn1 rc1) fB) := (hkF.block px hl8 (fun e => hppx e.symm)).trans hr8
            have hB8 : Below u4.heap.size u4 W8 := hP8.2.below (HB46.out.trans (hb7.mono HB46.out.size)) (HB46.out.trans (hb7.mono HB46.out.size)).size (fun k hk e => by unfold At1 at e; have := HB46.out.size; have := HPX.out; omega)
            have HB7 : Hid (Below u4.heap.size u4 WF) := hkF.below hB8 hB8.size (fun k hk e => by unfold At1 at e; have := HPL.out; omega)
            have hra : u7.heap[px]? = some (.cells #[.int .i64 (2 : Nat), .int .i64 (gA : Int), .slice ra0 rn0 rc0, .int .i64 (fA : Int)] 81 (0, 0)) := hr7
            have hOA8 : OwnB W8 u4.heap.size (.slice a5 n5 c5) A := (HOA.out.below hb7).keeps hP8.2 (fun k hk e => row_ne (HOA.out.below hb7) hra (by decide) (by unfold At1 at e; rw [hk, e]))
            have hOB8 : OwnB W8 u4.heap.size (.slice a6 n6 c6) B := (HOB.out.below hb7).keeps hP8.2 (fun k hk e => row_ne (HOB.out.below hb7) hra (by decide) (by unfold At1 at e; rw [hk, e]))
            have hOA : OwnB WF u4.heap.size (.slice a5 n5 c5) A := hOA8.keeps hkF (fun k hk e => row_ne hOA8 (by have h := hr8p; unfold rfRow at h; exact h) (by decide) (by unfold At1 at e; rw [hk, e]))
            have hOB : OwnB WF u4.heap.size (.slice a6 n6 c6) B := hOB8.keeps hkF (fun k hk e => row_ne hOB8 (by have h := hr8p; unfold rfRow at h; exact h) (by decide) (by unfold At1 at e; rw [hk, e]))
            have HW8 := hid hW8
            have h4w := HB4w.out.size
            have HREF : Hid (RefAt w.heap.size WF p ⟨A, B, [], 1, gB, RB.length, fB⟩) := by
              have hlen : rn1 = RB.length := HRN1.out
              rw [← hlen]
              exact rf_make hrF (by have := HPL.out; omega) (hOA.mono h4w) (hOB.mono h4w) HYA.out HYB.out
            have HSEE : Hid (SeesBB WF (.slice ra1 rn1 rc1) RB) := HSRB4.out.below HB7.out
            have HBF : Hid (Below w.heap.size w WF) := HB4w.out.trans (HB7.out.mono HB4w.out.size)
            obtain ⟨-, -, x2', x3', -⟩ := ar_cellsR hrx
            have hlxF := (Array.getElem?_eq_some_iff.1 hrx).1
            have HWF := hid hWF
            clear hWF hkF hrF hrx hOA hOB hb7 hu7 hpx hr7 hP8 hr8 hr8p hB8 hra hOA8 hOB8 hW8
            go_upto_region 14 with fail
            rw [← HU7.out, ← HPX.out]
            go_upto_region 16 with fail
            rw [← HW8.out]
            go_upto_region 20 with fail
            rw [← HWF.out]
            go_region_law (fail)
            all_goals (
              go_wp2_with fail
              refine bodyPost_ret (v := .tuple #[.pointer (some ⟨p, 0, none⟩), .slice ra1 rn1 rc1, .int .i64 0]) (by simp [results, Tryd.results13, go_sem]) rfl ⟨fun e => by rw [HE.out] at e; simp at e, fun _ => ⟨p, _, rfl, ?_, ?_, below_drew HBF.out⟩⟩
              · rw [HL.out]
                rw [if_neg (by simp), if_neg (by unfold newerN; rw [if_neg (by simp), if_neg (by rintro ⟨e, -⟩; cases e)]; decide)]
                exact HREF.out.below (below_drew (Below.refl _ _))
              · rw [HRR.out]
                rw [if_neg (by simp), if_neg (by unfold newerN; rw [if_neg (by simp), if_neg (by rintro ⟨e, -⟩; cases e)]; decide)]
                exact HSEE.out.below (below_drew (Below.refl _ _)))
      · rcases oB with rfl | rfl | rfl
        · as_aux_lemma =>
            go_wp2_with fail
            refine HC4.out.mono ?_
            rintro _ u5 ⟨xa, xb, rfl, ⟨a5, n5, c5, rfl⟩, ⟨a6, n6, c6, rfl⟩, hoa, hob, hb5⟩
            obtain ⟨u6, hu6⟩ : ∃ u6, u6 = u5.alloc (.cells #[.slice a5 n5 c5, .slice a6 n6 c6, .slice none 0 0, .int .i64 0, .int .i64 0, .int .i64 0, .int .i64 0] 86) := ⟨_, rfl⟩
            have hb6 : Below u5.heap.size u5 u6 := by rw [hu6]; exact (Below.refl _ _).alloc (Nat.le_refl _) _
            have hr6 : u6.heap[u5.heap.size]? = some (rfRow (.slice a5 n5 c5) (.slice a6 n6 c6) (.slice none 0 0) 0 0 0 0) := by rw [hu6]; exact heap_alloc_new u5 _
            obtain ⟨p, hp⟩ : ∃ p, p = u5.heap.size := ⟨_, rfl⟩
            rw [← hp] at hr6
            have HB46 : Hid (Below u4.heap.size u4 u6) := hb5.trans (hb6.mono hb5.size)
            have HPL : Hid (u4.heap.size ≤ p) := by rw [hp]; exact hb5.size
            have HR6 := hid hr6
            have HOA := hid (hoa.below hb6)
            have HOB := hid (hob.below hb6)
            have HU6 := hid hu6
            have HP := hid hp
            obtain ⟨y0, y1, y2, y3, -⟩ := ar_cellsR (HRD.out u6 HB46.out).2.1
            obtain ⟨z0, z1, z2, z3, -⟩ := ar_cellsR (HRD.out u6 HB46.out).2.2
            have hla := (Array.getElem?_eq_some_iff.1 (HRD.out u6 HB46.out).2.1).1
            have hlc := (Array.getElem?_eq_some_iff.1 (HRD.out u6 HB46.out).2.2).1
            obtain ⟨s0, s1, s2, s3, s4, s5, s6, sf⟩ := rf_cells hr6
            have hlp := (Array.getElem?_eq_some_iff.1 hr6).1
            clear hoa hob hb5 hb6 hu6 hr6 hp HC4
            go_upto_region 6 with fail
            rw [← HU6.out, ← HP.out]
            obtain ⟨u7, hu7⟩ : ∃ u7, u7 = u6.alloc (.cells #[.int .i64 3, .int .i64 (gA : Int), .slice ra0 rn0 rc0, .int .i64 (fA : Int)] 81) := ⟨_, rfl⟩
            have hb7 : Below u6.heap.size u6 u7 := by rw [hu7]; exact (Below.refl _ _).alloc (Nat.le_refl _) _
            have hr7 : u7.heap[u6.heap.size]? = some (arRow 3 gA (.slice ra0 rn0 rc0) fA) := by rw [hu7]; exact heap_alloc_new u6 _
            obtain ⟨px, hpx⟩ : ∃ px, px = u6.heap.size := ⟨_, rfl⟩
            rw [← hpx] at hr7
            have hppx : p ≠ px := by omega
            have HU7 := hid hu7
            have HPX := hid hpx
            have HR7p : Hid (u7.heap[p]? = some (rfRow (.slice a5 n5 c5) (.slice a6 n6 c6) (.slice none 0 0) 0 0 0 0)) := (hb7.block p hlp).trans HR6.out
            obtain ⟨t0, t1, t2, t3, tf⟩ := ar_cellsR hr7
            obtain ⟨v0, v1, v2, v3, v4, v5, v6, vf⟩ := rf_cells HR7p.out
            have hlx := (Array.getElem?_eq_some_iff.1 hr7).1
            have hlp7 := (Array.getElem?_eq_some_iff.1 HR7p.out).1
            obtain ⟨-, k1, k2, k3, -⟩ := ar_cellsR (HRD.out u7 (HB46.out.trans (hb7.mono HB46.out.size))).2.2
            obtain ⟨k0, -, -, -, -⟩ := ar_cellsR (HRD.out u7 (HB46.out.trans (hb7.mono HB46.out.size))).2.2
            obtain ⟨l0', l1', l2', l3', -⟩ := ar_cellsR (HRD.out u7 (HB46.out.trans (hb7.mono HB46.out.size))).2.1
            have hla7 := (Array.getElem?_eq_some_iff.1 (HRD.out u7 (HB46.out.trans (hb7.mono HB46.out.size))).2.1).1
            have hlc7 := (Array.getElem?_eq_some_iff.1 (HRD.out u7 (HB46.out.trans (hb7.mono HB46.out.size))).2.2).1
            obtain ⟨WF, hWF⟩ : ∃ WF, WF = ((u7.setCell ⟨p, 4, none⟩ (.int .i64 (gA : Int))).setCell ⟨p, 5, none⟩ (.int .i64 (rn0 : Int))).setCell ⟨p, 6, none⟩ (.int .i64 (fA : Int)) := ⟨_, rfl⟩
            have hkF : Keeps (At1 p) u7 WF := by rw [hWF]; exact (((Keeps.refl (At1 p) u7).set ⟨p, 4, none⟩ rfl _).set ⟨p, 5, none⟩ rfl _).set ⟨p, 6, none⟩ rfl _
            have hrF : WF.heap[p]? = some (rfRow (.slice a5 n5 c5) (.slice a6 n6 c6) (.slice none 0 0) 0 gA rn0 fA) := by
              have h := HR7p.out
              unfold rfRow at h ⊢
              rw [hWF]
              exact set_cells (set_cells (set_cells h))
            have hrx : WF.heap[px]? = some (arRow 3 gA (.slice ra0 rn0 rc0) fA) := (hkF.block px hlx (fun e => hppx e.symm)).trans hr7
            have HB7 : Hid (Below u4.heap.size u4 WF) := hkF.below (HB46.out.trans (hb7.mono HB46.out.size)) (HB46.out.trans (hb7.mono HB46.out.size)).size (fun k hk e => by unfold At1 at e; have := HPL.out; omega)
            have hOA : OwnB WF u4.heap.size (.slice a5 n5 c5) A := (HOA.out.below hb7).keeps hkF (fun k hk e => row_ne (HOA.out.below hb7) (by have h := HR7p.out; unfold rfRow at h; exact h) (by decide) (by unfold At1 at e; rw [hk, e]))
            have hOB : OwnB WF u4.heap.size (.slice a6 n6 c6) B := (HOB.out.below hb7).keeps hkF (fun k hk e => row_ne (HOB.out.below hb7) (by have h := HR7p.out; unfold rfRow at h; exact h) (by decide) (by unfold At1 at e; rw [hk, e]))
            have h4w := HB4w.out.size
            have HREF : Hid (RefAt w.heap.size WF p ⟨A, B, [], 0, gA, RA.length, fA⟩) := by
              have hlen : rn0 = RA.length := HRN0.out
              rw [← hlen]
              exact rf_make hrF (by have := HPL.out; omega) (hOA.mono h4w) (hOB.mono h4w) HYA.out HYB.out
            have HSEE : Hid (SeesBB WF (.slice ra0 rn0 rc0) RA) := HSRA4.out.below HB7.out
            have HBF : Hid (Below w.heap.size w WF) := HB4w.out.trans (HB7.out.mono HB4w.out.size)
            obtain ⟨-, -, x2', x3', -⟩ := ar_cellsR hrx
            have hlxF := (Array.getElem?_eq_some_iff.1 hrx).1
            have HWF := hid hWF
            clear hWF hkF hrF hrx hOA hOB hb7 hu7 hpx hr7 
            go_upto_region 14 with fail
            rw [← HU7.out, ← HPX.out]
            go_upto_region 20 with fail
            rw [← HWF.out]
            go_region_law (fail)
            all_goals (
              go_wp2_with fail
              refine bodyPost_ret (v := .tuple #[.pointer (some ⟨p, 0, none⟩), .slice ra0 rn0 rc0, .int .i64 0]) (by simp [results, Tryd.results13, go_sem]) rfl ⟨fun e => by rw [HE.out] at e; simp at e, fun _ => ⟨p, _, rfl, ?_, ?_, below_drew HBF.out⟩⟩
              · rw [HL.out]
                rw [if_neg (by simp), if_pos (by unfold newerN; rw [if_pos (by decide)])]
                exact HREF.out.below (below_drew (Below.refl _ _))
              · rw [HRR.out]
                rw [if_neg (by simp), if_pos (by unfold newerN; rw [if_pos (by decide)])]
                exact HSEE.out.below (below_drew (Below.refl _ _)))
        · as_aux_lemma =>
            go_wp2_with fail
            refine HC4.out.mono ?_
            rintro _ u5 ⟨xa, xb, rfl, ⟨a5, n5, c5, rfl⟩, ⟨a6, n6, c6, rfl⟩, hoa, hob, hb5⟩
            obtain ⟨u6, hu6⟩ : ∃ u6, u6 = u5.alloc (.cells #[.slice a5 n5 c5, .slice a6 n6 c6, .slice none 0 0, .int .i64 0, .int .i64 0, .int .i64 0, .int .i64 0] 86) := ⟨_, rfl⟩
            have hb6 : Below u5.heap.size u5 u6 := by rw [hu6]; exact (Below.refl _ _).alloc (Nat.le_refl _) _
            have hr6 : u6.heap[u5.heap.size]? = some (rfRow (.slice a5 n5 c5) (.slice a6 n6 c6) (.slice none 0 0) 0 0 0 0) := by rw [hu6]; exact heap_alloc_new u5 _
            obtain ⟨p, hp⟩ : ∃ p, p = u5.heap.size := ⟨_, rfl⟩
            rw [← hp] at hr6
            have HB46 : Hid (Below u4.heap.size u4 u6) := hb5.trans (hb6.mono hb5.size)
            have HPL : Hid (u4.heap.size ≤ p) := by rw [hp]; exact hb5.size
            have HR6 := hid hr6
            have HOA := hid (hoa.below hb6)
            have HOB := hid (hob.below hb6)
            have HU6 := hid hu6
            have HP := hid hp
            obtain ⟨y0, y1, y2, y3, -⟩ := ar_cellsR (HRD.out u6 HB46.out).2.1
            obtain ⟨z0, z1, z2, z3, -⟩ := ar_cellsR (HRD.out u6 HB46.out).2.2
            have hla := (Array.getElem?_eq_some_iff.1 (HRD.out u6 HB46.out).2.1).1
            have hlc := (Array.getElem?_eq_some_iff.1 (HRD.out u6 HB46.out).2.2).1
            obtain ⟨s0, s1, s2, s3, s4, s5, s6, sf⟩ := rf_cells hr6
            have hlp := (Array.getElem?_eq_some_iff.1 hr6).1
            clear hoa hob hb5 hb6 hu6 hr6 hp HC4
            go_upto_region 6 with fail
            rw [← HU6.out, ← HP.out]
            obtain ⟨u7, hu7⟩ : ∃ u7, u7 = u6.alloc (.cells #[.int .i64 3, .int .i64 (gA : Int), .slice ra0 rn0 rc0, .int .i64 (fA : Int)] 81) := ⟨_, rfl⟩
            have hb7 : Below u6.heap.size u6 u7 := by rw [hu7]; exact (Below.refl _ _).alloc (Nat.le_refl _) _
            have hr7 : u7.heap[u6.heap.size]? = some (arRow 3 gA (.slice ra0 rn0 rc0) fA) := by rw [hu7]; exact heap_alloc_new u6 _
            obtain ⟨px, hpx⟩ : ∃ px, px = u6.heap.size := ⟨_, rfl⟩
            rw [← hpx] at hr7
            have hppx : p ≠ px := by omega
            have HU7 := hid hu7
            have HPX := hid hpx
            have HR7p : Hid (u7.heap[p]? = some (rfRow (.slice a5 n5 c5) (.slice a6 n6 c6) (.slice none 0 0) 0 0 0 0)) := (hb7.block p hlp).trans HR6.out
            obtain ⟨t0, t1, t2, t3, tf⟩ := ar_cellsR hr7
            obtain ⟨v0, v1, v2, v3, v4, v5, v6, vf⟩ := rf_cells HR7p.out
            have hlx := (Array.getElem?_eq_some_iff.1 hr7).1
            have hlp7 := (Array.getElem?_eq_some_iff.1 HR7p.out).1
            obtain ⟨-, k1, k2, k3, -⟩ := ar_cellsR (HRD.out u7 (HB46.out.trans (hb7.mono HB46.out.size))).2.2
            obtain ⟨k0, -, -, -, -⟩ := ar_cellsR (HRD.out u7 (HB46.out.trans (hb7.mono HB46.out.size))).2.2
            obtain ⟨l0', l1', l2', l3', -⟩ := ar_cellsR (HRD.out u7 (HB46.out.trans (hb7.mono HB46.out.size))).2.1
            have hla7 := (Array.getElem?_eq_some_iff.1 (HRD.out u7 (HB46.out.trans (hb7.mono HB46.out.size))).2.1).1
            have hlc7 := (Array.getElem?_eq_some_iff.1 (HRD.out u7 (HB46.out.trans (hb7.mono HB46.out.size))).2.2).1
            obtain ⟨WF, hWF⟩ : ∃ WF, WF = ((u7.setCell ⟨p, 4, none⟩ (.int .i64 (gA : Int))).setCell ⟨p, 5, none⟩ (.int .i64 (rn0 : Int))).setCell ⟨p, 6, none⟩ (.int .i64 (fA : Int)) := ⟨_, rfl⟩
            have hkF : Keeps (At1 p) u7 WF := by rw [hWF]; exact (((Keeps.refl (At1 p) u7).set ⟨p, 4, none⟩ rfl _).set ⟨p, 5, none⟩ rfl _).set ⟨p, 6, none⟩ rfl _
            have hrF : WF.heap[p]? = some (rfRow (.slice a5 n5 c5) (.slice a6 n6 c6) (.slice none 0 0) 0 gA rn0 fA) := by
              have h := HR7p.out
              unfold rfRow at h ⊢
              rw [hWF]
              exact set_cells (set_cells (set_cells h))
            have hrx : WF.heap[px]? = some (arRow 3 gA (.slice ra0 rn0 rc0) fA) := (hkF.block px hlx (fun e => hppx e.symm)).trans hr7
            have HB7 : Hid (Below u4.heap.size u4 WF) := hkF.below (HB46.out.trans (hb7.mono HB46.out.size)) (HB46.out.trans (hb7.mono HB46.out.size)).size (fun k hk e => by unfold At1 at e; have := HPL.out; omega)
            have hOA : OwnB WF u4.heap.size (.slice a5 n5 c5) A := (HOA.out.below hb7).keeps hkF (fun k hk e => row_ne (HOA.out.below hb7) (by have h := HR7p.out; unfold rfRow at h; exact h) (by decide) (by unfold At1 at e; rw [hk, e]))
            have hOB : OwnB WF u4.heap.size (.slice a6 n6 c6) B := (HOB.out.below hb7).keeps hkF (fun k hk e => row_ne (HOB.out.below hb7) (by have h := HR7p.out; unfold rfRow at h; exact h) (by decide) (by unfold At1 at e; rw [hk, e]))
            have h4w := HB4w.out.size
            have HREF : Hid (RefAt w.heap.size WF p ⟨A, B, [], 0, gA, RA.length, fA⟩) := by
              have hlen : rn0 = RA.length := HRN0.out
              rw [← hlen]
              exact rf_make hrF (by have := HPL.out; omega) (hOA.mono h4w) (hOB.mono h4w) HYA.out HYB.out
            have HSEE : Hid (SeesBB WF (.slice ra0 rn0 rc0) RA) := HSRA4.out.below HB7.out
            have HBF : Hid (Below w.heap.size w WF) := HB4w.out.trans (HB7.out.mono HB4w.out.size)
            obtain ⟨-, -, x2', x3', -⟩ := ar_cellsR hrx
            have hlxF := (Array.getElem?_eq_some_iff.1 hrx).1
            have HWF := hid hWF
            clear hWF hkF hrF hrx hOA hOB hb7 hu7 hpx hr7 
            go_upto_region 14 with fail
            rw [← HU7.out, ← HPX.out]
            go_upto_region 20 with fail
            rw [← HWF.out]
            go_region_law (fail)
            all_goals (
              go_wp2_with fail
              refine bodyPost_ret (v := .tuple #[.pointer (some ⟨p, 0, none⟩), .slice ra0 rn0 rc0, .int .i64 0]) (by simp [results, Tryd.results13, go_sem]) rfl ⟨fun e => by rw [HE.out] at e; simp at e, fun _ => ⟨p, _, rfl, ?_, ?_, below_drew HBF.out⟩⟩
              · rw [HL.out]
                rw [if_neg (by simp), if_pos (by unfold newerN; rw [if_pos (by decide)])]
                exact HREF.out.below (below_drew (Below.refl _ _))
              · rw [HRR.out]
                rw [if_neg (by simp), if_pos (by unfold newerN; rw [if_pos (by decide)])]
                exact HSEE.out.below (below_drew (Below.refl _ _)))
        · obtain ⟨qq, hqq⟩ : ∃ qq, qq = (gA + 4294967296 - gB) % 4294967296 := ⟨_, rfl⟩
          have t9 : ((gA : Int) - (gB : Int) + 4294967296).tmod 4294967296 = (qq : Int) := by rw [hqq]; exact tmod33 hgB
          have HQ := hid hqq
          clear hqq
          by_cases hq : qq < 2147483648
          · as_aux_lemma =>
              have q8 : decide ((2147483648 : Int) ≤ (qq : Int)) = false := by simp; omega
              have HQ2 := hid hq
              clear hq
              go_wp2_with fail
              refine HC4.out.mono ?_
              rintro _ u5 ⟨xa, xb, rfl, ⟨a5, n5, c5, rfl⟩, ⟨a6, n6, c6, rfl⟩, hoa, hob, hb5⟩
              obtain ⟨u6, hu6⟩ : ∃ u6, u6 = u5.alloc (.cells #[.slice a5 n5 c5, .slice a6 n6 c6, .slice none 0 0, .int .i64 0, .int .i64 0, .int .i64 0, .int .i64 0] 86) := ⟨_, rfl⟩
              have hb6 : Below u5.heap.size u5 u6 := by rw [hu6]; exact (Below.refl _ _).alloc (Nat.le_refl _) _
              have hr6 : u6.heap[u5.heap.size]? = some (rfRow (.slice a5 n5 c5) (.slice a6 n6 c6) (.slice none 0 0) 0 0 0 0) := by rw [hu6]; exact heap_alloc_new u5 _
              obtain ⟨p, hp⟩ : ∃ p, p = u5.heap.size := ⟨_, rfl⟩
              rw [← hp] at hr6
              have HB46 : Hid (Below u4.heap.size u4 u6) := hb5.trans (hb6.mono hb5.size)
              have HPL : Hid (u4.heap.size ≤ p) := by rw [hp]; exact hb5.size
              have HR6 := hid hr6
              have HOA := hid (hoa.below hb6)
              have HOB := hid (hob.below hb6)
              have HU6 := hid hu6
              have HP := hid hp
              obtain ⟨y0, y1, y2, y3, -⟩ := ar_cellsR (HRD.out u6 HB46.out).2.1
              obtain ⟨z0, z1, z2, z3, -⟩ := ar_cellsR (HRD.out u6 HB46.out).2.2
              have hla := (Array.getElem?_eq_some_iff.1 (HRD.out u6 HB46.out).2.1).1
              have hlc := (Array.getElem?_eq_some_iff.1 (HRD.out u6 HB46.out).2.2).1
              obtain ⟨s0, s1, s2, s3, s4, s5, s6, sf⟩ := rf_cells hr6
              have hlp := (Array.getElem?_eq_some_iff.1 hr6).1
              clear hoa hob hb5 hb6 hu6 hr6 hp HC4
              go_upto_region 6 with fail
              rw [← HU6.out, ← HP.out]
              obtain ⟨u7, hu7⟩ : ∃ u7, u7 = u6.alloc (.cells #[.int .i64 3, .int .i64 (gA : Int), .slice ra0 rn0 rc0, .int .i64 (fA : Int)] 81) := ⟨_, rfl⟩
              have hb7 : Below u6.heap.size u6 u7 := by rw [hu7]; exact (Below.refl _ _).alloc (Nat.le_refl _) _
              have hr7 : u7.heap[u6.heap.size]? = some (arRow 3 gA (.slice ra0 rn0 rc0) fA) := by rw [hu7]; exact heap_alloc_new u6 _
              obtain ⟨px, hpx⟩ : ∃ px, px = u6.heap.size := ⟨_, rfl⟩
              rw [← hpx] at hr7
              have hppx : p ≠ px := by omega
              have HU7 := hid hu7
              have HPX := hid hpx
              have HR7p : Hid (u7.heap[p]? = some (rfRow (.slice a5 n5 c5) (.slice a6 n6 c6) (.slice none 0 0) 0 0 0 0)) := (hb7.block p hlp).trans HR6.out
              obtain ⟨t0, t1, t2, t3, tf⟩ := ar_cellsR hr7
              obtain ⟨v0, v1, v2, v3, v4, v5, v6, vf⟩ := rf_cells HR7p.out
              have hlx := (Array.getElem?_eq_some_iff.1 hr7).1
              have hlp7 := (Array.getElem?_eq_some_iff.1 HR7p.out).1
              obtain ⟨-, k1, k2, k3, -⟩ := ar_cellsR (HRD.out u7 (HB46.out.trans (hb7.mono HB46.out.size))).2.2
              obtain ⟨k0, -, -, -, -⟩ := ar_cellsR (HRD.out u7 (HB46.out.trans (hb7.mono HB46.out.size))).2.2
              obtain ⟨l0', l1', l2', l3', -⟩ := ar_cellsR (HRD.out u7 (HB46.out.trans (hb7.mono HB46.out.size))).2.1
              have hla7 := (Array.getElem?_eq_some_iff.1 (HRD.out u7 (HB46.out.trans (hb7.mono HB46.out.size))).2.1).1
              have hlc7 := (Array.getElem?_eq_some_iff.1 (HRD.out u7 (HB46.out.trans (hb7.mono HB46.out.size))).2.2).1
              obtain ⟨WF, hWF⟩ : ∃ WF, WF = ((u7.setCell ⟨p, 4, none⟩ (.int .i64 (gA : Int))).setCell ⟨p, 5, none⟩ (.int .i64 (rn0 : Int))).setCell ⟨p, 6, none⟩ (.int .i64 (fA : Int)) := ⟨_, rfl⟩
              have hkF : Keeps (At1 p) u7 WF := by rw [hWF]; exact (((Keeps.refl (At1 p) u7).set ⟨p, 4, none⟩ rfl _).set ⟨p, 5, none⟩ rfl _).set ⟨p, 6, none⟩ rfl _
              have hrF : WF.heap[p]? = some (rfRow (.slice a5 n5 c5) (.slice a6 n6 c6) (.slice none 0 0) 0 gA rn0 fA) := by
                have h := HR7p.out
                unfold rfRow at h ⊢
                rw [hWF]
                exact set_cells (set_cells (set_cells h))
              have hrx : WF.heap[px]? = some (arRow 3 gA (.slice ra0 rn0 rc0) fA) := (hkF.block px hlx (fun e => hppx e.symm)).trans hr7
              have HB7 : Hid (Below u4.heap.size u4 WF) := hkF.below (HB46.out.trans (hb7.mono HB46.out.size)) (HB46.out.trans (hb7.mono HB46.out.size)).size (fun k hk e => by unfold At1 at e; have := HPL.out; omega)
              have hOA : OwnB WF u4.heap.size (.slice a5 n5 c5) A := (HOA.out.below hb7).keeps hkF (fun k hk e => row_ne (HOA.out.below hb7) (by have h := HR7p.out; unfold rfRow at h; exact h) (by decide) (by unfold At1 at e; rw [hk, e]))
              have hOB : OwnB WF u4.heap.size (.slice a6 n6 c6) B := (HOB.out.below hb7).keeps hkF (fun k hk e => row_ne (HOB.out.below hb7) (by have h := HR7p.out; unfold rfRow at h; exact h) (by decide) (by unfold At1 at e; rw [hk, e]))
              have h4w := HB4w.out.size
              have HREF : Hid (RefAt w.heap.size WF p ⟨A, B, [], 0, gA, RA.length, fA⟩) := by
                have hlen : rn0 = RA.length := HRN0.out
                rw [← hlen]
                exact rf_make hrF (by have := HPL.out; omega) (hOA.mono h4w) (hOB.mono h4w) HYA.out HYB.out
              have HSEE : Hid (SeesBB WF (.slice ra0 rn0 rc0) RA) := HSRA4.out.below HB7.out
              have HBF : Hid (Below w.heap.size w WF) := HB4w.out.trans (HB7.out.mono HB4w.out.size)
              obtain ⟨-, -, x2', x3', -⟩ := ar_cellsR hrx
              have hlxF := (Array.getElem?_eq_some_iff.1 hrx).1
              have HWF := hid hWF
              clear hWF hkF hrF hrx hOA hOB hb7 hu7 hpx hr7 
              go_upto_region 14 with fail
              rw [← HU7.out, ← HPX.out]
              go_upto_region 20 with fail
              rw [← HWF.out]
              go_region_law (fail)
              all_goals (
                go_wp2_with fail
                refine bodyPost_ret (v := .tuple #[.pointer (some ⟨p, 0, none⟩), .slice ra0 rn0 rc0, .int .i64 0]) (by simp [results, Tryd.results13, go_sem]) rfl ⟨fun e => by rw [HE.out] at e; simp at e, fun _ => ⟨p, _, rfl, ?_, ?_, below_drew HBF.out⟩⟩
                · rw [HL.out]
                  rw [if_neg (by simp), if_pos (by unfold newerN; rw [if_neg (by simp), if_pos ⟨rfl, by rw [← HQ.out]; exact HQ2.out⟩])]
                  exact HREF.out.below (below_drew (Below.refl _ _))
                · rw [HRR.out]
                  rw [if_neg (by simp), if_pos (by unfold newerN; rw [if_neg (by simp), if_pos ⟨rfl, by rw [← HQ.out]; exact HQ2.out⟩])]
                  exact HSEE.out.below (below_drew (Below.refl _ _)))
          · as_aux_lemma =>
              have q8 : decide ((2147483648 : Int) ≤ (qq : Int)) = true := by simp; omega
              have HQ2 := hid hq
              clear hq
              go_wp2_with fail
              refine HC4.out.mono ?_
              rintro _ u5 ⟨xa, xb, rfl, ⟨a5, n5, c5, rfl⟩, ⟨a6, n6, c6, rfl⟩, hoa, hob, hb5⟩
              obtain ⟨u6, hu6⟩ : ∃ u6, u6 = u5.alloc (.cells #[.slice a5 n5 c5, .slice a6 n6 c6, .slice none 0 0, .int .i64 0, .int .i64 0, .int .i64 0, .int .i64 0] 86) := ⟨_, rfl⟩
              have hb6 : Below u5.heap.size u5 u6 := by rw [hu6]; exact (Below.refl _ _).alloc (Nat.le_refl _) _
              have hr6 : u6.heap[u5.heap.size]? = some (rfRow (.slice a5 n5 c5) (.slice a6 n6 c6) (.slice none 0 0) 0 0 0 0) := by rw [hu6]; exact heap_alloc_new u5 _
              obtain ⟨p, hp⟩ : ∃ p, p = u5.heap.size := ⟨_, rfl⟩
              rw [← hp] at hr6
              have HB46 : Hid (Below u4.heap.size u4 u6) := hb5.trans (hb6.mono hb5.size)
              have HPL : Hid (u4.heap.size ≤ p) := by rw [hp]; exact hb5.size
              have HR6 := hid hr6
              have HOA := hid (hoa.below hb6)
              have HOB := hid (hob.below hb6)
              have HU6 := hid hu6
              have HP := hid hp
              obtain ⟨y0, y1, y2, y3, -⟩ := ar_cellsR (HRD.out u6 HB46.out).2.1
              obtain ⟨z0, z1, z2, z3, -⟩ := ar_cellsR (HRD.out u6 HB46.out).2.2
              have hla := (Array.getElem?_eq_some_iff.1 (HRD.out u6 HB46.out).2.1).1
              have hlc := (Array.getElem?_eq_some_iff.1 (HRD.out u6 HB46.out).2.2).1
              obtain ⟨s0, s1, s2, s3, s4, s5, s6, sf⟩ := rf_cells hr6
              have hlp := (Array.getElem?_eq_some_iff.1 hr6).1
              clear hoa hob hb5 hb6 hu6 hr6 hp HC4
              go_upto_region 6 with fail
              rw [← HU6.out, ← HP.out]
              obtain ⟨u7, hu7⟩ : ∃ u7, u7 = u6.alloc (.cells #[.int .i64 3, .int .i64 (gA : Int), .slice ra0 rn0 rc0, .int .i64 (fA : Int)] 81) := ⟨_, rfl⟩
              have hb7 : Below u6.heap.size u6 u7 := by rw [hu7]; exact (Below.refl _ _).alloc (Nat.le_refl _) _
              have hr7 : u7.heap[u6.heap.size]? = some (arRow 3 gA (.slice ra0 rn0 rc0) fA) := by rw [hu7]; exact heap_alloc_new u6 _
              obtain ⟨px, hpx⟩ : ∃ px, px = u6.heap.size := ⟨_, rfl⟩
              rw [← hpx] at hr7
              have hppx : p ≠ px := by omega
              have HU7 := hid hu7
              have HPX := hid hpx
              have HR7p : Hid (u7.heap[p]? = some (rfRow (.slice a5 n5 c5) (.slice a6 n6 c6) (.slice none 0 0) 0 0 0 0)) := (hb7.block p hlp).trans HR6.out
              obtain ⟨t0, t1, t2, t3, tf⟩ := ar_cellsR hr7
              obtain ⟨v0, v1, v2, v3, v4, v5, v6, vf⟩ := rf_cells HR7p.out
              have hlx := (Array.getElem?_eq_some_iff.1 hr7).1
              have hlp7 := (Array.getElem?_eq_some_iff.1 HR7p.out).1
              obtain ⟨-, k1, k2, k3, -⟩ := ar_cellsR (HRD.out u7 (HB46.out.trans (hb7.mono HB46.out.size))).2.2
              obtain ⟨k0, -, -, -, -⟩ := ar_cellsR (HRD.out u7 (HB46.out.trans (hb7.mono HB46.out.size))).2.2
              obtain ⟨l0', l1', l2', l3', -⟩ := ar_cellsR (HRD.out u7 (HB46.out.trans (hb7.mono HB46.out.size))).2.1
              have hla7 := (Array.getElem?_eq_some_iff.1 (HRD.out u7 (HB46.out.trans (hb7.mono HB46.out.size))).2.1).1
              have hlc7 := (Array.getElem?_eq_some_iff.1 (HRD.out u7 (HB46.out.trans (hb7.mono HB46.out.size))).2.2).1
              obtain ⟨W8, hW8⟩ : ∃ W8, W8 = (((u7.setCell ⟨px, 0, none⟩ (.int .i64 3)).setCell ⟨px, 1, none⟩ (.int .i64 (gB : Int))).setCell ⟨px, 2, none⟩ (.slice ra1 rn1 rc1)).setCell ⟨px, 3, none⟩ (.int .i64 (fB : Int)) := ⟨_, rfl⟩
              have hP8 := arR_put hr7 (.int .i64 3) (.int .i64 (gB : Int)) (.slice ra1 rn1 rc1) (.int .i64 (fB : Int))
              rw [← hW8] at hP8
              have hr8 : W8.heap[px]? = some (arRow 3 gB (.slice ra1 rn1 rc1) fB) := hP8.1
              have hr8p : W8.heap[p]? = some (rfRow (.slice a5 n5 c5) (.slice a6 n6 c6) (.slice none 0 0) 0 0 0 0) := (hP8.2.block p hlp7 hppx).trans HR7p.out
              obtain ⟨o0, o1, o2, o3, of'⟩ := ar_cellsR hr8
              obtain ⟨w0, w1', w2', w3', w4', w5', w6', wf'⟩ := rf_cells hr8p
              have hl8 := (Array.getElem?_eq_some_iff.1 hr8).1
              have hl8p := (Array.getElem?_eq_some_iff.1 hr8p).1
              obtain ⟨WF, hWF⟩ : ∃ WF, WF = (((W8.setCell ⟨p, 3, none⟩ (.int .i64 1)).setCell ⟨p, 4, none⟩ (.int .i64 (gB : Int))).setCell ⟨p, 5, none⟩ (.int .i64 (rn1 : Int))).setCell ⟨p, 6, none⟩ (.int .i64 (fB : Int)) := ⟨_, rfl⟩
              have hkF : Keeps (At1 p) W8 WF := by rw [hWF]; exact ((((Keeps.refl (At1 p) W8).set ⟨p, 3, none⟩ rfl _).set ⟨p, 4, none⟩ rfl _).set ⟨p, 5, none⟩ rfl _).set ⟨p, 6, none⟩ rfl _
              have hrF : WF.heap[p]? = some (rfRow (.slice a5 n5 c5) (.slice a6 n6 c6) (.slice none 0 0) 1 gB rn1 fB) := by
                have h := hr8p
                unfold rfRow at h ⊢
                rw [hWF]
                exact set_cells (set_cells (set_cells (set_cells h)))
              have hrx : WF.heap[px]? = some (arRow 3 gB (.slice ra1 rn1 rc1) fB) := (hkF.block px hl8 (fun e => hppx e.symm)).trans hr8
              have hB8 : Below u4.heap.size u4 W8 := hP8.2.below (HB46.out.trans (hb7.mono HB46.out.size)) (HB46.out.trans (hb7.mono HB46.out.size)).size (fun k hk e => by unfold At1 at e; have := HB46.out.size; have := HPX.out; omega)
              have HB7 : Hid (Below u4.heap.size u4 WF) := hkF.below hB8 hB8.size (fun k hk e => by unfold At1 at e; have := HPL.out; omega)
              have hra : u7.heap[px]? = some (.cells #[.int .i64 (3 : Nat), .int .i64 (gA : Int), .slice ra0 rn0 rc0, .int .i64 (fA : Int)] 81 (0, 0)) := hr7
              have hOA8 : OwnB W8 u4.heap.size (.slice a5 n5 c5) A := (HOA.out.below hb7).keeps hP8.2 (fun k hk e => row_ne (HOA.out.below hb7) hra (by decide) (by unfold At1 at e; rw [hk, e]))
              have hOB8 : OwnB W8 u4.heap.size (.slice a6 n6 c6) B := (HOB.out.below hb7).keeps hP8.2 (fun k hk e => row_ne (HOB.out.below hb7) hra (by decide) (by unfold At1 at e; rw [hk, e]))
              have hOA : OwnB WF u4.heap.size (.slice a5 n5 c5) A := hOA8.keeps hkF (fun k hk e => row_ne hOA8 (by have h := hr8p; unfold rfRow at h; exact h) (by decide) (by unfold At1 at e; rw [hk, e]))
              have hOB : OwnB WF u4.heap.size (.slice a6 n6 c6) B := hOB8.keeps hkF (fun k hk e => row_ne hOB8 (by have h := hr8p; unfold rfRow at h; exact h) (by decide) (by unfold At1 at e; rw [hk, e]))
              have HW8 := hid hW8
              have h4w := HB4w.out.size
              have HREF : Hid (RefAt w.heap.size WF p ⟨A, B, [], 1, gB, RB.length, fB⟩) := by
                have hlen : rn1 = RB.length := HRN1.out
                rw [← hlen]
                exact rf_make hrF (by have := HPL.out; omega) (hOA.mono h4w) (hOB.mono h4w) HYA.out HYB.out
              have HSEE : Hid (SeesBB WF (.slice ra1 rn1 rc1) RB) := HSRB4.out.below HB7.out
              have HBF : Hid (Below w.heap.size w WF) := HB4w.out.trans (HB7.out.mono HB4w.out.size)
              obtain ⟨-, -, x2', x3', -⟩ := ar_cellsR hrx
              have hlxF := (Array.getElem?_eq_some_iff.1 hrx).1
              have HWF := hid hWF
              clear hWF hkF hrF hrx hOA hOB hb7 hu7 hpx hr7 hP8 hr8 hr8p hB8 hra hOA8 hOB8 hW8
              go_upto_region 14 with fail
              rw [← HU7.out, ← HPX.out]
              go_upto_region 16 with fail
              rw [← HW8.out]
              go_upto_region 20 with fail
              rw [← HWF.out]
              go_region_law (fail)
              all_goals (
                go_wp2_with fail
                refine bodyPost_ret (v := .tuple #[.pointer (some ⟨p, 0, none⟩), .slice ra1 rn1 rc1, .int .i64 0]) (by simp [results, Tryd.results13, go_sem]) rfl ⟨fun e => by rw [HE.out] at e; simp at e, fun _ => ⟨p, _, rfl, ?_, ?_, below_drew HBF.out⟩⟩
                · rw [HL.out]
                  rw [if_neg (by simp), if_neg (by unfold newerN; rw [if_neg (by simp), if_neg (by rintro ⟨-, e⟩; rw [← HQ.out] at e; exact HQ2.out e)]; decide)]
                  exact HREF.out.below (below_drew (Below.refl _ _))
                · rw [HRR.out]
                  rw [if_neg (by simp), if_neg (by unfold newerN; rw [if_neg (by simp), if_neg (by rintro ⟨-, e⟩; rw [← HQ.out] at e; exact HQ2.out e)]; decide)]
                  exact HSEE.out.below (below_drew (Below.refl _ _)))
end Go.Proofs.YteoebmpfdcbbmacDoor
