/-
  TunnelThere's walk.
-/
import Derived.Test.YtcelcnafcfefhaaEZ
namespace Go.Proofs.Ytcelcnafcfefhaa.N
open Go.ChangeShapes Go.WideShapes Go.ChangeAt Go.RowKit
set_option maxHeartbeats 8000000
set_option maxRecDepth 100000

theorem tunnelThere_walk (o : Ou) (f : Tn.Fr) (vb vt : Value) (T : List Nat) (w : World) (ho : o.Ok) (hf : FrB f) (hvb : SeesB w vb f.B) (hvt : SeesB w vt T) (hT : T.length + 65535 ≤ 140737488355328) :
    Calls Try.prog 7 #[.agg (ouCells o), .agg (frCells f vb), vt] w fun e w' => e = .returned (.bool true) ∧ Below w.heap.size w w' := by
  obtain ⟨ab, nb, capb, rfl, HNB, hnb1, hnb2⟩ := hvb.shape
  obtain ⟨at_, nt, capt, rfl, -, hnt1, hnt2⟩ := hvt.shape
  unfold maxLen at hnb2
  obtain ⟨w1, hw1⟩ : ∃ w1, w1 = w.alloc (.cells (ouCells o) 60) := ⟨_, rfl⟩
  obtain ⟨w2, hw2⟩ : ∃ w2, w2 = w1.alloc (.cells (frCells f (.slice ab nb capb)) 41) := ⟨_, rfl⟩
  have hs1 : w1.heap.size = w.heap.size + 1 := by rw [hw1]; simp
  have hb1 : Below w.heap.size w w1 := by rw [hw1]; exact (Below.refl _ _).alloc (Nat.le_refl _) _
  have hb2 : Below w.heap.size w w2 := by rw [hw2]; exact hb1.alloc (by omega) _
  have hr1 : w2.heap[w.heap.size]? = some (.cells (ouCells o) 60 (0, 0)) := by rw [hw2, heap_alloc_old _ _ (by omega), hw1]; exact heap_alloc_new w _
  have hr2 : w2.heap[w.heap.size + 1]? = some (.cells (frCells f (.slice ab nb capb)) 41 (0, 0)) := by rw [hw2, ← hs1]; exact heap_alloc_new w1 _
  obtain ⟨-, c13⟩ := fr_at hf.ok hr2
  obtain ⟨oc, hoc⟩ : ∃ oc, oc = ouCells o := ⟨_, rfl⟩
  obtain ⟨fc, hfc⟩ : ∃ fc, fc = frCells f (.slice ab nb capb) := ⟨_, rfl⟩
  have hos : oc.size = 6 := by rw [hoc]; rfl
  have hfs : fc.size = 14 := by rw [hfc]; exact frCells_size hf.ok _
  have HI6 : Hid ((Try.prog.info? 60).map (·.size) = some oc.size) := by unfold Hid; rw [hos]; kernel_rfl
  have HIF : Hid ((Try.prog.info? 41).map (·.size) = some fc.size) := by unfold Hid; rw [hfs]; kernel_rfl
  have HR1 : Hid (w2.heap[w.heap.size]? = some (.cells oc 60 (0, 0))) := by unfold Hid; rw [hoc]; exact hr1
  have HR2 : Hid (w2.heap[w.heap.size + 1]? = some (.cells fc 41 (0, 0))) := by unfold Hid; rw [hfc]; exact hr2
  have HLD : Hid (∀ u, Below w2.heap.size w2 u → (Instr.loadAt 60 (.pointer (some ⟨w.heap.size, 0, none⟩))).run Try.prog u = .ok (.agg oc) u ∧ (Instr.loadAt 41 (.pointer (some ⟨w.heap.size + 1, 0, none⟩))).run Try.prog u = .ok (.agg fc) u ∧ u.cell? ⟨w.heap.size + 1, 13, none⟩ = some (.slice ab nb capb)) := fun u hu => by
    have k1 := (hu.block _ (Array.getElem?_eq_some_iff.1 HR1.out).1).trans HR1.out
    have k2 := (hu.block _ (Array.getElem?_eq_some_iff.1 HR2.out).1).trans HR2.out
    have k3 := k2
    rw [hfc] at k3
    exact ⟨load_rowAt k1 Try.underlying60 rfl HI6.out, load_rowAt k2 Try.underlying41 rfl HIF.out, (fr_at hf.ok k3).2⟩
  have HB2 := hid hb2
  have HBE := hid (begun_any w2)
  have HW2 : Hid (w2 = (w.alloc (.cells oc 60)).alloc (.cells fc 41)) := by unfold Hid; rw [hw2, hw1, hoc, hfc]
  have HS2 : Hid (w2.heap.size = w.heap.size + 2) := by unfold Hid; rw [hw2]; simp [hs1]
  have HVB := hid hvb
  have HVT := hid hvt
  have HSE : Hid (∀ u, Below w2.heap.size w2 u → Calls Try.prog 18 #[.agg oc, .agg fc] u fun e w' => ∃ ao n cap, e = .returned (.tuple #[.slice ao n cap, .int .i64 (seE o f)]) ∧ SeesB w' (.slice ao n cap) (seL o f) ∧ Below u.heap.size u w') := fun u hu => by
    rw [hoc, hfc]
    exact sealT_any o f _ u ho hf ((hvb.below hb2).below hu)
  have HSB : Hid (∀ u, Below w2.heap.size w2 u → Calls Try.prog 19 #[.agg oc, .agg fc] u fun e w' => e = .returned (.bool (seB o f)) ∧ Below u.heap.size u w') := fun u hu => by
    rw [hoc, hfc]
    exact sealable_any o f _ u hf.ok ((hvb.below hb2).below hu)
  have HSF : Hid (∀ (u : World) (v : Value), Below w2.heap.size w2 u ∨ Below w.heap.size w u → SeesB u v f.B → Calls Try.prog 21 #[.agg fc, .agg (frCells f v)] u fun e w' => e = .returned (.bool true) ∧ Below u.heap.size u w') := fun u v hu hv => by
    rw [hfc]
    exact sameFrame_self f _ _ u hf.ok (hu.elim (fun h => (hvb.below hb2).below h) (fun h => hvb.below h)) hv
  have HOC := hid hoc
  have HFC := hid hfc
  have HOS := hid hos
  have HFS := hid hfs
  have HO := hid ho
  have HF := hid hf
  have HT := hid hT
  rw [← hoc, ← hfc]
  clear hw1 hw2 hs1 hb1 hb2 hr1 hr2 hoc hfc hvb hvt ho hf hT c13 hos hfs
  go_enter Try.func7, Try.ntmps7
  go_upto_region 1 with fail
  rw [← HW2.out]
  go_wp2_with fail
  refine HBE.out.mono ?_
  rintro _ w3 ⟨rfl, hb3⟩
  obtain ⟨l1, l2, -⟩ := HLD.out w3 hb3
  have HL1 := hid l1
  have HL2 := hid l2
  have HX := hid (HSE.out w3 hb3)
  have HB3 := hid hb3
  clear hb3 l1 l2 HBE
  go_wp2_with (first
    | (refine wpList_ld 60 ⟨w.heap.size, 0, none⟩ (.tmp 3) rfl rfl HL1.out rfl ?_)
    | (refine wpList_ld 41 ⟨w.heap.size + 1, 0, none⟩ (.tmp 4) rfl rfl HL2.out rfl ?_)
    | fail)
  refine HX.out.mono ?_
  rintro _ w4 ⟨ao, n, cap, rfl, hs4, hb4⟩
  have HB4 : Hid (Below w2.heap.size w2 w4) := HB3.out.trans (hb4.mono HB3.out.size)
  have HS4 := hid hs4
  have HX2 := hid (HSB.out w4 HB4.out)
  obtain ⟨l1, l2, -⟩ := HLD.out w4 HB4.out
  have HL1 := hid l1
  have HL2 := hid l2
  have hn1 : n ≤ cap := by obtain ⟨_, _, hv, h1, _⟩ := hs4; simp at hv; omega
  have hn2 : cap ≤ 9223372036854775807 := by obtain ⟨_, _, hv, _, h2, _⟩ := hs4; simp at hv; unfold maxLen at h2; omega
  have HN : Hid (n = (seL o f).length) := by obtain ⟨_, _, hv, _⟩ := hs4; simp at hv; exact hv.2.1
  clear hs4 hb4 HX l1 l2 HB3
  generalize hse : seE o f = se at *
  go_wp2_with (first
    | (refine wpList_ld 60 ⟨w.heap.size, 0, none⟩ (.tmp 3) rfl rfl HL1.out rfl ?_)
    | (refine wpList_ld 41 ⟨w.heap.size + 1, 0, none⟩ (.tmp 4) rfl rfl HL2.out rfl ?_)
    | fail)
  refine HX2.out.mono ?_
  rintro _ w5 ⟨rfl, hb5⟩
  have HB5 : Hid (Below w2.heap.size w2 w5) := HB4.out.trans (hb5.mono HB4.out.size)
  have HBW5 : Hid (Below w.heap.size w w5) := HB2.out.trans (HB5.out.mono HB2.out.size)
  have HS5 := hid (HS4.out.below hb5)
  obtain ⟨-, -, c13⟩ := HLD.out w5 HB5.out
  clear hb5 HX2 HS4 HB4
  have HSEE := hid hse
  clear hse
  cases hq : seB o f with
  | false =>
    as_aux_lemma =>
      have hq2 : ¬ (0 ≤ o.vni ∧ o.vni ≤ 16777215 ∧ Tn.bfE f = 0) := of_decide_eq_false hq
      obtain ⟨e1, e2⟩ := seE_bad (o := o) (f := f) (by
        by_cases h : 0 ≤ o.vni ∧ o.vni ≤ 16777215
        · exact .inr fun hc => hq2 ⟨h.1, h.2, hc⟩
        · exact .inl h)
      have hn0 : n = 0 := by rw [HN.out, e2]; rfl
      have q1 : (se != 0) = true := by rw [← HSEE.out]; simpa using e1
      have q2 : (se == 0) = false := by rw [← HSEE.out]; simpa using e1
      subst hn0
      clear hq hq2 e1 e2 HSEE
      go_wp2_with fail
      go_ret
      exact ⟨rfl, HBW5.out⟩
  | true =>
    have hq2 : 0 ≤ o.vni ∧ o.vni ≤ 16777215 ∧ Tn.bfE f = 0 := of_decide_eq_true hq
    obtain ⟨e1, e2⟩ := seL_sx (o := o) (f := f) ⟨hq2.1, hq2.2.1⟩ hq2.2.2 HF.out.ok
    have hlb : f.B.length ≤ 65485 := by
      have h := hq2.2.2
      unfold Tn.bfE at h
      by_cases h1 : 65485 < f.B.length
      · rw [if_pos h1] at h; cases h
      · omega
    obtain ⟨X, hX⟩ : ∃ X, X = vxH o.vni.toNat := ⟨_, rfl⟩
    have hX8 : X.length = 8 := by rw [hX]; rfl
    have hXb : byt X 0 / 8 % 2 ≠ 0 := by rw [hX]; show ¬ (8 / 8 % 2 = 0); decide
    have hXv : (((byt X 4 * 256 + byt X 5) * 256 + byt X 6 : Nat) : Int) = o.vni := by rw [hX]; exact vx_num ⟨hq2.1, hq2.2.1⟩
    rw [← hX] at e2
    have HOP : Hid (∀ T', opE (sxL o f X ++ T') = 0 ∧ opO (sxL o f X ++ T') = o ∧ opF (sxL o f X ++ T') = f) := fun T' => sx_open T' HO.out hX8 HF.out.ok hq2.2.2 hXb hXv
    have hnl : n = 50 + nb := by rw [HN.out, e2, sxL_len HO.out hX8 HF.out.ok hlb, HNB.out]
    rw [e2] at HS5
    have hse0 : se = 0 := by rw [← HSEE.out, e1]
    have HLL : Hid ((sxL o f X).length ≤ 65535) := by unfold Hid; rw [sxL_len HO.out hX8 HF.out.ok hlb]; omega
    have hnI : (50 : Int) + (nb : Int) = (n : Int) := by omega
    have hn16 : n ≤ 65535 := by rw [hnl, HNB.out]; omega
    obtain ⟨L, HL⟩ : ∃ L, Hid (L = sxL o f X) := ⟨_, rfl⟩
    rw [← HL.out] at HS5 HLL HOP
    have HOC1 : Hid (ouCells o = oc) := HOC.out.symm
    have HOC2 := HOP
    subst hse0
    have hnb : nb ≤ 65485 := by rw [HNB.out]; exact hlb
    clear hq hq2 e1 e2 hX hX8 hXb hXv hnl HSEE HN hlb HL HOC2
    have HOPN : Hid (∀ (T' : List Nat) (v : Value) (u : World), SeesB u v (L ++ T') → (L ++ T').length ≤ 140737488355328 → Calls Try.prog 20 #[v] u fun e w' => ∃ (a : Option Addr) (n c : Nat) (fd : Array Value), e = .returned (.tuple #[.agg oc, .agg fd, .int .i64 0]) ∧ Hid (fd = frCells f (.slice a n c)) ∧ Hid (SeesB w' (.slice a n c) f.B) ∧ Hid (∀ b, a = some b → u.heap.size ≤ b.block) ∧ Hid (Below u.heap.size u w')) := fun T' v u hv hl => by
      obtain ⟨h1, h2, h3⟩ := HOP.out T'
      refine (open_any v (L ++ T') u hv hl).mono ?_
      rintro e w' ⟨a, n, c, rfl, hs, hn, hb⟩
      rw [h1, h2, h3]
      rw [h3] at hs
      exact ⟨a, n, c, _, by rw [HOC1.out], rfl, hs, hn, hb⟩
    clear HOP
    go_upto_region 9 with fail
    go_wp2_with (at_builtin; refine wpList_append_bytes rfl _ _ rfl w5.heap.size _ _ rfl (ownB_nil _ _) _ L rfl HS5.out ?c1 ?c2 ?_)
    case c1 => have := HLL.out; simp; omega
    case c2 => exact Nat.le_refl _
    intro v6 w6 ho6 hb6
    have HO6 := hid ho6
    have HB56 := hid hb6
    have HVT6 := hid (HVT.out.below (HBW5.out.trans (hb6.mono HBW5.out.size)))
    clear ho6 hb6
    go_wp2_with (at_builtin; refine wpList_append_bytes rfl _ _ rfl w5.heap.size _ _ rfl HO6.out _ T rfl HVT6.out ?d1 ?d2 ?_)
    case d1 => have := HLL.out; have := HT.out; omega
    case d2 => exact HB56.out.size
    intro v7 w7 ho7 hb7
    have hb57 : Below w5.heap.size w5 w7 := HB56.out.trans hb7
    have hby : ∀ x ∈ L ++ T, x < 256 := fun x hx => (List.mem_append.1 hx).elim (HS5.out.bytes x) (HVT.out.bytes x)
    obtain ⟨a7, n7, c7, rfl, -, -, -⟩ := (ho7.sees hby).shape
    have HS7 := hid (ho7.sees hby)
    have HB57 := hid hb57
    have HBW7 : Hid (Below w.heap.size w w7) := HBW5.out.trans (hb57.mono HBW5.out.size)
    have HB27 : Hid (Below w2.heap.size w2 w7) := HB5.out.trans (hb57.mono HB5.out.size)
    have hs5' := HS5.out.below hb57
    rw [← List.append_nil L] at hs5'
    have HX7 := hid (HOPN.out [] _ w7 hs5' (by have := HLL.out; rw [List.append_nil]; omega))
    clear ho7 hb7 hb57 hby hs5' HO6 HVT6 HB56 c13
    go_wp2_with fail
    refine HX7.out.mono ?_
    rintro _ w8 ⟨a8, n8, c8, fd, rfl, HFD, HS8, HG8, HB78⟩
    have hfd : fd.size = 14 := by rw [HFD.out]; exact frCells_size HF.out.ok _
    obtain ⟨wb, wc, w9, HWB, HWC, HW9, HT1, HT2, hr9, hr9', hb89⟩ := lay2 w8 oc fd HOS.out hfd w8.heap.size rfl
    have HIFD : Hid ((Try.prog.info? 41).map (·.size) = some fd.size) := by unfold Hid; rw [hfd]; kernel_rfl
    have HOO : Hid (oc.all (·.oneCell') = true) := by unfold Hid; rw [HOC.out]; exact ou_one _
    have HOF : Hid (fd.all (·.oneCell') = true) := by unfold Hid; rw [HFD.out]; exact frc_one
    have HTL1 : Hid (((w8.alloc (.cells #[.int .u32 0, .int .u32 0, .int .u16 0, .int .u16 0, .int .u8 0, .int .i64 0] 60)).alloc (.cells #[.int .u8 0, .int .u8 0, .int .u8 0, .int .u8 0, .int .u8 0, .int .u8 0, .int .u8 0, .int .u8 0, .int .u8 0, .int .u8 0, .int .u8 0, .int .u8 0, .int .u16 0, .slice none 0 0] 41)).there w8.heap.size 0 oc.size) := by have h := HT1.out; rw [HWB.out] at h; exact h
    have HTL2 : Hid ((((w8.alloc (.cells #[.int .u32 0, .int .u32 0, .int .u16 0, .int .u16 0, .int .u8 0, .int .i64 0] 60)).alloc (.cells #[.int .u8 0, .int .u8 0, .int .u8 0, .int .u8 0, .int .u8 0, .int .u8 0, .int .u8 0, .int .u8 0, .int .u8 0, .int .u8 0, .int .u8 0, .int .u8 0, .int .u16 0, .slice none 0 0] 41)).setCells w8.heap.size 0 oc.toList).there (w8.heap.size + 1) 0 fd.size) := by have h := HT2.out; rw [HWC.out, HWB.out] at h; exact h
    have HWL : Hid (w9 = (((w8.alloc (.cells #[.int .u32 0, .int .u32 0, .int .u16 0, .int .u16 0, .int .u8 0, .int .i64 0] 60)).alloc (.cells #[.int .u8 0, .int .u8 0, .int .u8 0, .int .u8 0, .int .u8 0, .int .u8 0, .int .u8 0, .int .u8 0, .int .u8 0, .int .u8 0, .int .u8 0, .int .u8 0, .int .u16 0, .slice none 0 0] 41)).setCells w8.heap.size 0 oc.toList).setCells (w8.heap.size + 1) 0 fd.toList) := by have h := HW9.out; rw [HWC.out, HWB.out] at h; exact h
    have hb79 : Below w7.heap.size w7 w9 := HB78.out.trans (hb89.mono HB78.out.size)
    have HB29 : Hid (Below w2.heap.size w2 w9) := HB27.out.trans (hb79.mono HB27.out.size)
    obtain ⟨l1, l2, -⟩ := HLD.out w9 HB29.out
    have HL1 := hid l1
    have HL2 := hid l2
    have HL11 : Hid ((Instr.loadAt 60 (.pointer (some ⟨w8.heap.size, 0, none⟩))).run Try.prog w9 = .ok (.agg oc) w9) := load_rowAt hr9 Try.underlying60 rfl HI6.out
    have HL12 : Hid ((Instr.loadAt 41 (.pointer (some ⟨w8.heap.size + 1, 0, none⟩))).run Try.prog w9 = .ok (.agg fd) w9) := load_rowAt hr9' Try.underlying41 rfl HIFD.out
    have hqe : ∀ u : World, (Op.equalIn 10000 60 (.agg oc) (.agg oc)).run Try.prog u = .ok true u := fun u => by rw [HOC.out]; exact eqO _ u
    have HSF9 : Hid (Calls Try.prog 21 #[.agg fc, .agg fd] w9 fun e w' => e = .returned (.bool true) ∧ Below w9.heap.size w9 w') := by
      unfold Hid
      rw [HFD.out]
      exact HSF.out w9 _ (.inl HB29.out) (HS8.out.below hb89)
    have HR9 := hid hr9
    have HR9' := hid hr9'
    have HS79 := hid (HS7.out.below hb79)
    have hpl : Hid (w2.heap.size ≤ w8.heap.size) := Nat.le_trans HB27.out.size HB78.out.size
    obtain ⟨p, hp⟩ : ∃ p, p = w8.heap.size := ⟨_, rfl⟩
    have HP := hid hp
    rw [← hp] at HTL1 HTL2 HWL HR9 HR9' HL11 HL12 hpl
    clear hp hr9 hr9' hb89 hb79 l1 l2 HWB HWC HW9 HT1 HT2 HX7 HS8 HB78 HG8 HFD HS7 HB27 HBW7 HB57
    go_upto_region 11 with (first
      | (rw [← HP.out]; refine wpList_store_mid rfl 60 (.tmp 11) (.tmp 51) rfl p 0 oc rfl rfl HTL1.out HI6.out HOO.out ?_)
      | (refine wpList_store_mid rfl 41 (.tmp 12) (.tmp 52) rfl (p + 1) 0 fd rfl rfl HTL2.out HIFD.out HOF.out ?_)
      | fail)
    rw [← HWL.out]
    clear HTL1 HTL2 HWL
    go_wp2_with (first
      | (refine wpList_ld 60 ⟨p, 0, none⟩ (.tmp 11) rfl rfl HL11.out rfl ?_)
      | (refine wpList_ld 60 ⟨w.heap.size, 0, none⟩ (.tmp 3) rfl rfl HL1.out rfl ?_)
      | (refine wpList_ld 41 ⟨w.heap.size + 1, 0, none⟩ (.tmp 4) rfl rfl HL2.out rfl ?_)
      | (refine wpList_ld 41 ⟨p + 1, 0, none⟩ (.tmp 12) rfl rfl HL12.out rfl ?_)
      | fail)
    refine HSF9.out.mono ?_
    rintro _ w10 ⟨rfl, hb10⟩
    have HB210 : Hid (Below w2.heap.size w2 w10) := HB29.out.trans (hb10.mono HB29.out.size)
    have HR10 : Hid (w10.heap[p]? = some (.cells oc 60 (0, 0))) := (hb10.block _ (Array.getElem?_eq_some_iff.1 HR9.out).1).trans HR9.out
    have HR10' : Hid (w10.heap[p + 1]? = some (.cells fd 41 (0, 0))) := (hb10.block _ (Array.getElem?_eq_some_iff.1 HR9'.out).1).trans HR9'.out
    have hX10 := HOPN.out T _ w10 (HS79.out.below hb10) (by have := HLL.out; have := HT.out; rw [List.length_append]; omega)
    have HX10 := hid hX10
    clear hb10 HSF9 HL1 HL2 HL11 HL12 hX10 HS79 HR9 HR9'
    go_wp2_with fail
    refine HX10.out.mono ?_
    rintro _ w11 ⟨a11, n11, c11, fe, rfl, HFE, HS11, HG11, HB1011⟩
    have hfe : fe.size = 14 := by rw [HFE.out]; exact frCells_size HF.out.ok _
    have hr11 : w11.heap[p]? = some (.cells oc 60 (0, 0)) := (HB1011.out.block _ (Array.getElem?_eq_some_iff.1 HR10.out).1).trans HR10.out
    have hr11' : w11.heap[p + 1]? = some (.cells fd 41 (0, 0)) := (HB1011.out.block _ (Array.getElem?_eq_some_iff.1 HR10'.out).1).trans HR10'.out
    obtain ⟨w12, HW12, HT1, HT2, hr12, hr12', hbk, hsk⟩ := lay3 hr11 hr11' (oc := oc) (fc := fe) rfl (by rw [hfe, hfd])
    have HIFE : Hid ((Try.prog.info? 41).map (·.size) = some fe.size) := by unfold Hid; rw [hfe]; kernel_rfl
    have HOF2 : Hid (fe.all (·.oneCell') = true) := by unfold Hid; rw [HFE.out]; exact frc_one
    have HBW12 : Hid (Below w2.heap.size w2 w12) := hbk _ _ hpl.out (HB210.out.trans (HB1011.out.mono HB210.out.size))
    have hp1 := (Array.getElem?_eq_some_iff.1 HR10'.out).1
    have hs12 := hsk _ _ _ _ HS11.out (fun a e => by have := HG11.out a e; omega)
    obtain ⟨l1, l2, -⟩ := HLD.out w12 HBW12.out
    have HL1 := hid l1
    have HL2 := hid l2
    have HL11 : Hid ((Instr.loadAt 60 (.pointer (some ⟨p, 0, none⟩))).run Try.prog w12 = .ok (.agg oc) w12) := load_rowAt hr12 Try.underlying60 rfl HI6.out
    have HL12 : Hid ((Instr.loadAt 41 (.pointer (some ⟨p + 1, 0, none⟩))).run Try.prog w12 = .ok (.agg fe) w12) := load_rowAt hr12' Try.underlying41 rfl HIFE.out
    have HSF12 : Hid (Calls Try.prog 21 #[.agg fc, .agg fe] w12 fun e w' => e = .returned (.bool true) ∧ Below w12.heap.size w12 w') := by
      unfold Hid
      rw [HFE.out]
      exact HSF.out w12 _ (.inl HBW12.out) hs12
    clear hr11 hr11' hr12 hr12' hbk hsk hp1 hs12 l1 l2 hfe HX10
    go_upto_region 14 with (first
      | (refine wpList_store_mid rfl 60 (.tmp 11) (.tmp 70) rfl p 0 oc rfl rfl HT1.out HI6.out HOO.out ?_)
      | (refine wpList_store_mid rfl 41 (.tmp 12) (.tmp 71) rfl (p + 1) 0 fe rfl rfl HT2.out HIFE.out HOF2.out ?_)
      | fail)
    rw [← HW12.out]
    go_wp2_with (first
      | (refine wpList_ld 60 ⟨p, 0, none⟩ (.tmp 11) rfl rfl HL11.out rfl ?_)
      | (refine wpList_ld 60 ⟨w.heap.size, 0, none⟩ (.tmp 3) rfl rfl HL1.out rfl ?_)
      | (refine wpList_ld 41 ⟨w.heap.size + 1, 0, none⟩ (.tmp 4) rfl rfl HL2.out rfl ?_)
      | (refine wpList_ld 41 ⟨p + 1, 0, none⟩ (.tmp 12) rfl rfl HL12.out rfl ?_)
      | fail)
    refine HSF12.out.mono ?_
    rintro _ w13 ⟨rfl, hb13⟩
    have HB213 : Hid (Below w2.heap.size w2 w13) := HBW12.out.trans (hb13.mono HBW12.out.size)
    have HE : Hid (Below w.heap.size w w13) := HB2.out.trans (HB213.out.mono HB2.out.size)
    clear hb13
    go_wp2_with fail
    go_ret
    exact ⟨rfl, HE.out⟩
end Go.Proofs.Ytcelcnafcfefhaa.N
