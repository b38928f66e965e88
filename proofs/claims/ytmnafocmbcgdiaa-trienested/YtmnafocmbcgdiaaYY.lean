/-
  TrieNested's walk.
-/
import Derived.Test.YtmnafocmbcgdiaaYX
namespace Go.Proofs.Ytmnafocmbcgdiaa
open Go.ChangeShapes Go.WideShapes Go.ChangeAt Go.RowKit Go.Shelf Tri N
set_option maxHeartbeats 16000000
set_option maxRecDepth 100000

def FWn (vp v2 : Value) (g2 : Nat) (ka kb : K) (B : Nat) (L : List K) (i : Nat) (v : Value) (u : World) : Prop :=
  match i with
  | 0 => v = vp
  | 1 => v = v2
  | 2 => v = .pointer (some ⟨g2, 0, none⟩)
  | 3 => v = pv ka
  | 4 => u.ownsRow B 32 2 v (L.filter (inK ka)).length (kcs (L.filter (inK ka)))
  | 5 => v = vp
  | 6 => v = v2
  | 7 => v = .pointer (some ⟨g2, 2, none⟩)
  | 8 => v = pv kb
  | _ => u.ownsRow B 32 2 v (L.filter (inK kb)).length (kcs (L.filter (inK kb)))

theorem FWn.keeps (vp v2 : Value) (g2 : Nat) (ka kb : K) (B : Nat) (L : List K) : ∀ (i : Nat) (v : Value) (w w' : World), FWn vp v2 g2 ka kb B L i v w → Below w.heap.size w w' → FWn vp v2 g2 ka kb B L i v w' := fun i v w w' h hb => by
  match i with
  | 0 => exact h
  | 1 => exact h
  | 2 => exact h
  | 3 => exact h
  | 4 => exact owns_below h hb
  | 5 => exact h
  | 6 => exact h
  | 7 => exact h
  | 8 => exact h
  | n + 9 => exact owns_below h hb

theorem idx_two0 {g cap : Nat} (u : World) : (Instr.indexAt 22 (.slice (some ⟨g, 0, none⟩) 2 cap) (.int .i64 0)).run Try.prog u = .ok (.pointer (some ⟨g, 0, none⟩)) u := by
  simpa using idx_pr (n := 2) (cap := cap) (g := g) (off := 0) (m := 0) (by omega) u
theorem idx_two1 {g cap : Nat} (u : World) : (Instr.indexAt 22 (.slice (some ⟨g, 0, none⟩) 2 cap) (.int .i64 1)).run Try.prog u = .ok (.pointer (some ⟨g, 2, none⟩)) u := by
  simpa using idx_pr (n := 2) (cap := cap) (g := g) (off := 0) (m := 1) (by omega) u

theorem cut_p {n cap i : Nat} {a : Addr} (hi : i ≤ n) (hc : n ≤ cap) (u : World) : (Instr.sliceAt 22 (.slice (some a) n cap) none (some (.int .i64 (i : Int))) none).run Try.prog u = .ok (.slice (some a) i cap) u := by
  have hu : Try.prog.underlying 22 = some (.slice (Try.prog.elem 22)) := by kernel_rfl
  have hsz : (sizeOf (Try.prog.elem 22)).run Try.prog u = .ok 2 u := by kernel_rfl
  rw [run_sliceAt_slice (h := hu), run_slice_h (ht := hu) (h0 := by omega) (h2 := by omega), hsz]
  simp [Result.andThen, sliced, Addr.add]
theorem cut_12 {n cap : Nat} {a : Addr} (hi : 12 ≤ n) (hc : n ≤ cap) (u : World) : (Instr.sliceAt 22 (.slice (some a) n cap) none (some (.int .i64 12)) none).run Try.prog u = .ok (.slice (some a) 12 cap) u := by
  simpa using cut_p (i := 12) hi hc u

theorem nested_walk (v0 : Value) (P : List (Nat × Int)) (xa : Nat) (ya : Int) (xb : Nat) (yb : Int) (w : World) (hs0 : Sees w v0 P) (ha : AdrP P) (hxa : xa < 4294967296) (hya : In64 ya) (hxb : xb < 4294967296) (hyb : In64 yb) :
    Calls Try.prog 6 #[v0, qv xa ya, qv xb yb] w fun e w' => e = .returned (.bool true) ∧ Below w.heap.size w w' := by
  obtain ⟨ap, np, capp, rfl, HNP, hnp1, hnp2⟩ := hs0.shape
  obtain ⟨w1, HW1⟩ : ∃ w1, Hid (w1 = (w.alloc (.cells #[.int .u32 (xa : Int), .int .i64 ya] 32)).alloc (.cells #[.int .u32 (xb : Int), .int .i64 yb] 32)) := ⟨_, rfl⟩
  have hb1 : Below w.heap.size w w1 := by rw [HW1.out]; exact ((Below.refl _ _).alloc (Nat.le_refl _) _).alloc (by simp) _
  have ra : w1.heap[w.heap.size]? = some (.cells #[.int .u32 (xa : Int), .int .i64 ya] 32) := by rw [HW1.out, Below.heap_alloc _ _ _ (by simp)]; exact heap_alloc_new w _
  have rb : w1.heap[w.heap.size + 1]? = some (.cells #[.int .u32 (xb : Int), .int .i64 yb] 32) := by
    have h := heap_alloc_new (w.alloc (.cells #[.int .u32 (xa : Int), .int .i64 ya] 32)) (.cells #[.int .u32 (xb : Int), .int .i64 yb] 32)
    rw [World.size_alloc] at h
    rw [HW1.out]; exact h
  have HB1 := hid hb1
  have HR1 : Hid (w1.heap[w.heap.size]? = some (.cells #[.int .u32 (xa : Int), .int .i64 ya] 32) ∧ w1.heap[w.heap.size + 1]? = some (.cells #[.int .u32 (xb : Int), .int .i64 yb] 32)) := ⟨ra, rb⟩
  have HSP := hid (hs0.below hb1)
  have HAD := hid ha
  have HXY : Hid ((xa < 4294967296 ∧ In64 ya) ∧ (xb < 4294967296 ∧ In64 yb)) := ⟨⟨hxa, hya⟩, hxb, hyb⟩
  unfold qv
  unfold maxLen at hnp2
  clear hs0 ha hxa hya hxb hyb hb1 ra rb
  go_enter Try.func6, Try.ntmps6
  go_upto_region 1 with fail
  rw [← HW1.out]
  go_upto_if 20 with fail
  go_cut [0] from 18 (fun v V => ∃ (a : Option Addr) (n c : Nat) (P' : List (Nat × Int)), v = .slice a n c ∧ Hid (Sees V (.slice a n c) P') ∧ Hid (AdrP P') ∧ Hid (P'.length ≤ 12) ∧ Hid (V = w1))
  case first =>
    by_cases h12 : 12 < np
    · have b1 : (12 : Int) < (np : Int) := by omega
      obtain ⟨g, off, p, hao, _, _, _, _⟩ := HSP.out.at 0 (by omega)
      subst hao
      have hcut := cut_12 (a := ⟨g, off, none⟩) (Nat.le_of_lt h12) hnp1
      have HS2 := hid (sees_cut HSP.out (Nat.le_of_lt h12))
      have HA2 : Hid (AdrP (P.take 12)) := fun p hp => HAD.out p (List.mem_of_mem_take hp)
      go_wp2_with fail
      go_meet
      case rel => exact ⟨_, _, _, _, rfl, HS2, HA2, by unfold Hid; simp; omega, rfl⟩
    · have b1 : ¬ (12 : Int) < (np : Int) := by omega
      go_wp2_with fail
      go_meet
      case rel => exact ⟨_, _, _, _, rfl, HSP, HAD, by have := HNP.out; unfold Hid; omega, rfl⟩
  case rest =>
    obtain ⟨a', n', c', P', rfl, HSV, HAP, HPL, HVE⟩ := hcut
    rename World => V
    have HBV : Hid (Below w.heap.size w V) := by unfold Hid; rw [HVE.out]; exact HB1.out
    have HRV : Hid (V.heap[w.heap.size]? = some (.cells #[.int .u32 (xa : Int), .int .i64 ya] 32) ∧ V.heap[w.heap.size + 1]? = some (.cells #[.int .u32 (xb : Int), .int .i64 yb] 32)) := by unfold Hid; rw [HVE.out]; exact HR1.out
    clear HVE HW1 HB1 HR1 HSP HAD
    have HVAL := hid (valids_any _ P' V HSV.out HAP.out)
    have hOK : ∀ k ∈ valL P', k.Ok := fun k hk => by
      obtain ⟨p, hp, rfl⟩ := List.mem_map.1 hk
      exact preK_ok _ _ (HAP.out p (List.mem_of_mem_take hp)).1
    have hlen : (valL P').length ≤ 12 := by have := HPL.out; unfold valL; simp; omega
    obtain ⟨L, hL⟩ : ∃ L, L = valL P' := ⟨_, rfl⟩
    rw [← hL] at HVAL hOK hlen
    have HOK := hid hOK
    clear hOK hL
    go_wp2_with fail
    refine HVAL.out.mono ?_
    rintro _ w2 ⟨vl, rfl, hown, hb2⟩
    have HSL := hid (sees_of_owns hown)
    obtain ⟨al, nl, capl, rfl, HNL0, hnl1, hnl2⟩ := HSL.out.shape
    have HNL : Hid (nl = L.length) := by have := HNL0.out; rw [List.length_map] at this; exact this
    have hnl : nl ≤ 12 := by have := HNL.out; omega
    have HB2 := hid hb2
    have r1 := below_keeps hb2 HRV.out.1 (Array.getElem?_eq_some_iff.1 HRV.out.1).1
    have r2 := below_keeps hb2 HRV.out.2 (Array.getElem?_eq_some_iff.1 HRV.out.2).1
    have a0 : w2.cell? ⟨w.heap.size, 0, none⟩ = some (.int .u32 (xa : Int)) := by rw [cell_of_row _ _ _ _ _ _ r1]; rfl
    have a1 : w2.cell? ⟨w.heap.size, 1, none⟩ = some (.int .i64 ya) := by rw [cell_of_row _ _ _ _ _ _ r1]; rfl
    have a2 : w2.cell? ⟨w.heap.size + 1, 0, none⟩ = some (.int .u32 (xb : Int)) := by rw [cell_of_row _ _ _ _ _ _ r2]; rfl
    have a3 : w2.cell? ⟨w.heap.size + 1, 1, none⟩ = some (.int .i64 yb) := by rw [cell_of_row _ _ _ _ _ _ r2]; rfl
    have HVAL2 := hid (valids_any _ _ _ (two_sees (u := w2) xa ya xb yb) (by
      intro p hp
      simp at hp
      rcases hp with rfl | rfl
      · exact HXY.out.1
      · exact HXY.out.2))
    clear hown hb2 HVAL HNL0 r1 r2
    go_wp2_with fail
    refine HVAL2.out.mono ?_
    rintro _ w4 ⟨v2, rfl, hown2, hb4⟩
    obtain ⟨ka, hka⟩ : ∃ ka, ka = preK xa ya := ⟨_, rfl⟩
    obtain ⟨kb, hkb⟩ : ∃ kb, kb = preK xb yb := ⟨_, rfl⟩
    have hkl : valL [(xa, ya), (xb, yb)] = [ka, kb] := by rw [hka, hkb]; rfl
    rw [hkl] at hown2
    have HKA : Hid ka.Ok := by unfold Hid; rw [hka]; exact preK_ok _ _ HXY.out.1.1
    have HKB : Hid kb.Ok := by unfold Hid; rw [hkb]; exact preK_ok _ _ HXY.out.2.1
    obtain ⟨g2, cap2, rfl⟩ := ownsRow_succ (k := 1) hown2
    have HOW2 := hid hown2
    have hb24 : Below w2.heap.size w2 w4 := by
      have h1 : Below w2.heap.size w2 (w2.alloc (.cells #[.int .u32 (xa : Int), .int .i64 ya, .int .u32 (xb : Int), .int .i64 yb] 32)) := (Below.refl _ _).alloc (Nat.le_refl _) _
      exact h1.trans (hb4.mono h1.size)
    have HSL4 := hid (HSL.out.below hb24)
    have HB4 : Hid (Below w.heap.size w w4) := by
      have h1 := HBV.out.trans (HB2.out.mono HBV.out.size)
      exact h1.trans (hb24.mono h1.size)
    have HNEW := hid (new_any w4)
    obtain ⟨w5, hw5⟩ : ∃ w5, w5 = w4.alloc (.cells #[.pointer none] 77) := ⟨_, rfl⟩
    rw [← hw5] at HNEW
    have hb5 : Below w4.heap.size w4 w5 := by rw [hw5]; exact (Below.refl _ _).alloc (Nat.le_refl _) _
    have HT0 : Hid (TrieAt w5 (fun b => b = w4.heap.size) w4.heap.size .nil) := by rw [hw5]; exact trie_new w4
    have HB5 := hid hb5
    obtain ⟨tb, HTB⟩ : ∃ tb, Hid (tb = w4.heap.size) := ⟨_, rfl⟩
    rw [← HTB.out] at HT0 HB5 HNEW
    unfold maxLen at hnl2
    clear hown2 hb4 hb24 hb5 hw5 HVAL2 HSL hka hkb hkl a0 a1 a2 a3 HRV HBV HB2
    go_wp2_with fail
    refine HNEW.out.mono ?_
    rintro _ _ ⟨rfl, ew⟩
    obtain rfl := ew.symm
    go_upto_region 9 with fail
    go_loopw [10] (fun i wr => ∃ (j : Nat) (T : Tr), i = .int .i64 (j : Int) ∧ j ≤ nl ∧ Hid (TrieAt wr (fun b => b = tb) tb T) ∧ Hid ((ents T).length ≤ j ∧ (0 < j → ents T ≠ [])) ∧ Hid (Below tb w4 wr)) (fun i _ => nl - (intOf i).toNat)
    case atStart => exact ⟨0, .nil, rfl, by omega, HT0, ⟨by simp [ents], fun h => absurd h (by omega)⟩, HB5⟩
    case round =>
      obtain ⟨j, T, rfl, hj, HT, HP, HB⟩ := hrel
      by_cases hjn : j < nl
      · have hsl := HB.out
        rw [HTB.out] at hsl
        obtain ⟨g, off, q, hao, hg, c0, c1, HQ⟩ := (HSL4.out.below hsl).at j hjn
        subst hao
        obtain ⟨k, hk, rfl⟩ := kp_at HQ.out
        simp only [kp] at c0 c1
        have b1 : (j : Int) < (nl : Int) := by omega
        have hok : k.Ok := HOK.out k (List.mem_of_getElem? hk)
        have HPUT := hid (put_any k (j : Int) wr HT.out hok)
        have hhl := hang_len HT.out.wf hok (j : Int)
        have HPN : Hid ((ents (hang T k (some (j : Int)))).length ≤ j + 1 ∧ (0 < j + 1 → ents (hang T k (some (j : Int))) ≠ [])) := ⟨by have := HP.out.1; omega, fun _ => hhl.2⟩
        unfold pv at HPUT
        clear hk HQ hok hsl hhl hg
        go_wp2_with fail
        refine HPUT.out.mono ?_
        rintro _ w7 ⟨rfl, hT7, hc7⟩
        have HB7 : Hid (Below tb w4 w7) := by
          have hle := Nat.le_of_lt (HT.out.lt tb rfl)
          exact ⟨hc7.os.trans HB.out.os, hc7.tape.trans HB.out.tape, hc7.output.trans HB.out.output, Nat.le_trans HB.out.size hc7.size, fun i hi => (hc7.block i (by omega) (by omega)).trans (HB.out.block i hi)⟩
        have HT7 := hid hT7
        clear hT7 hc7 c0 c1
        go_wp2_with fail
        go_roundw
        case rel => exact ⟨j + 1, _, by go_num, by omega, HT7, HPN, HB7⟩
        case measure => simp [intOf]; omega
      · have b1 : ¬ (j : Int) < (nl : Int) := by omega
        have HJN : Hid (j = nl) := by unfold Hid; omega
        have HLE0 : Hid ((ents T).length ≤ 400) := by have := HP.out.1; unfold Hid; omega
        have HTO := hid (told_any wr HT.out HLE0.out)
        obtain ⟨m, hrow, hmt, hLi⟩ := HT.out.tree
        have hwf := HT.out.wf
        subst hmt
        have HWF := hid hwf
        have HNM : Hid (nodes m.tr ≤ 10000000000) := by
          have h := WF_nodes hwf
          rw [show top.x = 0 from rfl, top_s] at h
          unfold Hid; omega
        have HTRW : Hid (TrB wr tb m) := ⟨hLi, hrow⟩
        have HBWR : Hid (Below w.heap.size w wr) := HB4.out.trans (HB.out.mono (by rw [HTB.out]; exact HB4.out.size))
        have HBW4 : Hid (Below w4.heap.size w4 wr) := by unfold Hid; rw [← HTB.out]; exact HB.out
        have HOKE : Hid (∀ k ∈ (ents m.tr).map Prod.fst, k.Ok) := fun k hk => by
          obtain ⟨e, he, rfl⟩ := List.mem_map.1 hk
          exact (ents_in hwf e he).1
        have HLE : Hid (((ents m.tr).map Prod.fst).length ≤ 400) := by unfold Hid; rw [List.length_map]; exact HLE0.out
        clear hrow hLi hwf
        go_wp2_with fail
        refine HTO.out.mono ?_
        rintro _ u0 ⟨vp, vi, rfl, hp, _, hbu⟩
        have hp' : u0.ownsRow wr.heap.size 32 2 vp ((ents m.tr).map Prod.fst).length (kcs ((ents m.tr).map Prod.fst)) := by rw [List.length_map]; exact hp
        have HSB := hid (sees_of_owns hp')
        obtain ⟨ae, ne, ce, rfl, HNE0, hne1, hne2⟩ := HSB.out.shape
        have HNE : Hid (ne = (ents m.tr).length) := by have := HNE0.out; rw [List.length_map, List.length_map] at this; exact this
        have HSA : Hid (Sees u0 (.slice ae ne ce) (((entsIn (ents m.tr) 0 0).map Prod.fst).map kp)) := by unfold Hid; rw [entsIn_all HWF.out]; exact HSB.out
        have HTR : Hid (TrB u0 tb m) := HTRW.out.below hbu
        have HB0 : Hid (Below w.heap.size w u0) := HBWR.out.trans (hbu.mono HBWR.out.size)
        have HOW0 : Hid (u0.ownsRow (w2.alloc (.cells #[.int .u32 (xa : Int), .int .i64 ya, .int .u32 (xb : Int), .int .i64 yb] 32)).heap.size 32 2 (.slice (some ⟨g2, 0, none⟩) 2 cap2) 2 (kcs [ka, kb])) := owns_below (owns_below HOW2.out HBW4.out) hbu
        have HCE : Hid (∀ u, Below u0.heap.size u0 u → u.cell? ⟨g2, 0, none⟩ = some (.int .u32 (ka.x : Int)) ∧ u.cell? ⟨g2, 1, none⟩ = some (.int .i64 (ka.n : Int)) ∧ u.cell? ⟨g2, 2, none⟩ = some (.int .u32 (kb.x : Int)) ∧ u.cell? ⟨g2, 3, none⟩ = some (.int .i64 (kb.n : Int))) := fun u hu => by
          have h := owns_below HOW0.out hu
          exact ⟨h.cellAt 0 (by omega), h.cellAt 1 (by omega), h.cellAt 2 (by omega), h.cellAt 3 (by omega)⟩
        have HC0 : Hid (Below u0.heap.size u0 u0) := Below.refl _ _
        have hcase : (0 < nl ∧ ne ≠ 0) ∨ ¬ 0 < nl := by
          by_cases h : 0 < nl
          · refine .inl ⟨h, fun h0 => ?_⟩
            have h1 := HP.out.2 (by have := HJN.out; omega)
            rw [HNE.out] at h0
            exact h1 (List.eq_nil_of_length_eq_zero h0)
          · exact .inr h
        clear hp hp' hbu HNE0 HTO HP HT HOW2 HOW0 HTRW b1 hjn hj HLE0
        unfold maxLen at hne2
        rcases hcase with ⟨hc1, hc2⟩ | hc1
        · have e1 : (0 : Int) < (nl : Int) := by omega
          have e2 : ((ne : Int) == 0) = false := by simp; omega
          clear hc1 hc2
          have HQ1 := hid (all_seq u0 (HTR.out.below HC0.out))
          go_wp2_with fail
          refine HQ1.out.mono ?_
          rintro _ u1 ⟨p1, t1, rfl, hs1, hb1⟩
          have HC1 : Hid (Below u0.heap.size u0 u1) := HC0.out.trans (hb1.mono HC0.out.size)
          have HB1 := hid hb1
          have HS1 : Hid (SeqB u1 (fun b => b = tb) p1 t1 tb 0 0 m) := hs1
          clear hs1 hb1 HQ1
          have HQ2 := hid (all_seq u1 (HTR.out.below HC1.out))
          go_wp2_with fail
          refine HQ2.out.mono ?_
          rintro _ u2 ⟨p2, t2, rfl, hs2, hb2⟩
          have HC2 : Hid (Below u0.heap.size u0 u2) := HC1.out.trans (hb2.mono HC1.out.size)
          have HB2 := hid hb2
          have HS2 : Hid (SeqB u2 (fun b => b = tb) p2 t2 tb 0 0 m) := hs2
          clear hs2 hb2 HQ2
          have HQ3 := hid (nested_any (HS1.out.below HB2.out) HS2.out (by omega) (by omega) HWF.out HNM.out ((HSA.out.below HB1.out).below HB2.out) ((HSA.out.below HB1.out).below HB2.out))
          go_wp2_with fail
          refine HQ3.out.mono ?_
          rintro _ u3 ⟨rfl, hb3⟩
          have HC3 : Hid (Below u0.heap.size u0 u3) := HC2.out.trans (hb3.mono HC2.out.size)
          have HB3 := hid hb3
          clear hb3 HQ3
          have HQ4 := hid (all_seq u3 (HTR.out.below HC3.out))
          go_wp2_with fail
          refine HQ4.out.mono ?_
          rintro _ u4 ⟨p4, t4, rfl, hs4, hb4⟩
          have HC4 : Hid (Below u0.heap.size u0 u4) := HC3.out.trans (hb4.mono HC3.out.size)
          have HB4 := hid hb4
          have HS4 : Hid (SeqB u4 (fun b => b = tb) p4 t4 tb 0 0 m) := hs4
          clear hs4 hb4 HQ4
          have HQ5 := hid (nested_any HS4.out HS4.out (by omega) (by omega) HWF.out HNM.out ((((HSA.out.below HB1.out).below HB2.out).below HB3.out).below HB4.out) ((((HSA.out.below HB1.out).below HB2.out).below HB3.out).below HB4.out))
          go_wp2_with fail
          refine HQ5.out.mono ?_
          rintro _ u5 ⟨rfl, hb5⟩
          have HC5 : Hid (Below u0.heap.size u0 u5) := HC4.out.trans (hb5.mono HC4.out.size)
          have HB5 := hid hb5
          clear hb5 HQ5
          go_upto_region 19 with fail
          refine wp_region_mono' 10 (fun i => 85 + i) (FWn (.slice ae ne ce) (.slice (some ⟨g2, 0, none⟩) 2 cap2) g2 ka kb w.heap.size ((ents m.tr).map Prod.fst)) (by kernel_rfl) (by kernel_rfl) (FWn.keeps _ _ _ _ _ _ _) ?_ ?_
          · simp only [List.take_succ_cons, List.take_zero, N.stepsOk]
            refine ⟨?_, ?_, ?_, ?_, ?_, ?_, ?_, ?_, ?_, ?_, trivial⟩
            · intro a u vs hb hold hdep
              exact wp_val (ex_move (.tmp 11) _ rfl (hold 11 (fun j hj => low (by decide)))) ⟨_, rfl, rfl, hb, Below.refl _ _⟩
            · intro a u vs hb hold hdep
              exact wp_val (ex_move (.tmp 8) _ rfl (hold 8 (fun j hj => low (by decide)))) ⟨_, rfl, rfl, hb, Below.refl _ _⟩
            · intro a u vs hb hold hdep
              have h1 := hdep ⟨1, .data⟩ (by simp) rfl (by decide)
              exact wp_val (ex_index _ (.tmp 86) (.const (.int .i64 0)) _ _ _ rfl (h1.1.trans h1.2) rfl (idx_two0 u)) ⟨_, rfl, rfl, hb, Below.refl _ _⟩
            · intro a u vs hb hold hdep
              have h2 := hdep ⟨2, .data⟩ (by simp) rfl (by decide)
              have hcu := HCE.out u (HC5.out.trans (hb.mono HC5.out.size))
              exact wp_val (ex_load _ _ (.tmp 87) _ rfl (h2.1.trans h2.2) (load_pre hcu.1 hcu.2.1)) ⟨_, rfl, rfl, hb, Below.refl _ _⟩
            · intro a u vs hb hold hdep
              have h0 := hdep ⟨0, .data⟩ (by simp) rfl (by decide)
              have h3 := hdep ⟨3, .data⟩ (by simp) rfl (by decide)
              have e0 : a.eval (.tmp 85) = .slice ae ne ce := h0.1.trans h0.2
              have e3 : a.eval (.tmp 88) = pv ka := h3.1.trans h3.2
              refine wp_call 29 _ _ rfl (enters_of Try.func29 (by kernel_rfl) rfl) #[.slice ae ne ce, pv ka] (by simp only [List.map_toArray, List.map_cons, List.map_nil, e0, e3]) ?_
              have hub := HC5.out.trans (hb.mono HC5.out.size)
              refine (within_any _ _ ka u (HSB.out.below hub) HKA.out HOKE.out HLE.out).mono ?_
              rintro _ u' ⟨v', rfl, ho', hb'⟩
              exact ⟨_, rfl, _, rfl, row_base' ho' (Nat.le_trans HB0.out.size hub.size), hb.trans (hb'.mono hb.size), hb'⟩
            · intro a u vs hb hold hdep
              exact wp_val (ex_move (.tmp 11) _ rfl (hold 11 (fun j hj => low (by decide)))) ⟨_, rfl, rfl, hb, Below.refl _ _⟩
            · intro a u vs hb hold hdep
              exact wp_val (ex_move (.tmp 8) _ rfl (hold 8 (fun j hj => low (by decide)))) ⟨_, rfl, rfl, hb, Below.refl _ _⟩
            · intro a u vs hb hold hdep
              have h1 := hdep ⟨6, .data⟩ (by simp) rfl (by decide)
              exact wp_val (ex_index _ (.tmp 91) (.const (.int .i64 1)) _ _ _ rfl (h1.1.trans h1.2) rfl (idx_two1 u)) ⟨_, rfl, rfl, hb, Below.refl _ _⟩
            · intro a u vs hb hold hdep
              have h2 := hdep ⟨7, .data⟩ (by simp) rfl (by decide)
              have hcu := HCE.out u (HC5.out.trans (hb.mono HC5.out.size))
              exact wp_val (ex_load _ _ (.tmp 92) _ rfl (h2.1.trans h2.2) (load_pre hcu.2.2.1 hcu.2.2.2)) ⟨_, rfl, rfl, hb, Below.refl _ _⟩
            · intro a u vs hb hold hdep
              have h0 := hdep ⟨5, .data⟩ (by simp) rfl (by decide)
              have h3 := hdep ⟨8, .data⟩ (by simp) rfl (by decide)
              have e0 : a.eval (.tmp 90) = .slice ae ne ce := h0.1.trans h0.2
              have e3 : a.eval (.tmp 93) = pv kb := h3.1.trans h3.2
              refine wp_call 29 _ _ rfl (enters_of Try.func29 (by kernel_rfl) rfl) #[.slice ae ne ce, pv kb] (by simp only [List.map_toArray, List.map_cons, List.map_nil, e0, e3]) ?_
              have hub := HC5.out.trans (hb.mono HC5.out.size)
              refine (within_any _ _ kb u (HSB.out.below hub) HKB.out HOKE.out HLE.out).mono ?_
              rintro _ u' ⟨v', rfl, ho', hb'⟩
              exact ⟨_, rfl, _, rfl, row_base' ho' (Nat.le_trans HB0.out.size hub.size), hb.trans (hb'.mono hb.size), hb'⟩
          intro vs u6 hb6 hF
          have ha : u6.ownsRow w.heap.size 32 2 (vs 4) (((ents m.tr).map Prod.fst).filter (inK ka)).length (kcs (((ents m.tr).map Prod.fst).filter (inK ka))) := hF 4 (by decide)
          have hbb : u6.ownsRow w.heap.size 32 2 (vs 9) (((ents m.tr).map Prod.fst).filter (inK kb)).length (kcs (((ents m.tr).map Prod.fst).filter (inK kb))) := hF 9 (by decide)
          have HSEA : Hid (Sees u6 (vs 4) (((entsIn (ents m.tr) ka.x (ka.n : Int)).map Prod.fst).map kp)) := by unfold Hid; rw [keys_in HKA.out]; exact sees_of_owns ha
          have HSEB : Hid (Sees u6 (vs 9) (((entsIn (ents m.tr) kb.x (kb.n : Int)).map Prod.fst).map kp)) := by unfold Hid; rw [keys_in HKB.out]; exact sees_of_owns hbb
          have HC6 : Hid (Below u0.heap.size u0 u6) := HC5.out.trans (hb6.mono HC5.out.size)
          have HB6 := hid hb6
          clear hF ha hbb hb6
          simp only [List.drop_succ_cons, List.drop_zero, puts, List.range, List.range.loop, List.foldr, Nat.reduceAdd, if_true, Act.put, List.setIfInBounds_toArray, List.set_cons_zero, List.set_cons_succ]
          generalize vs 0 = y0
          generalize vs 1 = y1
          generalize vs 2 = y2
          generalize vs 3 = y3
          generalize vs 4 = va at *
          generalize vs 5 = y5
          generalize vs 6 = y6
          generalize vs 7 = y7
          generalize vs 8 = y8
          generalize vs 9 = vb at *
          have HQ7 := hid (within_seq (x := ka.x) (y := (ka.n : Int)) u6 (HTR.out.below HC6.out))
          unfold qv at HQ7
          have d00 : u6.cell? ⟨g2, 0, none⟩ = some (.int .u32 (ka.x : Int)) := (HCE.out u6 HC6.out).1
          have d01 : u6.cell? ⟨g2, 1, none⟩ = some (.int .i64 (ka.n : Int)) := (HCE.out u6 HC6.out).2.1
          go_wp2_with fail
          refine HQ7.out.mono ?_
          rintro _ u7 ⟨px, tx, rfl, hs7, hb7⟩
          have HC7 : Hid (Below u0.heap.size u0 u7) := HC6.out.trans (hb7.mono HC6.out.size)
          have HB7 := hid hb7
          have HSx : Hid (SeqB u7 (fun b => b = tb) px tx tb ka.x (ka.n : Int) m) := hs7
          clear hs7 hb7 HQ7 d00 d01
          have HQ8 := hid (within_seq (x := kb.x) (y := (kb.n : Int)) u7 (HTR.out.below HC7.out))
          unfold qv at HQ8
          have d20 : u7.cell? ⟨g2, 2, none⟩ = some (.int .u32 (kb.x : Int)) := (HCE.out u7 HC7.out).2.2.1
          have d21 : u7.cell? ⟨g2, 3, none⟩ = some (.int .i64 (kb.n : Int)) := (HCE.out u7 HC7.out).2.2.2
          go_wp2_with fail
          refine HQ8.out.mono ?_
          rintro _ u8 ⟨py, ty, rfl, hs8, hb8⟩
          have HC8 : Hid (Below u0.heap.size u0 u8) := HC7.out.trans (hb8.mono HC7.out.size)
          have HB8 := hid hb8
          have HSy : Hid (SeqB u8 (fun b => b = tb) py ty tb kb.x (kb.n : Int) m) := hs8
          clear hs8 hb8 HQ8 d20 d21
          have HQ9 := hid (nested_any (HSx.out.below HB8.out) (HSx.out.below HB8.out) HKA.out.2.2 HKA.out.2.2 HWF.out HNM.out ((HSEA.out.below HB7.out).below HB8.out) ((HSEA.out.below HB7.out).below HB8.out))
          go_wp2_with fail
          refine HQ9.out.mono ?_
          rintro _ u9 ⟨rfl, hb9⟩
          have HC9 : Hid (Below u0.heap.size u0 u9) := HC8.out.trans (hb9.mono HC8.out.size)
          have HB9 := hid hb9
          clear hb9 HQ9
          have HQ10 := hid (nested_any ((HSx.out.below HB8.out).below HB9.out) (HSy.out.below HB9.out) HKA.out.2.2 HKB.out.2.2 HWF.out HNM.out (((HSEA.out.below HB7.out).below HB8.out).below HB9.out) (((HSEB.out.below HB7.out).below HB8.out).below HB9.out))
          go_wp2_with fail
          refine HQ10.out.mono ?_
          rintro _ u10 ⟨rfl, hb10⟩
          have HC10 : Hid (Below u0.heap.size u0 u10) := HC9.out.trans (hb10.mono HC9.out.size)
          have HB10 := hid hb10
          clear hb10 HQ10
          have HQ11 := hid (nested_any ((HSy.out.below HB9.out).below HB10.out) (((HSx.out.below HB8.out).below HB9.out).below HB10.out) HKB.out.2.2 HKA.out.2.2 HWF.out HNM.out ((((HSEB.out.below HB7.out).below HB8.out).below HB9.out).below HB10.out) ((((HSEA.out.below HB7.out).below HB8.out).below HB9.out).below HB10.out))
          go_wp2_with fail
          refine HQ11.out.mono ?_
          rintro _ u11 ⟨rfl, hb11⟩
          have HC11 : Hid (Below u0.heap.size u0 u11) := HC10.out.trans (hb11.mono HC10.out.size)
          have HB11 := hid hb11
          clear hb11 HQ11
          have HQ12 := hid (nested_any (((((((HS4.out.below HB5.out).below HB6.out).below HB7.out).below HB8.out).below HB9.out).below HB10.out).below HB11.out) ((((HSx.out.below HB8.out).below HB9.out).below HB10.out).below HB11.out) (by omega) HKA.out.2.2 HWF.out HNM.out (((((((((((HSA.out.below HB1.out).below HB2.out).below HB3.out).below HB4.out).below HB5.out).below HB6.out).below HB7.out).below HB8.out).below HB9.out).below HB10.out).below HB11.out) (((((HSEA.out.below HB7.out).below HB8.out).below HB9.out).below HB10.out).below HB11.out))
          go_wp2_with fail
          refine HQ12.out.mono ?_
          rintro _ u12 ⟨rfl, hb12⟩
          have HC12 : Hid (Below u0.heap.size u0 u12) := HC11.out.trans (hb12.mono HC11.out.size)
          have HB12 := hid hb12
          clear hb12 HQ12
          have HQ13 := hid (nested_any (((((HSx.out.below HB8.out).below HB9.out).below HB10.out).below HB11.out).below HB12.out) ((((((((HS4.out.below HB5.out).below HB6.out).below HB7.out).below HB8.out).below HB9.out).below HB10.out).below HB11.out).below HB12.out) HKA.out.2.2 (by omega) HWF.out HNM.out ((((((HSEA.out.below HB7.out).below HB8.out).below HB9.out).below HB10.out).below HB11.out).below HB12.out) ((((((((((((HSA.out.below HB1.out).below HB2.out).below HB3.out).below HB4.out).below HB5.out).below HB6.out).below HB7.out).below HB8.out).below HB9.out).below HB10.out).below HB11.out).below HB12.out))
          go_wp2_with fail
          refine HQ13.out.mono ?_
          rintro _ u13 ⟨rfl, hb13⟩
          have HC13 : Hid (Below u0.heap.size u0 u13) := HC12.out.trans (hb13.mono HC12.out.size)
          have HB13 := hid hb13
          clear hb13 HQ13
          go_wp2_with fail
          go_ret
          exact ⟨rfl, HB0.out.trans (HC13.out.mono HB0.out.size)⟩
        · have e1 : ¬ (0 : Int) < (nl : Int) := by omega
          clear hc1
          have HQ1 := hid (all_seq u0 (HTR.out.below HC0.out))
          go_wp2_with fail
          refine HQ1.out.mono ?_
          rintro _ u1 ⟨p1, t1, rfl, hs1, hb1⟩
          have HC1 : Hid (Below u0.heap.size u0 u1) := HC0.out.trans (hb1.mono HC0.out.size)
          have HB1 := hid hb1
          have HS1 : Hid (SeqB u1 (fun b => b = tb) p1 t1 tb 0 0 m) := hs1
          clear hs1 hb1 HQ1
          have HQ2 := hid (all_seq u1 (HTR.out.below HC1.out))
          go_wp2_with fail
          refine HQ2.out.mono ?_
          rintro _ u2 ⟨p2, t2, rfl, hs2, hb2⟩
          have HC2 : Hid (Below u0.heap.size u0 u2) := HC1.out.trans (hb2.mono HC1.out.size)
          have HB2 := hid hb2
          have HS2 : Hid (SeqB u2 (fun b => b = tb) p2 t2 tb 0 0 m) := hs2
          clear hs2 hb2 HQ2
          have HQ3 := hid (nested_any (HS1.out.below HB2.out) HS2.out (by omega) (by omega) HWF.out HNM.out ((HSA.out.below HB1.out).below HB2.out) ((HSA.out.below HB1.out).below HB2.out))
          go_wp2_with fail
          refine HQ3.out.mono ?_
          rintro _ u3 ⟨rfl, hb3⟩
          have HC3 : Hid (Below u0.heap.size u0 u3) := HC2.out.trans (hb3.mono HC2.out.size)
          have HB3 := hid hb3
          clear hb3 HQ3
          have HQ4 := hid (all_seq u3 (HTR.out.below HC3.out))
          go_wp2_with fail
          refine HQ4.out.mono ?_
          rintro _ u4 ⟨p4, t4, rfl, hs4, hb4⟩
          have HC4 : Hid (Below u0.heap.size u0 u4) := HC3.out.trans (hb4.mono HC3.out.size)
          have HB4 := hid hb4
          have HS4 : Hid (SeqB u4 (fun b => b = tb) p4 t4 tb 0 0 m) := hs4
          clear hs4 hb4 HQ4
          have HQ5 := hid (nested_any HS4.out HS4.out (by omega) (by omega) HWF.out HNM.out ((((HSA.out.below HB1.out).below HB2.out).below HB3.out).below HB4.out) ((((HSA.out.below HB1.out).below HB2.out).below HB3.out).below HB4.out))
          go_wp2_with fail
          refine HQ5.out.mono ?_
          rintro _ u5 ⟨rfl, hb5⟩
          have HC5 : Hid (Below u0.heap.size u0 u5) := HC4.out.trans (hb5.mono HC4.out.size)
          have HB5 := hid hb5
          clear hb5 HQ5
          go_upto_region 19 with fail
          refine wp_region_mono' 10 (fun i => 85 + i) (FWn (.slice ae ne ce) (.slice (some ⟨g2, 0, none⟩) 2 cap2) g2 ka kb w.heap.size ((ents m.tr).map Prod.fst)) (by kernel_rfl) (by kernel_rfl) (FWn.keeps _ _ _ _ _ _ _) ?_ ?_
          · simp only [List.take_succ_cons, List.take_zero, N.stepsOk]
            refine ⟨?_, ?_, ?_, ?_, ?_, ?_, ?_, ?_, ?_, ?_, trivial⟩
            · intro a u vs hb hold hdep
              exact wp_val (ex_move (.tmp 11) _ rfl (hold 11 (fun j hj => low (by decide)))) ⟨_, rfl, rfl, hb, Below.refl _ _⟩
            · intro a u vs hb hold hdep
              exact wp_val (ex_move (.tmp 8) _ rfl (hold 8 (fun j hj => low (by decide)))) ⟨_, rfl, rfl, hb, Below.refl _ _⟩
            · intro a u vs hb hold hdep
              have h1 := hdep ⟨1, .data⟩ (by simp) rfl (by decide)
              exact wp_val (ex_index _ (.tmp 86) (.const (.int .i64 0)) _ _ _ rfl (h1.1.trans h1.2) rfl (idx_two0 u)) ⟨_, rfl, rfl, hb, Below.refl _ _⟩
            · intro a u vs hb hold hdep
              have h2 := hdep ⟨2, .data⟩ (by simp) rfl (by decide)
              have hcu := HCE.out u (HC5.out.trans (hb.mono HC5.out.size))
              exact wp_val (ex_load _ _ (.tmp 87) _ rfl (h2.1.trans h2.2) (load_pre hcu.1 hcu.2.1)) ⟨_, rfl, rfl, hb, Below.refl _ _⟩
            · intro a u vs hb hold hdep
              have h0 := hdep ⟨0, .data⟩ (by simp) rfl (by decide)
              have h3 := hdep ⟨3, .data⟩ (by simp) rfl (by decide)
              have e0 : a.eval (.tmp 85) = .slice ae ne ce := h0.1.trans h0.2
              have e3 : a.eval (.tmp 88) = pv ka := h3.1.trans h3.2
              refine wp_call 29 _ _ rfl (enters_of Try.func29 (by kernel_rfl) rfl) #[.slice ae ne ce, pv ka] (by simp only [List.map_toArray, List.map_cons, List.map_nil, e0, e3]) ?_
              have hub := HC5.out.trans (hb.mono HC5.out.size)
              refine (within_any _ _ ka u (HSB.out.below hub) HKA.out HOKE.out HLE.out).mono ?_
              rintro _ u' ⟨v', rfl, ho', hb'⟩
              exact ⟨_, rfl, _, rfl, row_base' ho' (Nat.le_trans HB0.out.size hub.size), hb.trans (hb'.mono hb.size), hb'⟩
            · intro a u vs hb hold hdep
              exact wp_val (ex_move (.tmp 11) _ rfl (hold 11 (fun j hj => low (by decide)))) ⟨_, rfl, rfl, hb, Below.refl _ _⟩
            · intro a u vs hb hold hdep
              exact wp_val (ex_move (.tmp 8) _ rfl (hold 8 (fun j hj => low (by decide)))) ⟨_, rfl, rfl, hb, Below.refl _ _⟩
            · intro a u vs hb hold hdep
              have h1 := hdep ⟨6, .data⟩ (by simp) rfl (by decide)
              exact wp_val (ex_index _ (.tmp 91) (.const (.int .i64 1)) _ _ _ rfl (h1.1.trans h1.2) rfl (idx_two1 u)) ⟨_, rfl, rfl, hb, Below.refl _ _⟩
            · intro a u vs hb hold hdep
              have h2 := hdep ⟨7, .data⟩ (by simp) rfl (by decide)
              have hcu := HCE.out u (HC5.out.trans (hb.mono HC5.out.size))
              exact wp_val (ex_load _ _ (.tmp 92) _ rfl (h2.1.trans h2.2) (load_pre hcu.2.2.1 hcu.2.2.2)) ⟨_, rfl, rfl, hb, Below.refl _ _⟩
            · intro a u vs hb hold hdep
              have h0 := hdep ⟨5, .data⟩ (by simp) rfl (by decide)
              have h3 := hdep ⟨8, .data⟩ (by simp) rfl (by decide)
              have e0 : a.eval (.tmp 90) = .slice ae ne ce := h0.1.trans h0.2
              have e3 : a.eval (.tmp 93) = pv kb := h3.1.trans h3.2
              refine wp_call 29 _ _ rfl (enters_of Try.func29 (by kernel_rfl) rfl) #[.slice ae ne ce, pv kb] (by simp only [List.map_toArray, List.map_cons, List.map_nil, e0, e3]) ?_
              have hub := HC5.out.trans (hb.mono HC5.out.size)
              refine (within_any _ _ kb u (HSB.out.below hub) HKB.out HOKE.out HLE.out).mono ?_
              rintro _ u' ⟨v', rfl, ho', hb'⟩
              exact ⟨_, rfl, _, rfl, row_base' ho' (Nat.le_trans HB0.out.size hub.size), hb.trans (hb'.mono hb.size), hb'⟩
          intro vs u6 hb6 hF
          have ha : u6.ownsRow w.heap.size 32 2 (vs 4) (((ents m.tr).map Prod.fst).filter (inK ka)).length (kcs (((ents m.tr).map Prod.fst).filter (inK ka))) := hF 4 (by decide)
          have hbb : u6.ownsRow w.heap.size 32 2 (vs 9) (((ents m.tr).map Prod.fst).filter (inK kb)).length (kcs (((ents m.tr).map Prod.fst).filter (inK kb))) := hF 9 (by decide)
          have HSEA : Hid (Sees u6 (vs 4) (((entsIn (ents m.tr) ka.x (ka.n : Int)).map Prod.fst).map kp)) := by unfold Hid; rw [keys_in HKA.out]; exact sees_of_owns ha
          have HSEB : Hid (Sees u6 (vs 9) (((entsIn (ents m.tr) kb.x (kb.n : Int)).map Prod.fst).map kp)) := by unfold Hid; rw [keys_in HKB.out]; exact sees_of_owns hbb
          have HC6 : Hid (Below u0.heap.size u0 u6) := HC5.out.trans (hb6.mono HC5.out.size)
          have HB6 := hid hb6
          clear hF ha hbb hb6
          simp only [List.drop_succ_cons, List.drop_zero, puts, List.range, List.range.loop, List.foldr, Nat.reduceAdd, if_true, Act.put, List.setIfInBounds_toArray, List.set_cons_zero, List.set_cons_succ]
          generalize vs 0 = y0
          generalize vs 1 = y1
          generalize vs 2 = y2
          generalize vs 3 = y3
          generalize vs 4 = va at *
          generalize vs 5 = y5
          generalize vs 6 = y6
          generalize vs 7 = y7
          generalize vs 8 = y8
          generalize vs 9 = vb at *
          have HQ7 := hid (within_seq (x := ka.x) (y := (ka.n : Int)) u6 (HTR.out.below HC6.out))
          unfold qv at HQ7
          have d00 : u6.cell? ⟨g2, 0, none⟩ = some (.int .u32 (ka.x : Int)) := (HCE.out u6 HC6.out).1
          have d01 : u6.cell? ⟨g2, 1, none⟩ = some (.int .i64 (ka.n : Int)) := (HCE.out u6 HC6.out).2.1
          go_wp2_with fail
          refine HQ7.out.mono ?_
          rintro _ u7 ⟨px, tx, rfl, hs7, hb7⟩
          have HC7 : Hid (Below u0.heap.size u0 u7) := HC6.out.trans (hb7.mono HC6.out.size)
          have HB7 := hid hb7
          have HSx : Hid (SeqB u7 (fun b => b = tb) px tx tb ka.x (ka.n : Int) m) := hs7
          clear hs7 hb7 HQ7 d00 d01
          have HQ8 := hid (within_seq (x := kb.x) (y := (kb.n : Int)) u7 (HTR.out.below HC7.out))
          unfold qv at HQ8
          have d20 : u7.cell? ⟨g2, 2, none⟩ = some (.int .u32 (kb.x : Int)) := (HCE.out u7 HC7.out).2.2.1
          have d21 : u7.cell? ⟨g2, 3, none⟩ = some (.int .i64 (kb.n : Int)) := (HCE.out u7 HC7.out).2.2.2
          go_wp2_with fail
          refine HQ8.out.mono ?_
          rintro _ u8 ⟨py, ty, rfl, hs8, hb8⟩
          have HC8 : Hid (Below u0.heap.size u0 u8) := HC7.out.trans (hb8.mono HC7.out.size)
          have HB8 := hid hb8
          have HSy : Hid (SeqB u8 (fun b => b = tb) py ty tb kb.x (kb.n : Int) m) := hs8
          clear hs8 hb8 HQ8 d20 d21
          have HQ9 := hid (nested_any (HSx.out.below HB8.out) (HSx.out.below HB8.out) HKA.out.2.2 HKA.out.2.2 HWF.out HNM.out ((HSEA.out.below HB7.out).below HB8.out) ((HSEA.out.below HB7.out).below HB8.out))
          go_wp2_with fail
          refine HQ9.out.mono ?_
          rintro _ u9 ⟨rfl, hb9⟩
          have HC9 : Hid (Below u0.heap.size u0 u9) := HC8.out.trans (hb9.mono HC8.out.size)
          have HB9 := hid hb9
          clear hb9 HQ9
          have HQ10 := hid (nested_any ((HSx.out.below HB8.out).below HB9.out) (HSy.out.below HB9.out) HKA.out.2.2 HKB.out.2.2 HWF.out HNM.out (((HSEA.out.below HB7.out).below HB8.out).below HB9.out) (((HSEB.out.below HB7.out).below HB8.out).below HB9.out))
          go_wp2_with fail
          refine HQ10.out.mono ?_
          rintro _ u10 ⟨rfl, hb10⟩
          have HC10 : Hid (Below u0.heap.size u0 u10) := HC9.out.trans (hb10.mono HC9.out.size)
          have HB10 := hid hb10
          clear hb10 HQ10
          have HQ11 := hid (nested_any ((HSy.out.below HB9.out).below HB10.out) (((HSx.out.below HB8.out).below HB9.out).below HB10.out) HKB.out.2.2 HKA.out.2.2 HWF.out HNM.out ((((HSEB.out.below HB7.out).below HB8.out).below HB9.out).below HB10.out) ((((HSEA.out.below HB7.out).below HB8.out).below HB9.out).below HB10.out))
          go_wp2_with fail
          refine HQ11.out.mono ?_
          rintro _ u11 ⟨rfl, hb11⟩
          have HC11 : Hid (Below u0.heap.size u0 u11) := HC10.out.trans (hb11.mono HC10.out.size)
          have HB11 := hid hb11
          clear hb11 HQ11
          have HQ12 := hid (nested_any (((((((HS4.out.below HB5.out).below HB6.out).below HB7.out).below HB8.out).below HB9.out).below HB10.out).below HB11.out) ((((HSx.out.below HB8.out).below HB9.out).below HB10.out).below HB11.out) (by omega) HKA.out.2.2 HWF.out HNM.out (((((((((((HSA.out.below HB1.out).below HB2.out).below HB3.out).below HB4.out).below HB5.out).below HB6.out).below HB7.out).below HB8.out).below HB9.out).below HB10.out).below HB11.out) (((((HSEA.out.below HB7.out).below HB8.out).below HB9.out).below HB10.out).below HB11.out))
          go_wp2_with fail
          refine HQ12.out.mono ?_
          rintro _ u12 ⟨rfl, hb12⟩
          have HC12 : Hid (Below u0.heap.size u0 u12) := HC11.out.trans (hb12.mono HC11.out.size)
          have HB12 := hid hb12
          clear hb12 HQ12
          have HQ13 := hid (nested_any (((((HSx.out.below HB8.out).below HB9.out).below HB10.out).below HB11.out).below HB12.out) ((((((((HS4.out.below HB5.out).below HB6.out).below HB7.out).below HB8.out).below HB9.out).below HB10.out).below HB11.out).below HB12.out) HKA.out.2.2 (by omega) HWF.out HNM.out ((((((HSEA.out.below HB7.out).below HB8.out).below HB9.out).below HB10.out).below HB11.out).below HB12.out) ((((((((((((HSA.out.below HB1.out).below HB2.out).below HB3.out).below HB4.out).below HB5.out).below HB6.out).below HB7.out).below HB8.out).below HB9.out).below HB10.out).below HB11.out).below HB12.out))
          go_wp2_with fail
          refine HQ13.out.mono ?_
          rintro _ u13 ⟨rfl, hb13⟩
          have HC13 : Hid (Below u0.heap.size u0 u13) := HC12.out.trans (hb13.mono HC12.out.size)
          have HB13 := hid hb13
          clear hb13 HQ13
          go_wp2_with fail
          go_ret
          exact ⟨rfl, HB0.out.trans (HC13.out.mono HB0.out.size)⟩
end Go.Proofs.Ytmnafocmbcgdiaa
