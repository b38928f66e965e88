/-
  TunnelFrames: the walk.
-/
import Derived.Test.YtcelcnafcfefhaaTW
import Derived.Deep.CutRange
namespace Go.Proofs.Ytcelcnafcfefhaa.N
open Go.ChangeShapes Go.WideShapes Go.ChangeAt Go.RowKit
set_option maxHeartbeats 8000000
set_option maxRecDepth 100000

theorem tunnelFrames_walk (v : Value) (Ls : List (List Nat)) (v2 : Value) (Os : List FrD) (w : World) (hv : SeesBB w v Ls) (hl : ∀ l ∈ Ls, l.length ≤ reachBytes) (hv2 : SeesR w v2 14 (Os.map FrD.cells)) (ho : ∀ o ∈ Os, o.Ok w) :
    Calls Try.prog 4 #[v, v2] w fun e w' => e = .returned (.bool true) ∧ Below w.heap.size w w' := by
  obtain ⟨ar, n1, cap1, rfl, HN1, hn1, hc1⟩ := hv.shape
  obtain ⟨ao, cap, rfl, hnc, hcap, hcell⟩ := hv2
  obtain ⟨n, hn⟩ : ∃ n, n = Os.length := ⟨_, rfl⟩
  have hlen : (Os.map FrD.cells).length = n := by rw [List.length_map, hn]
  rw [hlen] at hnc ⊢
  have HC : Hid (∀ j (h : j < n), ∃ (o : FrD) (g off : Nat), o.Ok w ∧ ao = some ⟨g, off, none⟩ ∧ g < w.heap.size ∧ w.rangeAt g (off + j * 14) o.cells) := fun j h => by
    obtain ⟨_, g, off, h1, h2, h3⟩ := hcell j (by rw [hlen]; exact h)
    have hj : j < Os.length := by rw [← hn]; exact h
    refine ⟨Os[j], g, off, ho _ (List.getElem_mem _), h1, h2, ?_⟩
    simpa using h3
  have HR : Hid (∀ (j : Nat) (u : World), j < n1 → Below w.heap.size w u → ∃ (g off : Nat) (x : Value) (l : List Nat), ar = some ⟨g, off, none⟩ ∧ u.cell? ⟨g, off + j, none⟩ = some x ∧ SeesB w x l ∧ l.length ≤ 140737488351232) := fun j u hj hu => by
    obtain ⟨g, off, x, l, h1, hg, h3, h4, h5⟩ := hv.at j hj
    have hm := hl l (List.mem_of_getElem? h5.out)
    unfold reachBytes at hm
    exact ⟨g, off, x, l, h1, (hu.cell (p := ⟨g, off + j, none⟩) hg).trans h3, h4, by omega⟩
  have HBE := hid (begun_any w)
  unfold maxLen at hcap hc1
  clear hcell ho hn hlen hv hl
  go_enter Try.func4, Try.ntmps4
  go_wp2_with fail
  refine HBE.out.mono ?_
  rintro _ w1 ⟨rfl, hb1⟩
  go_wp2_with fail
  go_loopw [5, 6, 7, 8] (fun _ i _ _ wv => ∃ (k : Nat) (wr : World), i = .int .i64 (k : Int) ∧ k ≤ n + n1 ∧ wr = wv ∧ Below w.heap.size w wr) (fun _ i _ _ _ => n + n1 - (intOf i).toNat)
  case atStart => exact ⟨0, _, rfl, by omega, rfl, hb1⟩
  case round =>
    clear hb1
    obtain ⟨k, wr, rfl, hk, rfl, hb⟩ := hrel
    by_cases hlt : k < n1 ∨ k < n
    · obtain ⟨wz, hwz⟩ : ∃ wz, wz = wr.alloc (.cells zeroF 41) := ⟨_, rfl⟩
      obtain ⟨q, hq⟩ : ∃ q, q = wr.heap.size := ⟨_, rfl⟩
      have hbz : Below w.heap.size w wz := by rw [hwz]; exact hb.alloc hb.size _
      have hrz : wz.heap[q]? = some (.cells zeroF 41 (0, 0)) := by rw [hwz, hq]; exact heap_alloc_new wr _
      have HWZ := hid hwz
      unfold zeroF at HWZ
      have HQ := hid hq
      have HBZ := hid hbz
      have HRZ := hid hrz
      have HWQ : Hid (w.heap.size ≤ q) := by unfold Hid; rw [hq]; exact hb.size
      have hk63 : (k : Int) ≤ 9223372036854775806 := by omega
      have HLT := hid hlt
      clear hwz hq hbz hrz hlt
      go_upto_region 5 with fail
      go_cut [21] from 12 to 44 (fun c wx => c = .bool true ∧ wx = wr)
      case first =>
        by_cases h1 : k < n1
        · have h1' : (k : Int) < (n1 : Int) := by omega
          go_wp2_with fail
          go_meet
          case rel => exact ⟨rfl, rfl⟩
        · have h1' : ¬ (k : Int) < (n1 : Int) := by omega
          have h2' : (k : Int) < (n : Int) := by have := HLT.out; omega
          go_wp2_with fail
          go_meet
          case rel => exact ⟨rfl, rfl⟩
      case rest =>
      obtain ⟨rfl, hwc⟩ := hcut
      rw [hwc]
      clear hwc
      go_upto_region 9 with fail
      rw [← HWZ.out, ← HQ.out]
      go_upto_if 27 with fail
      go_cut [7] from 12 to 44 (fun b wx => ∃ a m c l, b = .slice a m c ∧ Hid (SeesB w (.slice a m c) l ∧ l.length ≤ 140737488351232) ∧ wx = wz)
      case first =>
        by_cases h1 : k < n1
        · obtain ⟨g, off, x, l, rfl, hc, hsx, hlx⟩ := HR.out k wz h1 HBZ.out
          obtain ⟨a, m, c, rfl, _, _, _⟩ := hsx.shape
          have h1' : (k : Int) < (n1 : Int) := by omega
          have h0' : (0 : Int) ≤ (k : Int) := by omega
          have HSX := hid (And.intro hsx hlx)
          clear hsx hlx
          go_wp2_with fail
          go_meet
          case rel => exact ⟨a, m, c, l, rfl, HSX.out, rfl⟩
        · have h1' : ¬ (k : Int) < (n1 : Int) := by omega
          go_wp2_with fail
          go_meet
          case rel => exact ⟨none, 0, 0, [], rfl, ⟨sees_nil _, by simp⟩, rfl⟩
      case rest =>
      obtain ⟨a7, m7, c7, l7, rfl, HS7, hwc⟩ := hcut
      rw [hwc]
      clear hwc
      go_upto_if 35 with fail
      go_cut [] from 12 to 44 (fun wx => ∃ (f : Tn.Fr) (b : Option Addr) (m c : Nat), Hid (wx.heap[q]? = some (.cells (frCells f (.slice b m c)) 41 (0, 0)) ∧ FrB f ∧ SeesB w (.slice b m c) f.B ∧ f.B.length ≤ 140737488351232 ∧ Below q wz wx))
      case first =>
        by_cases h2 : k < n
        · obtain ⟨o, g, off, hok, rfl, hg, hrange⟩ := HC.out k h2
          obtain ⟨b, m, c, hvb, _, _, _⟩ := hok.vb.shape
          have hsb := hok.vb
          rw [hvb] at hsb
          obtain ⟨pa, hpa⟩ : ∃ pa, pa = frCells o.f (.slice b m c) := ⟨_, rfl⟩
          have hcs : o.cells = pa.toList := by unfold FrD.cells; rw [hvb, hpa]
          have hps : pa.size = 14 := by rw [hpa]; exact frCells_size hok.f.ok _
          have hi : (Try.prog.info? 41).map (·.size) = some pa.size := by rw [hps]; kernel_rfl
          have HLD : Hid ((Instr.loadAt 41 (.pointer (some ⟨g, off + k * 14, none⟩))).run Try.prog wz = .ok (.agg pa) wz) := by
            have := run_loadAt_mid wz g (off + k * 14) 41 pa.toList (.struct _) (by rw [← hcs]; exact range_belowR hrange HBZ.out) Try.underlying41 rfl (by rw [Array.length_toList]; exact hi)
            exact this
          have HTH : Hid (wz.there q 0 pa.size) := there_blk HRZ.out (by rw [hps]; rfl)
          have HI := hid hi
          have HONE : Hid (pa.all (·.oneCell') = true) := by unfold Hid; rw [hpa]; exact frc_one
          have hr2 : (wz.setCells q 0 pa.toList).heap[q]? = some (.cells (frCells o.f (.slice b m c)) 41 (0, 0)) := by rw [← hpa]; exact row_put HRZ.out (by rw [hps]; rfl)
          have hb2 : Below q wz (wz.setCells q 0 pa.toList) := below_setCells' (Nat.le_refl _) _ _ _ (Below.refl _ _)
          have hlb := hok.lb
          unfold reachBytes at hlb
          have h2' : (k : Int) < (n : Int) := by omega
          have h0' : (0 : Int) ≤ (k : Int) := by omega
          have HEND : Hid ((wz.setCells q 0 pa.toList).heap[q]? = some (.cells (frCells o.f (.slice b m c)) 41 (0, 0)) ∧ FrB o.f ∧ SeesB w (.slice b m c) o.f.B ∧ o.f.B.length ≤ 140737488351232 ∧ Below q wz (wz.setCells q 0 pa.toList)) := ⟨hr2, hok.f, hsb, by omega, hb2⟩
          clear hr2 hb2 hsb hlb hok hrange hpa hcs hps hi
          go_wp2_with (first
            | (refine wpList_ld 41 ⟨g, off + k * 14, none⟩ _ rfl rfl HLD.out rfl ?_)
            | (refine wpList_store_mid rfl 41 (.tmp 8) (.tmp 39) rfl q 0 pa rfl rfl HTH.out HI.out HONE.out ?_)
            | fail)
          go_meet
          case rel => exact ⟨_, _, _, _, HEND.out⟩
        · have h2' : ¬ (k : Int) < (n : Int) := by omega
          have HEND : Hid (wz.heap[q]? = some (.cells (frCells Tn.noneF (.slice none 0 0)) 41 (0, 0)) ∧ FrB Tn.noneF ∧ SeesB w (.slice none 0 0) Tn.noneF.B ∧ Tn.noneF.B.length ≤ 140737488351232 ∧ Below q wz wz) := ⟨HRZ.out, ⟨⟨rfl, rfl, by decide⟩, fun x hx => by simp [Tn.noneF] at hx; omega, fun x hx => by simp [Tn.noneF] at hx; omega⟩, sees_nil _, by simp [Tn.noneF], Below.refl _ _⟩
          go_wp2_with fail
          go_meet
          case rel => exact ⟨_, _, _, _, HEND.out⟩
      case rest =>
      obtain ⟨f, b8, m8, c8, HH8⟩ := hcut
      obtain ⟨w8, hw8⟩ : ∃ w8, w8 = wc := ⟨_, rfl⟩
      rw [← hw8] at HH8 ⊢
      obtain ⟨hr8, hf8, hs8, hl8, hb8⟩ := HH8.out
      have hbw8 : Below w.heap.size w w8 := HBZ.out.trans (hb8.mono HWQ.out)
      obtain ⟨fr, hfr⟩ : ∃ fr, fr = frCells f (.slice b8 m8 c8) := ⟨_, rfl⟩
      have HL8 : Hid ((Instr.loadAt 41 (.pointer (some ⟨q, 0, none⟩))).run Try.prog w8 = .ok (.agg fr) w8) := by
        unfold Hid
        rw [hfr]
        exact load_rowAt hr8 Try.underlying41 rfl (by rw [frCells_size hf8.ok]; kernel_rfl)
      have HX := hid (frames_any _ l7 f (.slice b8 m8 c8) w8 (HS7.out.1.below hbw8) hf8 (hs8.below hbw8) HS7.out.2 hl8)
      rw [← hfr] at HX
      have HB8 := hid hbw8
      clear hw8 hr8 hf8 hs8 hl8 hb8 hbw8 hfr HH8
      go_wp2_with (first
        | (refine wpList_ld 41 ⟨q, 0, none⟩ _ rfl rfl HL8.out rfl ?_)
        | fail)
      refine HX.out.mono ?_
      rintro _ w9 ⟨rfl, hb9⟩
      have hb10 := HB8.out.trans (hb9.mono HB8.out.size)
      have hkk : k + 1 ≤ n + n1 := by have := HLT.out; omega
      clear hb9
      go_wp2_with fail
      go_roundw
      case rel => exact ⟨k + 1, w9, by go_num, hkk, rfl, hb10⟩
      case measure => simp [intOf]; omega
    · have h1' : ¬ (k : Int) < (n1 : Int) := fun h => hlt (.inl (by omega))
      have h2' : ¬ (k : Int) < (n : Int) := fun h => hlt (.inr (by omega))
      go_wp2_with fail
      go_ret
      exact ⟨rfl, hb⟩
end Go.Proofs.Ytcelcnafcfefhaa.N
