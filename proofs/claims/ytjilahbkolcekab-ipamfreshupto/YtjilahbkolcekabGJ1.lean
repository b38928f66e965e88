/-
  The law's whole.
-/
import Derived.Test.YtjilahbkolcekabGI1
namespace Go.Proofs.Ytjilahbkolcekab
open Go.ChangeShapes Go.WideShapes Go.ChangeAt Go.RowKit Go.Maps Tri
set_option maxHeartbeats 8000000
set_option maxRecDepth 100000

theorem whole_any (w : World) (B bb : Nat) (vl vm : Value) (Vs : List Value) (Ps : List Pod) (h : Bk w B bb vl vm Vs Ps) :
    Calls Try.prog 22 #[.pointer (some ⟨bb, 0, none⟩)] w fun e w' => e = .returned (.bool true) ∧ Below w.heap.size w w' := by
  obtain ⟨al, nl, cl, rfl, HNL, hnlc, hclm⟩ := h.ls.shape
  obtain ⟨am, nm, cm, rfl, HNM, hnmc, hcmm, -⟩ := h.ms.shape
  have hnn : nm = nl := by have := HNL.out; have := HNM.out; have := h.len; omega
  subst hnn
  have HBK := hid h
  have HCB : Hid (∀ u : World, Below w.heap.size w u → u.cell? ⟨bb, 0, none⟩ = some (.slice al nm cl) ∧ u.cell? ⟨bb, 1, none⟩ = some (.slice am nm cm)) := fun u hu => ⟨(h.below hu).cells.1, (h.below hu).cells.2.1⟩
  have hlm : nm ≤ 9223372036854775807 := by have h1 := hclm; unfold maxLen at h1; omega
  clear h
  go_enter Try.func22, Try.ntmps22
  go_upto_region 2 with fail
  go_loopw [3] (fun i wr => ∃ k : Nat, i = .int .i64 (k : Int) ∧ k ≤ nm ∧ Hid (Below w.heap.size w wr)) (fun i _ => nm - (intOf i).toNat)
  case atStart => exact ⟨0, rfl, Nat.zero_le _, Below.refl _ _⟩
  case round =>
    obtain ⟨k, rfl, hk, HBk⟩ := hrel
    obtain ⟨b0, b1⟩ := HCB.out wr HBk.out
    by_cases hlt : k < nm
    · have hlt' : (k : Int) < (nm : Int) := int_lt hlt
      obtain ⟨v, HX⟩ : ∃ v, Hid (Vs[k]? = some v) := ⟨_, hid (List.getElem?_eq_getElem (by have := HNL.out; omega))⟩
      obtain ⟨p, HY⟩ : ∃ p, Hid (Ps[k]? = some p) := ⟨_, hid (List.getElem?_eq_getElem (by have := HNM.out; omega))⟩
      obtain ⟨n, hn⟩ := HBK.out.full k v p HX.out HY.out
      obtain ⟨gl, rfl, hgl, hcl⟩ := HBK.out.ls.at HX.out
      obtain ⟨gm, rfl, hgm, hcm⟩ := HBK.out.ms.at HY.out
      have HCM : Hid (∀ u : World, Below w.heap.size w u → u.cell? ⟨gm, k * 2, none⟩ = some (.string p.nm) ∧ u.cell? ⟨gm, k * 2 + 1, none⟩ = some (.int .u32 (p.ad : Int))) := fun u hu => ⟨(hcm u (hu.block gm hgm)).1, (hcm u (hu.block gm hgm)).2.1⟩
      obtain ⟨av, n', cv, rfl, HN, hnc, hcv, -⟩ := hn.shape
      obtain rfl : n' = n := by have := HN.out; rw [List.length_replicate] at this; exact this
      have b2 := hcl wr (HBk.out.block gl hgl)
      have HCV : Hid (∀ j, j < n' → ∃ g, av = some ⟨g, 0, none⟩ ∧ Hid (∀ u : World, Below w.heap.size w u → u.cell? ⟨g, j * 2, none⟩ = some (.string p.nm) ∧ u.cell? ⟨g, j * 2 + 1, none⟩ = some (.int .u32 (p.ad : Int)))) := fun j hj => by
        obtain ⟨g, e, hg, hc⟩ := hn.at (i := j) (p := p) (by rw [List.getElem?_replicate, if_pos hj])
        exact ⟨g, e, fun u hu => ⟨(hc u (hu.block g hg)).1, (hc u (hu.block g hg)).2.1⟩⟩
      have hnm : n' ≤ 9223372036854775807 := by have h1 := hcv; unfold maxLen at h1; omega
      clear hcl hgl hcm hgm hn
      go_upto_region 6 with fail
      clear b0 b1 b2
      go_loopw [5] (fun i wr => ∃ j : Nat, i = .int .i64 (j : Int) ∧ j ≤ n' ∧ Hid (Below w.heap.size w wr)) (fun i _ => n' - (intOf i).toNat)
      case atStart => exact ⟨0, rfl, Nat.zero_le _, HBk⟩
      case round =>
        obtain ⟨j, rfl, hj, HBj⟩ := hrel
        by_cases hltj : j < n'
        · have hltj' : (j : Int) < (n' : Int) := int_lt hltj
          obtain ⟨g, rfl, HG⟩ := HCV.out j hltj
          have kb : ∀ t : Beh wr, t.wd.cell? ⟨bb, 1, none⟩ = some (.slice (some ⟨gm, 0, none⟩) nm cm) := fun t => (HCB.out t.wd (HBj.out.trans (t.ok.mono HBj.out.size))).2
          have kg0 : ∀ t : Beh wr, t.wd.cell? ⟨g, j * 2, none⟩ = some (.string p.nm) := fun t => (HG.out t.wd (HBj.out.trans (t.ok.mono HBj.out.size))).1
          have kg1 : ∀ t : Beh wr, t.wd.cell? ⟨g, j * 2 + 1, none⟩ = some (.int .u32 (p.ad : Int)) := fun t => (HG.out t.wd (HBj.out.trans (t.ok.mono HBj.out.size))).2
          have km0 : ∀ t : Beh wr, t.wd.cell? ⟨gm, k * 2, none⟩ = some (.string p.nm) := fun t => (HCM.out t.wd (HBj.out.trans (t.ok.mono HBj.out.size))).1
          have km1 : ∀ t : Beh wr, t.wd.cell? ⟨gm, k * 2 + 1, none⟩ = some (.int .u32 (p.ad : Int)) := fun t => (HCM.out t.wd (HBj.out.trans (t.ok.mono HBj.out.size))).2
          have hk0 : decide ((k : Int) < 0) = false := by simp
          have hj0 : decide ((j : Int) < 0) = false := by simp
          go_upto_region 8 with fail
          refine wp_region_beh (by kernel_rfl) (by kernel_rfl) ?_
          repeat (go_big_quiet_step (fail))
          refine wpQuiet_nil ?_
          rintro _ ⟨t, rfl⟩
          have HT := hid (HBj.out.trans (t.ok.mono HBj.out.size))
          clear kb kg0 kg1 km0 km1
          go_wp2_with fail
          go_roundw
          case rel => exact ⟨j + 1, by go_num, hltj, HT⟩
          case measure => simp [intOf]; omega
        · have hltj' : ¬ (j : Int) < (n' : Int) := int_nlt hltj
          go_wp2_with fail
          go_roundw
          case rel => exact ⟨k + 1, by go_num, hlt, HBj⟩
          case measure => simp [intOf]; omega
    · have hlt' : ¬ (k : Int) < (nm : Int) := int_nlt hlt
      go_wp2_with fail
      go_ret
      exact ⟨rfl, HBk.out⟩
end Go.Proofs.Ytjilahbkolcekab
