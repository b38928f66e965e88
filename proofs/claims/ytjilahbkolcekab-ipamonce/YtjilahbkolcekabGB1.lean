/-
  The law's added, deleted.
-/
import Derived.Test.YtjilahbkolcekabGA1
namespace Go.Proofs.Ytjilahbkolcekab
open Go.ChangeShapes Go.WideShapes Go.ChangeAt Go.RowKit Go.Maps Tri
set_option maxHeartbeats 8000000
set_option maxRecDepth 100000

/-- All names are names. -/
def NmS (s : Ist) : Prop := ∀ p ∈ s.S, nmB p.nm = true

theorem Ist.Ok.len {s : Ist} (h : s.Ok) : s.S.length ≤ s.z - 3 := by
  have h3 := nod_le (A := s.S.map Pod.ad) (B := (List.range (s.z - 3)).map fun k => s.b + 2 + k) h.an fun x hx => by
    obtain ⟨q, hq, rfl⟩ := List.mem_map.1 hx
    have := h.ar q hq
    rw [List.mem_map]
    exact ⟨q.ad - s.b - 2, by rw [List.mem_range]; omega, by omega⟩
  simpa using h3

/-- What is said of an Add. -/
theorem addR_facts {s : Ist} (hok : s.Ok) (hnm : NmS s) (n : ByteArray) :
    (∃ r, s.addR n = (s.b + r, 0, s.add n r) ∧ s.byN n = none ∧ s.byA (s.b + r) = none ∧ 2 ≤ r ∧ r + 2 ≤ s.z ∧ (s.add n r).Ok ∧ NmS (s.add n r)) ∨
    (s.addR n = (0, 5, s) ∧ ∃ p, s.byN n = some p) ∨ (s.addR n = (0, 4, s) ∧ s.byN n = none ∧ (s.S.length = 1024 ∨ s.S.length = s.z - 3)) ∨ (s.addR n = (0, 150, s) ∧ s.byN n = none) := by
  cases hm : nmB n with
  | false =>
    refine .inr (.inr (.inr ⟨by unfold Ist.addR; rw [if_pos hm], ?_⟩))
    unfold Ist.byN
    rw [List.find?_eq_none]
    intro p hp
    simp only [decide_eq_true_eq]
    intro e
    have := hnm p hp
    rw [e, hm] at this
    cases this
  | true =>
    cases hn : s.byN n with
    | some p => exact .inr (.inl ⟨by unfold Ist.addR; rw [if_neg (by rw [hm]; simp), if_pos (by rw [hn]; rfl)], p, rfl⟩)
    | none =>
      by_cases h1 : 1024 ≤ s.S.length
      · exact .inr (.inr (.inl ⟨add_full hok hm hn (.inl h1), rfl, .inl (by have := hok.le; omega)⟩))
      · by_cases h2 : s.z - 3 ≤ s.S.length
        · exact .inr (.inr (.inl ⟨add_full hok hm hn (.inr h2), rfl, .inr (by have := hok.len; omega)⟩))
        · obtain ⟨r, hf, hA⟩ := add_room hok hm hn (by omega) (by omega)
          have hin := srch_in hok.z4 hok.l1 hf
          refine .inl ⟨r, hA, rfl, ?_, hin.2.1, hin.2.2, hok.add hn (by omega) (nm_size hm) hf, ?_⟩
          · have := hin.1
            rw [tk_byA] at this
            simpa using this
          · intro p hp
            rcases List.mem_append.1 hp with hp | hp
            · exact hnm p hp
            · rw [List.mem_singleton] at hp; subst hp; exact hm

theorem NmS.del {s : Ist} (h : NmS s) (n : ByteArray) : NmS (s.del n) := fun p hp => h p (List.mem_filter.1 hp).1

theorem AtN.none {s : Ist} {n : ByteArray} {v : Int} (h : AtN s n v) (hn : s.byN n = none) : v = -1 := by
  rcases h with ⟨-, h⟩ | ⟨j, p, h1, -⟩
  · exact h
  · rw [hn] at h1; cases h1
theorem AtA.none {s : Ist} {a : Nat} {v : Int} (h : AtA s a v) (hn : s.byA a = none) : v = -1 := by
  rcases h with ⟨-, h⟩ | ⟨j, p, h1, -⟩
  · exact h
  · rw [hn] at h1; cases h1
theorem AtN.some {s : Ist} {n : ByteArray} {v : Int} {p : Pod} (h : AtN s n v) (hn : s.byN n = some p) : ∃ j : Nat, v = (j : Int) ∧ s.S[j]? = Option.some p := by
  rcases h with ⟨h1, -⟩ | ⟨j, q, h1, h2, h3⟩
  · rw [hn] at h1; cases h1
  · rw [hn] at h1; cases h1
    exact ⟨j, h3, h2⟩

theorem added_any (w : World) (gb : Nat) (vp : Value) (s : Ist) (y : Nat) (n : ByteArray) (h : GvAt w gb vp s) (hnm : NmS s) (hy1 : 1 ≤ y) (hy30 : y ≤ 30) (hz : s.z = 2 ^ (32 - y)) :
    Calls Try.prog 24 #[.pointer (some ⟨gb, 0, none⟩), .agg #[.int .u32 (s.b : Int), .int .i64 (y : Int)], .string n, .int .u32 ((s.addR n).1 : Int), .int .i64 (s.addR n).2.1] w fun e w' => e = .returned (.bool true) ∧ (∃ vp', GTurn w w' gb vp (s.addR n).2.2 vp') ∧ NmS (s.addR n).2.2 := by
  obtain ⟨wa, HWA⟩ : ∃ wa, Hid (wa = w.alloc (.cells #[.int .u32 (s.b : Int), .int .i64 (y : Int)] 25)) := ⟨_, rfl⟩
  have hb0 : Below w.heap.size w wa := by rw [HWA.out]; exact (Below.refl _ _).alloc (Nat.le_refl _) _
  have R1 : wa.heap[w.heap.size]? = some (.cells #[.int .u32 (s.b : Int), .int .i64 (y : Int)] 25) := by rw [HWA.out]; exact heap_alloc_new w _
  obtain ⟨q0, q1⟩ := Beh.two R1
  have c0 := q0 ⟨wa, Below.refl _ _⟩
  have c1 := q1 ⟨wa, Below.refl _ _⟩
  simp only at c0 c1
  have HG := hid (h.below hb0)
  have HB0 := hid hb0
  have hz4 := h.ok.z4
  have hz31 := h.ok.z31
  have hbe := h.ok.be
  obtain ⟨b, HBB⟩ : ∃ b, Hid (b = s.b) := ⟨_, rfl⟩
  obtain ⟨z, HZZ⟩ : ∃ z, Hid (z = s.z) := ⟨_, rfl⟩
  rw [← HZZ.out] at hz4 hz31 hbe
  rw [← HBB.out] at hbe c0 q0 HWA
  have HSZ : ∀ t : Beh wa, Hid (Calls Try.prog 16 #[.agg #[.int .u32 (b : Int), .int .i64 (y : Int)]] t.wd fun e w' => e = .returned (.int .i64 (z : Int)) ∧ ∃ t' : Beh wa, w' = t'.wd) := fun t => by
    rw [HZZ.out, hz]; exact Calls.beh (size_any b y t.wd hy1 hy30)
  have HAT : ∀ t : Beh wa, Hid (Calls Try.prog 45 #[.pointer (some ⟨gb, 0, none⟩), .string n] t.wd fun e w' => (∃ v, e = .returned (.int .i64 v) ∧ AtN s n v) ∧ w' = t.wd) := fun t => gat_any t.wd gb vp s n (HG.out.below t.ok)
  have HSM : Hid (GTurn w wa gb vp s vp) := ⟨h.below hb0, fun _ hg => .inl hg, Keeps.of hb0⟩
  have HNM := hid hnm
  rw [← HBB.out]
  rcases addR_facts h.ok hnm n with ⟨r, hA, hn1, hn2, hr1, hr2, hokr, hnmr⟩ | ⟨hA, p, hn1⟩ | ⟨hA, hn1, hl⟩ | ⟨hA, hn1⟩
  · rw [hA, ← HBB.out]
    obtain ⟨aa, HAA⟩ : ∃ aa, Hid (aa = b + r) := ⟨_, rfl⟩
    rw [← HAA.out]
    have HHD : Hid (Calls Try.prog 46 #[.pointer (some ⟨gb, 0, none⟩), .int .u32 (aa : Int)] wa fun e w' => (∃ v, e = .returned (.int .i64 v) ∧ AtA s aa v) ∧ w' = wa) := gholder_any wa gb vp s aa HG.out
    have HN1 := hid hn1
    have HN2 : Hid (s.byA aa = none) := by unfold Hid; rw [HAA.out, HBB.out]; exact hn2
    have HOKR := hid hokr
    have HNMR := hid hnmr
    have HLE : Hid (s.S.length ≤ 1024) := h.ok.le
    have haa : aa < 4294967296 := by have := HAA.out; rw [← HZZ.out] at hr2; omega
    have hof : (aa : Int) - (b : Int) = (r : Int) := by have := HAA.out; omega
    have hrz : (r : Int) ≤ (z : Int) - 2 := by rw [HZZ.out]; omega
    have HATA := HAT ⟨wa, Below.refl _ _⟩
    have HSZA := HSZ ⟨wa, Below.refl _ _⟩
    obtain ⟨av, nv, cv, rfl, HNV, hnc, hcap, hnil⟩ := h.own.shape
    clear hA hn1 hn2 hokr hnmr HAT HSZ q0 q1 hnil h
    go_enter Try.func24, Try.ntmps24
    go_upto_region 1 with fail
    rw [← HWA.out]
    go_wp2_with fail
    refine HATA.out.mono ?_
    rintro _ _ ⟨⟨v, rfl, hv⟩, ew⟩
    obtain rfl := ew.symm
    obtain rfl := hv.none HN1.out
    clear ew hv HATA
    go_wp2_with fail
    refine HHD.out.mono ?_
    rintro _ _ ⟨⟨v, rfl, hv⟩, ew⟩
    obtain rfl := ew.symm
    obtain rfl := hv.none HN2.out
    clear ew hv HHD
    go_wp2_with fail
    refine HSZA.out.mono ?_
    rintro _ _ ⟨rfl, t, rfl⟩
    have HGT := hid (HG.out.below t.ok)
    have HBT := hid (HB0.out.trans (t.ok.mono HB0.out.size))
    clear HSZA c0 c1
    generalize t.wd = u at *
    obtain ⟨g0, f0⟩ := HGT.out.cells
    obtain ⟨w2, HW2⟩ : ∃ w2, Hid (w2 = u.alloc (.cells #[.string n, .int .u32 (aa : Int)] 80)) := ⟨_, rfl⟩
    have hb2 : Below u.heap.size u w2 := by rw [HW2.out]; exact (Below.refl _ _).alloc (Nat.le_refl _) _
    have r2 : w2.heap[u.heap.size]? = some (.cells #[.string n, .int .u32 (aa : Int)] 80 (0, 0)) := by rw [HW2.out]; exact heap_alloc_new u _
    obtain ⟨v', w3, hap, ho3, hg3, hn3⟩ := append_pod w2 49 0 (.slice av nv cv) s.S ⟨n, aa⟩ u.heap.size (HGT.out.own.below hb2) (by rw [cell_of_row _ _ _ _ _ _ r2]; rfl) (by rw [cell_of_row _ _ _ _ _ _ r2]; rfl) (Nat.zero_le _) (by have := HLE.out; omega)
    obtain ⟨av', nv', cv', rfl, -, -, -, -⟩ := ho3.shape
    have hk3 : Keeps (fun k => Value.ownBlock (.slice av nv cv) = some k) u w3 := (Keeps.of hb2).trans (Keeps.grown hg3 fun k e => e)
    have HTU := hid (HGT.out.store (s' := s.add n r) (v' := .slice av' nv' cv') hk3 (by rw [HAA.out, HBB.out] at ho3; exact ho3) (fun g hg => (hn3 g hg).imp id fun h => Nat.le_trans hb2.size h) HOKR.out)
    have r3 : w3.heap[gb]? = some (.cells #[.slice av nv cv] 58 (0, 0)) := (hk3.block gb (HGT.out.lt (.inl rfl)) HGT.out.ne).trans HGT.out.row
    have m5 : ∃ v, w3.cell? ⟨gb, 0, none⟩ = some v := ⟨_, by rw [cell_of_row _ _ _ _ _ _ r3]; rfl⟩
    obtain ⟨v5, m5⟩ := m5
    have m6 : w3.frozen? ⟨gb, 0, none⟩ = false := frozen_of_row _ _ _ _ _ r3
    have HAP := hid hap
    clear hb2 r2 hap ho3 hg3 hn3 hk3 r3
    go_wp2_with (first | (at_builtin; rw [← HW2.out]; refine wpList_append_run _ rfl _ _ 49 49 rfl _ _ rfl rfl HAP.out ?_) | fail)
    go_ret
    have hs0 := HBT.out.size
    exact ⟨rfl, ⟨_, HTU.out.ref, fun g hg => (HTU.out.new g hg).imp id fun h => by omega, (Keeps.of HBT.out).trans HTU.out.keeps⟩, HNMR.out⟩
  · rw [hA]
    have HN1 := hid hn1
    have HATA := HAT ⟨wa, Below.refl _ _⟩
    clear hA hn1 HAT HSZ q0 q1 h
    go_enter Try.func24, Try.ntmps24
    go_upto_region 1 with fail
    rw [← HWA.out]
    go_wp2_with fail
    refine HATA.out.mono ?_
    rintro _ _ ⟨⟨v, rfl, hv⟩, ew⟩
    obtain rfl := ew.symm
    obtain ⟨j, rfl, -⟩ := hv.some HN1.out
    have hj : (0 : Int) ≤ (j : Int) := by omega
    clear ew hv HATA
    go_wp2_with fail
    go_ret
    exact ⟨by simp, ⟨_, HSM.out⟩, HNM.out⟩
  · rw [hA]
    have HN1 := hid hn1
    have HGC : ∀ t : Beh wa, t.wd.cell? ⟨gb, 0, none⟩ = some vp := fun t => (HG.out.below t.ok).cells.1
    have HLE : Hid (s.S.length ≤ 1024) := h.ok.le
    obtain ⟨av, nv, cv, rfl, HNV, hnc, hcap, hnil⟩ := h.own.shape
    have HATB : ∀ t : Beh wa, Hid (Calls Try.prog 45 #[.pointer (some ⟨gb, 0, none⟩), .string n] t.wd fun e w' => e = .returned (.int .i64 (-1)) ∧ ∃ t' : Beh wa, w' = t'.wd) := fun t => (HAT t).out.mono fun e w' ⟨⟨v, he, hv⟩, hw⟩ => ⟨by rw [he, hv.none HN1.out], t, hw⟩
    have hle : nv ≤ 1024 := by have := HLE.out; have := HNV.out; omega
    have hws : IntKind.i64.wrap ((z : Int) - 3) = (z : Int) - 3 := by rw [IntKind.wrap_i64]; omega
    have hl' : nv = 1024 ∨ nv = z - 3 := by rw [HNV.out, HZZ.out]; exact hl
    clear hA hn1 HAT hl hnil h
    by_cases hl1 : nv = 1024
    · have hl2 : ((nv : Int) == 1024) = true := by simp [hl1]
      have hl3 : (nv : Int) = 1024 := by omega
      go_enter Try.func24, Try.ntmps24
      go_upto_region 1 with fail
      rw [← HWA.out]
      go_upto_region 13 with fail
      refine wp_region_beh (by kernel_rfl) (by kernel_rfl) ?_
      repeat (go_big_quiet_step (first | (go_at_call 45; exact (HATB _).out) | (go_at_call 16; exact (HSZ _).out)))
      refine wpQuiet_nil ?_
      rintro _ ⟨t, rfl⟩
      have HFIN : Hid (GTurn w t.wd gb (.slice av nv cv) s (.slice av nv cv)) := ⟨HG.out.below t.ok, fun _ hg => .inl hg, Keeps.of (HB0.out.trans (t.ok.mono HB0.out.size))⟩
      clear q0 q1 HGC c0 c1
      go_wp2_with fail
      go_ret
      exact ⟨rfl, ⟨_, HFIN.out⟩, HNM.out⟩
    · have hl2 : ((nv : Int) == 1024) = false := by simp; omega
      have hl4 : (nv : Int) = (z : Int) - 3 := by omega
      have hl5 : ((nv : Int) == (z : Int) - 3) = true := by simp [hl4]
      have HL4 := hid hl4
      clear hl4
      go_enter Try.func24, Try.ntmps24
      go_upto_region 1 with fail
      rw [← HWA.out]
      go_upto_region 13 with fail
      refine wp_region_beh (by kernel_rfl) (by kernel_rfl) ?_
      repeat (go_big_quiet_step (first | (go_at_call 45; exact (HATB _).out) | (go_at_call 16; exact (HSZ _).out)))
      refine wpQuiet_nil ?_
      rintro _ ⟨t, rfl⟩
      have HFIN : Hid (GTurn w t.wd gb (.slice av nv cv) s (.slice av nv cv)) := ⟨HG.out.below t.ok, fun _ hg => .inl hg, Keeps.of (HB0.out.trans (t.ok.mono HB0.out.size))⟩
      clear q0 q1 HGC c0 c1
      go_wp2_with fail
      go_ret
      exact ⟨rfl, ⟨_, HFIN.out⟩, HNM.out⟩
  · rw [hA]
    have HN1 := hid hn1
    have HATA := HAT ⟨wa, Below.refl _ _⟩
    clear hA hn1 HAT HSZ q0 q1 h
    go_enter Try.func24, Try.ntmps24
    go_upto_region 1 with fail
    rw [← HWA.out]
    go_wp2_with fail
    refine HATA.out.mono ?_
    rintro _ _ ⟨⟨v, rfl, hv⟩, ew⟩
    obtain rfl := ew.symm
    obtain rfl := hv.none HN1.out
    clear ew hv HATA
    go_wp2_with fail
    go_ret
    exact ⟨rfl, ⟨_, HSM.out⟩, HNM.out⟩
end Go.Proofs.Ytjilahbkolcekab
