import Derived.Test.YtjjmopmdiflffabBF
namespace Go.Proofs.Ytjjmopmdiflffab
open Go.ChangeShapes Go.WideShapes Go.ChangeAt Go.RowKit
set_option maxHeartbeats 1000000
set_option maxRecDepth 100000

/-- What Age answers. -/
def ageL (L : List Nat) : List Nat × Int :=
  if (parsed L).2.2 ≠ 0 then ([], (parsed L).2.2)
  else if (parsed L).1.ttl < 2 then ([], 35)
  else (builtL ((parsed L).1.withTTL ((parsed L).1.ttl - 1)) (parsed L).2.1, refE ((parsed L).1.withTTL ((parsed L).1.ttl - 1)) (parsed L).2.1.length)

/-- All that is known of bytes that are read. -/
theorem read_facts {L : List Nat} (hx : ∀ x ∈ L, x < 256) (he : (exam L true).2.2 = 0) :
    ∃ m l, exam L true = (m + 20, l, 0) ∧ l ≤ L.length ∧ l < 65536 ∧ m + 20 ≤ l ∧ (L.take l).length = l ∧ byt (L.take l) 0 / 16 = 4 ∧ byt (L.take l) 0 % 16 * 4 = m + 20 ∧ w16 (L.take l) 2 = (L.take l).length ∧ byt (L.take l) 6 < 128 ∧
      (∀ t, refE ((rdH (L.take l) (m + 20)).withTTL t) ((L.take l).drop (m + 20)).length = 0) ∧ parsed L = (rdH (L.take l) (m + 20), (L.take l).drop (m + 20), 0) := by
  obtain ⟨e1, e2, e3⟩ := exam_ok he
  obtain ⟨a1, a2, a3, a4, a5, a6, a7⟩ := lens_ok e1
  obtain ⟨k1, k2, k3, k4⟩ := hdE_ok e2
  replace a5 := a5 rfl
  have hv : byt L 0 / 16 = 4 := by
    unfold lens at e1
    by_cases h1 : L.length < 20
    · rw [if_pos h1] at e1; cases e1
    · rw [if_neg h1] at e1
      by_cases h2 : byt L 0 / 16 ≠ 4
      · rw [if_pos h2] at e1; cases e1
      · exact Decidable.not_not.1 h2
  have hl16 := w16_lt hx 2
  have hp : parsed L = (rdH (L.take (exam L true).2.1) (exam L true).1, (L.take (exam L true).2.1).drop (exam L true).1, 0) := by unfold parsed; rw [if_pos he]
  have hex : exam L true = ((exam L true).1, (exam L true).2.1, 0) := by
    apply Prod.ext
    · rfl
    · apply Prod.ext
      · rfl
      · exact he
  rw [← e3] at a1 a2 a3 a4 a5 a6 a7 k1 k2 k3 k4
  generalize exam L true = t at *
  obtain ⟨h, l, z⟩ := t
  simp only at *
  obtain ⟨m, rfl⟩ : ∃ m, h = m + 20 := ⟨h - 20, by omega⟩
  have hlen : (L.take l).length = l := by rw [List.length_take]; omega
  have hb : ∀ i, i < 20 → byt (L.take l) i = byt L i := fun i hi => byt_take (by omega)
  have hb' : ∀ i, i < 20 → byt (L.take (m + 20)) i = byt L i := fun i hi => byt_take (by omega)
  refine ⟨m, l, hex, a5, by omega, a4, hlen, by rw [hb 0 (by omega)]; exact hv, by rw [hb 0 (by omega)]; exact a6.symm, ?_, ?_, fun t => ?_, hp⟩
  · unfold w16; rw [hb 2 (by omega), hb 3 (by omega), hlen]; exact a7.symm
  · rw [hb 6 (by omega)]; rw [hb' 6 (by omega)] at k2; exact k2
  · have ho : ((rdH (L.take l) (m + 20)).withTTL t).opts = (L.take (m + 20)).drop 20 := by
      show ((L.take l).take (m + 20)).drop 20 = _
      rw [List.take_take, Nat.min_eq_left a4]
    have hol : ((L.take (m + 20)).drop 20).length = m := by rw [List.length_drop, List.length_take]; omega
    have hf : ((rdH (L.take l) (m + 20)).withTTL t).off = ((w16 (L.take (m + 20)) 6 % 8192 * 8 : Nat) : Int) := by
      show ((w16 (L.take l) 6 % 8192 * 8 : Nat) : Int) = _
      unfold w16; rw [hb 6 (by omega), hb 7 (by omega), hb' 6 (by omega), hb' 7 (by omega)]
    have hmf : ((rdH (L.take l) (m + 20)).withTTL t).mf = decide (byt (L.take (m + 20)) 6 / 32 % 2 = 1) := by
      show decide (byt (L.take l) 6 / 32 % 2 = 1) = _
      rw [hb 6 (by omega), hb' 6 (by omega)]
    have hbd : ((L.take l).drop (m + 20)).length = l - (m + 20) := by rw [List.length_drop, hlen]
    unfold refE
    rw [ho, hf, hmf, hbd, k3, k4, hol]
    simp
    omega

/-- The program's Age, refused. -/
theorem age_bad (v : Value) (L : List Nat) (w : World) (hv : SeesB w v L) (hl : L.length ≤ 140737488355328) (he : (exam L true).2.2 ≠ 0) :
    Calls Try.prog 26 #[v] w fun e w' => e = .returned (.tuple #[.slice none 0 0, .int .i64 (exam L true).2.2]) ∧ Below w.heap.size w w' := by
  have HX := hid (exam_code v L true w hv hl)
  obtain ⟨ao, n, cap, rfl, _, _, _⟩ := hv.shape
  generalize exam L true = t at *
  obtain ⟨h, l, z⟩ := t
  simp only at *
  have hq : (z != 0) = true := by simp [he]
  clear hv he
  go_enter Try.func26, Try.ntmps26
  go_wp2_with fail
  refine HX.out.mono ?_
  rintro _ w2 ⟨rfl, hb2⟩
  go_wp2_with fail
  refine bodyPost_ret (results_tmp2 Try.results26 _ _ _) rfl ?_
  exact ⟨rfl, hb2⟩

/-- .. too old. -/
theorem age_old (v : Value) (L : List Nat) (w : World) (hv : SeesB w v L) (hl : L.length ≤ 140737488355328) (he : (exam L true).2.2 = 0) (h9 : 8 < L.length) (ht : byt L 8 < 2) :
    Calls Try.prog 26 #[v] w fun e w' => e = .returned (.tuple #[.slice none 0 0, .int .i64 35]) ∧ Below w.heap.size w w' := by
  have HX := hid (exam_code v L true w hv hl)
  obtain ⟨ao, n, cap, rfl, HN, _, _⟩ := hv.shape
  obtain ⟨g, off, rfl, hg, hc8⟩ := hv.atB 8 (by have := HN.out; omega)
  generalize exam L true = t at *
  obtain ⟨h, l, z⟩ := t
  simp only at *
  subst he
  have b8 : (8 : Int) < (n : Int) := by have := HN.out; omega
  generalize byt L 8 = x8 at *
  clear hv
  go_enter Try.func26, Try.ntmps26
  go_wp2_with fail
  refine HX.out.mono ?_
  rintro _ w2 ⟨rfl, hb2⟩
  have c8 : w2.cell? ⟨g, off + 8, none⟩ = some (.int .u8 (x8 : Int)) := (hb2.cell (p := ⟨g, _, none⟩) hg).trans hc8
  go_wp2_with fail
  refine bodyPost_ret (results_tmp2 Try.results26 _ _ _) rfl ?_
  exact ⟨rfl, hb2⟩

set_option maxHeartbeats 1000000 in
/-- .. done. -/
theorem age_good (v : Value) (L : List Nat) (w : World) (hv : SeesB w v L) (hl : L.length ≤ 140737488355328) (he : (exam L true).2.2 = 0) (ht : 2 ≤ byt L 8) :
    Calls Try.prog 26 #[v] w fun e w' => ∃ ao n cap, e = .returned (.tuple #[.slice ao n cap, .int .i64 0]) ∧ SeesB w' (.slice ao n cap) (builtL ((parsed L).1.withTTL (byt L 8 - 1)) (parsed L).2.1) ∧ Below w.heap.size w w' := by
  have HX := exam_code v L true w hv hl
  obtain ⟨m, l, hex, f1, f2, f3, f4, f5, f6, f7, f8, f9, hp⟩ := read_facts hv.bytes he
  rw [hex] at HX
  rw [hp]
  have HSV := hid hv
  have HBY := hid hv.bytes
  have hbX : ∀ x ∈ L.take l, x < 256 := fun x hx => HBY.out x (List.mem_of_mem_take hx)
  have HAG := aged (t := byt L 8 - 1) hbX (by omega) (by omega) f5 f6 f7 f8 (f9 _)
  obtain ⟨ao, n, cap, rfl, HN, hn1, hn2⟩ := hv.shape
  unfold maxLen at hn2
  have hln : l ≤ n := by have := HN.out; omega
  obtain ⟨g, off, rfl, hg, hc8⟩ := hv.atB 8 (by omega)
  have b8 : (8 : Int) < (n : Int) := by omega
  have b8' : (8 : Int) < (l : Int) := by omega
  have hmk := make_bytes l (by omega)
  have hbt : byt (L.take l) 8 = byt L 8 := byt_take (by omega)
  have HX8 := byt_lt HBY.out 8
  have HXX : Hid (exam L true = (m + 20, l, 0)) := hex
  have HX := hid HX
  simp only at HX
  generalize builtL ((rdH (L.take l) (m + 20)).withTTL (byt L 8 - 1)) ((L.take l).drop (m + 20)) = bl at *
  have HSEAL : Hid (∀ (u : World) (gg : Nat), Blk u gg ((L.take l).set 8 (byt L 8 - 1)) → Calls Try.prog 18 #[.slice (some ⟨gg, 0, none⟩) (m + 20) l] u fun e w' => e = .returned (.tuple #[]) ∧ Hid (Blk w' gg bl) ∧ But gg u w') := fun u gg hu => by
    have := seal_any gg (m + 20) l _ u hu (fun x hx => by
      rcases List.mem_or_eq_of_mem_set hx with hx | hx
      · exact hbX x hx
      · omega) (by omega) (by rw [List.length_set]; omega) f3 (by omega)
    rw [HAG] at this
    exact this
  have HBL : Hid (bl.length = l ∧ ∀ x ∈ bl, x < 256) := by
    refine ⟨by rw [← HAG]; simpa using f4, fun x hx => ?_⟩
    rw [← HAG] at hx
    have hc := M.csum_lt (((L.take l).set 8 (byt L 8 - 1)).take 10 ++ (((L.take l).set 8 (byt L 8 - 1)).take (m + 20)).drop 12)
    rcases List.mem_or_eq_of_mem_set hx with hx | hx
    · rcases List.mem_or_eq_of_mem_set hx with hx | hx
      · rcases List.mem_or_eq_of_mem_set hx with hx | hx
        · exact hbX x hx
        · omega
      · omega
    · omega
  clear HAG hex f5 f6 f7 f8 f9 hp he
  obtain ⟨X, hX⟩ : ∃ X, X = L.take l := ⟨_, rfl⟩
  rw [← hX] at HSEAL f4 hbt
  have HXE := hid hX
  generalize byt L 8 = x8 at *
  obtain ⟨CS, hCS⟩ : ∃ CS, CS = bs X := ⟨_, rfl⟩
  have HCS := hid hCS
  have HCL : Hid (CS.length = l) := by unfold Hid; rw [hCS, bs, List.length_map]; exact f4
  have HCO : Hid (∀ v ∈ CS, v.oneCell' = true) := fun v hv => by
    rw [hCS] at hv
    obtain ⟨y, _, rfl⟩ := List.mem_map.1 hv
    rfl
  have hmz : (((m + 20 : Nat)) : Int) = (m : Int) + 20 := by omega
  have F4 := hid f4
  have HBT := hid hbt
  clear hX hCS hv hbX f4 hbt
  go_enter Try.func26, Try.ntmps26
  go_wp2_with fail
  refine HX.out.mono ?_
  rintro _ w2 ⟨rfl, hb2⟩
  have c8 : w2.cell? ⟨g, off + 8, none⟩ = some (.int .u8 (x8 : Int)) := (hb2.cell (p := ⟨g, _, none⟩) hg).trans hc8
  obtain ⟨w3, hw3⟩ : ∃ w3, w3 = w2.alloc (.cells (madeCells #[.int .u8 0] l) 5) := ⟨_, rfl⟩
  have HW3 := hid hw3
  have hb23 : Below w2.heap.size w2 w3 := by rw [hw3]; exact (Below.refl _ _).alloc (Nat.le_refl _) _
  have HG3 : Hid (w3.heap[w2.heap.size]? = some (.cells (bs (List.replicate l 0)).toArray 5 (0, 0))) := by rw [hw3]; exact made_blk w2 l
  have HMN : Hid (CS.length = Nat.min n l) := by unfold Hid; rw [HCL.out]; show l = min n l; omega
  have HPS : Hid (∀ j v, CS[j]? = some v → w3.cell? ((⟨g, off, none⟩ : Addr).add j) = some v) := fun j v hv => by
    have hj : j < l := by have := (List.getElem?_eq_some_iff.1 hv).1; rw [HCL.out] at this; exact this
    obtain ⟨g', off', hgg, hg', hcj⟩ := HSV.out.atB j (by omega)
    cases hgg
    have hb3 := hb2.trans (hb23.mono hb2.size)
    rw [Addr.add_mid, (hb3.cell (p := ⟨g, off + j, none⟩) hg).trans hcj, ← hv, HCS.out, HXE.out]
    unfold bs byt
    rw [List.getElem?_map, List.getElem?_take_of_lt hj, List.getD_eq_getElem?_getD]
    have : j < L.length := by omega
    rw [List.getElem?_eq_getElem this]
    rfl
  have HFT : Hid (0 + CS.length ≤ (bs (List.replicate l 0)).length) := by unfold Hid; rw [HCL.out, bs, List.length_map, List.length_replicate]; omega
  have HSP : Hid (splice (bs (List.replicate l 0)) 0 CS = bs X) := by
    unfold Hid; rw [splice_whole (by rw [HCL.out, bs, List.length_map, List.length_replicate]), HCS.out]
  generalize bs (List.replicate l 0) = Z0 at *
  have HB3 := hid hb23
  have HB2 := hid hb2
  clear hw3 hb23 hb2
  go_upto_region 7 with fail
  rw [← HW3.out]
  go_wp2_with (first
    | (refine wpList_copy_splice rfl (.tmp 23) (.tmp 24) 25 25 rfl 5 Try.underlying25 size5 (some ⟨w2.heap.size, 0, none⟩) (some ⟨g, off, none⟩) l l n cap rfl rfl w2.heap.size 0 Z0 5 HG3.out CS HMN.out (fun _ => ⟨rfl, ⟨g, off, none⟩, rfl, HPS.out⟩) HFT.out HCO.out w2.heap.size w2 HB3.out (Nat.le_refl _) ?_)
    | fail)
  intro w4 hg4 hb4
  rw [HSP.out] at hg4
  have hB4 : Blk w4 w2.heap.size X := hg4.out
  have d8 := hB4.cell 8 (by have := F4.out; omega)
  rw [HBT.out] at d8
  have e8 := hB4.free 8
  clear hg4
  go_upto_region 9 with fail
  have hv8 : ((x8 : Int) - 1) = ((x8 - 1 : Nat) : Int) := by omega
  rw [hv8]
  have hB5 := hB4.set 8 (x8 - 1)
  have hu5 := But.set w2.heap.size 8 w4 (.int .u8 ((x8 - 1 : Nat) : Int))
  generalize w4.setCell ⟨w2.heap.size, 8, none⟩ (.int .u8 ((x8 - 1 : Nat) : Int)) = w5 at hB5 hu5 ⊢
  have HSL := hid (HSEAL.out _ _ hB5)
  clear d8 e8 hB4 HSEAL
  go_wp2_with fail
  refine HSL.out.mono ?_
  rintro _ w6 ⟨rfl, hB6, hu6⟩
  have hb6 : Below w2.heap.size w2 w6 := hu6.below (hu5.below hb4 hb4.size (Nat.le_refl _)) (Nat.le_trans hb4.size hu5.size) (Nat.le_refl _)
  go_wp2_with fail
  refine bodyPost_ret (results_tmp2 Try.results26 _ _ _) rfl ?_
  refine ⟨some ⟨w2.heap.size, 0, none⟩, l, l, rfl, ?_, HB2.out.trans (hb6.mono HB2.out.size)⟩
  have hlb := HBL.out.1
  have := hB6.out.sees HBL.out.2 0 l l (by omega) (Nat.le_refl _) (by unfold maxLen; omega)
  rwa [List.drop_zero, List.take_of_length_le (by omega)] at this
end Go.Proofs.Ytjjmopmdiflffab
