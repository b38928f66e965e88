/-
  The reference: New, own, there, without.
-/
import Derived.Test.YtaelfhjhinfikabDG
namespace Go.Proofs.Ytaelfhjhinfikab
open Go.ChangeShapes Go.WideShapes Go.ChangeAt Go.RowKit Me
set_option maxHeartbeats 2000000
set_option maxRecDepth 100000

theorem newR_any (l : Int) (w : World) : Calls Try.prog 22 #[.int .i64 l] w fun e w' =>
    (newB l = false ∧ e = .returned (.tuple #[.pointer none, .int .i64 1]) ∧ w' = w) ∨
    (newB l = true ∧ ∃ m : Nat, l = (m : Int) ∧ e = .returned (.tuple #[.pointer (some ⟨w.heap.size, 0, none⟩), .int .i64 0]) ∧ HAt 67 (mkR m) w' w.heap.size (.slice none 0 0) [] ∧ Below w.heap.size w w') := by
  by_cases h1 : l < 1
  · have HE : Hid (newB l = false) := by unfold Hid newB; simp; omega
    have q1 : decide (l < 1) = true := by simpa using h1
    go_enter Try.func22, Try.ntmps22
    go_wp2_with fail
    go_ret2
    exact .inl ⟨HE.out, rfl, rfl⟩
  · by_cases h2 : 4096 < l
    · have HE : Hid (newB l = false) := by unfold Hid newB; simp; omega
      have q1 : decide (l < 1) = false := by simpa using h1
      have q2 : decide (4096 < l) = true := by simpa using h2
      go_enter Try.func22, Try.ntmps22
      go_wp2_with fail
      go_ret2
      exact .inl ⟨HE.out, rfl, rfl⟩
    · have HE : Hid (newB l = true) := by unfold Hid newB; simp; omega
      obtain ⟨m, rfl⟩ : ∃ m : Nat, l = (m : Int) := ⟨l.toNat, by omega⟩
      have q1 : decide ((m : Int) < 1) = false := by simpa using h1
      have q2 : decide ((4096 : Int) < (m : Int)) = false := by simpa using h2
      have HR : Hid ((w.alloc (.cells #[.slice none 0 0, .int .i64 (m : Int)] 67)).heap[w.heap.size]? = some (.cells (mkR m (.slice none 0 0)) 67 (0, 0))) := heap_alloc_new w _
      go_enter Try.func22, Try.ntmps22
      go_wp2_with fail
      go_ret2
      exact .inr ⟨HE.out, m, rfl, rfl, ⟨HR.out, Fl.nil _⟩, (Below.refl _ _).alloc (Nat.le_refl _) _⟩

theorem HAt.cellsR {m : Nat} {w : World} {pb : Nat} {v : Value} {E : List En} (h : HAt 67 (mkR m) w pb v E) : w.cell? ⟨pb, 0, none⟩ = some v ∧ w.cell? ⟨pb, 1, none⟩ = some (.int .i64 (m : Int)) ∧ w.frozen? ⟨pb, 0, none⟩ = false := by
  have hr := h.row
  refine ⟨?_, ?_, frozen_of_row _ _ _ _ _ hr⟩ <;> (rw [cell_of_row _ _ _ _ _ _ hr]; rfl)

theorem there_any (w : World) (pb m : Nat) (v : Value) (E : List En) (i : Int) (h : HAt 67 (mkR m) w pb v E) :
    Calls Try.prog 39 #[.pointer (some ⟨pb, 0, none⟩), .int .i64 i] w fun e w' => e = .returned (.bool (inR i E.length)) ∧ w' = w := by
  obtain ⟨c1, -, -⟩ := h.cellsR
  obtain ⟨a, n, cap, rfl, HN, hn1, hn2, -⟩ := h.fl.shape
  unfold maxLen at hn2
  rw [← HN.out]
  clear h HN
  by_cases h1 : 0 ≤ i
  · have q1 : decide (0 ≤ i) = true := by simpa using h1
    have HE : Hid (inR i n = decide (i < (n : Int))) := by unfold Hid inR; rw [q1]; simp
    rw [HE.out]
    go_enter Try.func39, Try.ntmps39
    go_wp2_with fail
    go_ret
    exact ⟨rfl, rfl⟩
  · have q1 : decide (0 ≤ i) = false := by simpa using h1
    have HE : Hid (inR i n = false) := by unfold Hid inR; rw [q1]; simp
    rw [HE.out]
    go_enter Try.func39, Try.ntmps39
    go_wp2_with fail
    go_ret
    exact ⟨rfl, rfl⟩

/-- A byte is laid behind an own list. -/
theorem append_byte (w : World) (B : Nat) (v : Value) (T : List Nat) (x b : Nat) (h : OwnB w B v T) (hc : w.cell? ⟨b, 0, none⟩ = some (.int .u8 (x : Int))) (hB : B ≤ w.heap.size) (hbig : T.length + 1 ≤ 140737488355328) :
    ∃ a n c w', (∀ ty, (Builtin.append_ #[39, 39] ty #[v, .slice (some ⟨b, 0, none⟩) 1 1]).run Try.prog w = .ok (.slice a n c) w') ∧ OwnB w' B (.slice a n c) (T ++ [x]) ∧ Keeps (fun k => v.ownBlock = some k) w w' := by
  obtain ⟨i0, hi0, hz0, hz1, hz2⟩ := info_parts infoB
  obtain ⟨v', w', hr, hrow, hg, hnw, -, -⟩ := append_gen (P := Try.prog) w B 39 0 5 i0 _ 1 1 uB hi0 hz0 hz1 hz2 rfl (by decide) (by decide) v T.length (bs T) h b 1 1 (bs [x]) (by simp [bs]) (by
    intro j u hj
    match j, hj with
    | 0, hj => simp [bs] at hj; rw [← hj]; exact hc
    | j + 1, hj => simp [bs] at hj) (by intro u hu; simp [bs] at hu; rw [hu]; rfl) (by decide) (by omega) hB
  have ho : OwnB w' B v' (T ++ [x]) := by
    unfold OwnB
    rw [List.length_append, show bs (T ++ [x]) = bs T ++ bs [x] by simp [bs]]
    exact hrow
  obtain ⟨a, n, c, rfl, -⟩ := ho.shape
  exact ⟨a, n, c, w', fun ty => hr, ho, Keeps.grown hg fun k e => e⟩

theorem own_any (w : World) (K : Nat → Prop) (ad : Nat) (u : Value) (L : List Nat) (hu : SeesB K w u L) (hl : L.length ≤ 65535) :
    Calls Try.prog 37 #[.agg #[.int .u32 (ad : Int), u]] w fun e w' => ∃ a n c, e = .returned (.agg #[.int .u32 (ad : Int), .slice a n c]) ∧ OwnB w' w.heap.size (.slice a n c) L ∧ Below w.heap.size w w' := by
  obtain ⟨pa, n, pc, rfl, HN, hn1, hn2⟩ := hu.shape
  unfold maxLen at hn2
  obtain ⟨w1, HW1⟩ : ∃ w1, Hid (w1 = (w.alloc (.cells #[.int .u32 (ad : Int), .slice pa n pc] 41)).alloc (.cells #[.int .u32 0, .slice none 0 0] 41)) := ⟨_, rfl⟩
  have hb1 : Below w.heap.size w w1 := by rw [HW1.out]; exact ((Below.refl _ _).alloc (Nat.le_refl _) _).alloc (by simp) _
  have r1 : w1.heap[w.heap.size]? = some (.cells #[.int .u32 (ad : Int), .slice pa n pc] 41 (0, 0)) := by rw [HW1.out, Below.heap_alloc _ _ _ (by simp)]; exact heap_alloc_new w _
  have r2 : w1.heap[w.heap.size + 1]? = some (.cells #[.int .u32 0, .slice none 0 0] 41 (0, 0)) := by
    have h := heap_alloc_new (w.alloc (.cells #[.int .u32 (ad : Int), .slice pa n pc] 41)) (.cells #[.int .u32 0, .slice none 0 0] 41)
    rw [World.size_alloc] at h
    rw [HW1.out]; exact h
  obtain ⟨b1, HB1⟩ : ∃ b, Hid (b = w.heap.size) := ⟨_, rfl⟩
  obtain ⟨b2, HB2⟩ : ∃ b, Hid (b = w.heap.size + 1) := ⟨_, rfl⟩
  rw [← HB1.out] at r1
  rw [← HB2.out] at r2
  have HU := hid hu
  have HBW := hid hb1
  have R1 := hid r1
  have R2 := hid r2
  have hnl : n ≤ 65535 := by have := HN.out; omega
  clear hu hb1 r1 r2 hl
  go_enter Try.func37, Try.ntmps37
  go_upto_region 1 with fail
  rw [← HW1.out, ← HB1.out]
  rw [show b1 + 1 = b2 by have := HB1.out; have := HB2.out; omega]
  go_upto_region 3 with fail
  go_loopw [3, 4] (fun v i wr => ∃ (j : Nat) (va : Option Addr) (vn vc : Nat), i = .int .i64 (j : Int) ∧ v = .slice va vn vc ∧ j ≤ n ∧ Hid (Below w.heap.size w wr) ∧ Hid (OwnB wr w.heap.size (.slice va vn vc) (L.take j)) ∧ Hid (wr.heap[b1]? = some (.cells #[.int .u32 (ad : Int), .slice pa n pc] 41 (0, 0))) ∧ Hid (wr.heap[b2]? = some (.cells #[.int .u32 0, .slice none 0 0] 41 (0, 0)))) (fun _ i _ => n - (intOf i).toNat)
  case atStart => exact ⟨0, none, 0, 0, rfl, rfl, Nat.zero_le _, HBW, ownB_nil _ _, R1, R2⟩
  case round =>
    obtain ⟨j, va, vn, vc, rfl, rfl, hj, HB, HO, HR1, HR2⟩ := hrel
    by_cases hlt : j < n
    · have hlt' : (j : Int) < (n : Int) := int_lt hlt
      have h2 : (0 : Int) ≤ (j : Int) := by omega
      have c1 : wr.cell? ⟨b1, 1, none⟩ = some (.slice pa n pc) := by rw [cell_of_row _ _ _ _ _ _ HR1.out]; rfl
      obtain ⟨g, off, x, rfl, hg, hc, hx, HX⟩ := (HU.out.below HB.out).at j hlt
      obtain ⟨wa, HWA⟩ : ∃ wa, Hid (wa = wr.alloc (.cells #[.int .u8 (x : Int)] 5)) := ⟨_, rfl⟩
      have hk : wa.heap[wr.heap.size]? = some (.cells #[.int .u8 (x : Int)] 5 (0, 0)) := by rw [HWA.out]; exact heap_alloc_new wr _
      have hba : Below wr.heap.size wr wa := by rw [HWA.out]; exact (Below.refl _ _).alloc (Nat.le_refl _) _
      obtain ⟨a3, n3, c3, w3, hap, ho3, hk3⟩ := append_byte wa w.heap.size _ _ x wr.heap.size (HO.out.below hba) (by rw [cell_of_row _ _ _ _ _ _ hk]; rfl) (Nat.le_trans HB.out.size hba.size) (by rw [List.length_take]; omega)
      rw [← take_snoc HX.out] at ho3
      have HAP := hid hap
      have HO3 := hid ho3
      have hne : ∀ {k : Nat} {cs : Array Value}, wa.heap[k]? = some (.cells cs 41 (0, 0)) → Value.ownBlock (.slice va vn vc) ≠ some k := fun {k cs} h1 h2 => by
        obtain ⟨cs2, h3⟩ := (HO.out.below hba).kind h2
        rw [h1] at h3
        simp at h3
      have HR13 : Hid (w3.heap[b1]? = _) := hk3.mem (below_keeps hba HR1.out (Array.getElem?_eq_some_iff.1 HR1.out).1) (hne (below_keeps hba HR1.out (Array.getElem?_eq_some_iff.1 HR1.out).1))
      have HR23 : Hid (w3.heap[b2]? = _) := hk3.mem (below_keeps hba HR2.out (Array.getElem?_eq_some_iff.1 HR2.out).1) (hne (below_keeps hba HR2.out (Array.getElem?_eq_some_iff.1 HR2.out).1))
      have HB3 : Hid (Below w.heap.size w w3) := hk3.below' (HB.out.trans (hba.mono HB.out.size)) (fun k e => (HO.out.lt e).1) (Nat.le_refl _)
      clear hk hba hap ho3 hk3 hne HX hg
      go_wp2_with (first | (at_builtin; rw [← HWA.out]; refine wpList_append_run _ rfl (.tmp 12) (.tmp 18) 39 39 rfl _ _ rfl rfl (HAP.out _) ?_) | fail)
      go_roundw
      case rel => exact ⟨j + 1, a3, n3, c3, by go_num, rfl, hlt, HB3, HO3, HR13, HR23⟩
      case measure => simp [intOf]; omega
    · have hlt' : ¬ (j : Int) < (n : Int) := int_nlt hlt
      have c1 : wr.cell? ⟨b1, 1, none⟩ = some (.slice pa n pc) := by rw [cell_of_row _ _ _ _ _ _ HR1.out]; rfl
      have c0 : wr.cell? ⟨b1, 0, none⟩ = some (.int .u32 (ad : Int)) := by rw [cell_of_row _ _ _ _ _ _ HR1.out]; rfl
      have g0 : wr.cell? ⟨b2, 0, none⟩ = some (.int .u32 0) := by rw [cell_of_row _ _ _ _ _ _ HR2.out]; rfl
      have g1 : wr.cell? ⟨b2, 1, none⟩ = some (.slice none 0 0) := by rw [cell_of_row _ _ _ _ _ _ HR2.out]; rfl
      have g2 : wr.frozen? ⟨b2, 0, none⟩ = false := frozen_of_row _ _ _ _ _ HR2.out
      have g3 : wr.frozen? ⟨b2, 1, none⟩ = false := frozen_of_row _ _ _ _ _ HR2.out
      obtain ⟨w4, HW4⟩ : ∃ w4, Hid (w4 = (wr.setCell ⟨b2, 0, none⟩ (.int .u32 (ad : Int))).setCell ⟨b2, 1, none⟩ (.slice va vn vc)) := ⟨_, rfl⟩
      have t4 : w4.heap[b2]? = some (.cells #[.int .u32 (ad : Int), .slice va vn vc] 41 (0, 0)) := by
        rw [HW4.out]; exact set_cells (i := 1) (set_cells (i := 0) HR2.out)
      have k4 : Keeps (fun k => k = b2) wr w4 := by
        rw [HW4.out]; exact Keeps.set (S := fun k => k = b2) (Keeps.set (S := fun k => k = b2) (Keeps.refl _ _) ⟨b2, 0, none⟩ rfl _) ⟨b2, 1, none⟩ rfl _
      have HO4 : Hid (OwnB w4 w.heap.size (.slice va vn vc) L) := by
        have := HO.out
        rw [List.take_of_length_le (by have := HN.out; omega)] at this
        refine this.keeps k4 fun k h1 h2 => ?_
        obtain ⟨cs, h3⟩ := this.kind h1
        rw [h2, HR2.out] at h3
        simp at h3
      have HB4 : Hid (Below w.heap.size w w4) := k4.below' HB.out (fun k e => by have := HB2.out; omega) (Nat.le_refl _)
      have j0 : w4.cell? ⟨b2, 0, none⟩ = some (.int .u32 (ad : Int)) := by rw [cell_of_row _ _ _ _ _ _ t4]; rfl
      have j1 : w4.cell? ⟨b2, 1, none⟩ = some (.slice va vn vc) := by rw [cell_of_row _ _ _ _ _ _ t4]; rfl
      clear t4 k4
      go_wp2_with fail
      rw [← HW4.out]
      refine bodyPost_ret (v := .agg #[.int .u32 (ad : Int), .slice va vn vc]) (by simp [results, Try.results37, go_sem, j0, j1]) rfl ⟨_, _, _, rfl, HO4.out, HB4.out⟩

theorem erase_ne {E : List En} {i j : Nat} {e : En} (hj : E[j]? = some e) (hne : j ≠ i) : (E.take (j + 1)).eraseIdx i = (E.take j).eraseIdx i ++ [e] := by
  have hjl := (List.getElem?_eq_some_iff.1 hj).1
  rw [take_snoc hj]
  rcases Nat.lt_or_gt_of_ne hne with h | h
  · rw [List.eraseIdx_of_length_le (by rw [List.length_append, List.length_take]; simp; omega), List.eraseIdx_of_length_le (by rw [List.length_take]; omega)]
  · rw [List.eraseIdx_append_of_lt_length (by rw [List.length_take]; omega)]
theorem erase_eq' {E : List En} {i : Nat} {e : En} (hi : E[i]? = some e) : (E.take (i + 1)).eraseIdx i = (E.take i).eraseIdx i := by
  have hjl := (List.getElem?_eq_some_iff.1 hi).1
  have hl : (E.take i).length = i := by rw [List.length_take]; omega
  rw [take_snoc hi, List.eraseIdx_append_of_length_le (by omega), hl, List.eraseIdx_of_length_le (l := E.take i) (by omega)]
  simp

theorem without_any (w : World) (pb m i : Nat) (v : Value) (E : List En) (h : HAt 67 (mkR m) w pb v E) (hE : E.length ≤ 4096) :
    Calls Try.prog 40 #[.pointer (some ⟨pb, 0, none⟩), .int .i64 (i : Int)] w fun e w' => ∃ a n c, e = .returned (.slice a n c) ∧ Fl w' (.slice a n c) (E.eraseIdx i) ∧ (∀ k, Value.ownBlock (.slice a n c) = some k → w.heap.size ≤ k) ∧ Below w.heap.size w w' := by
  obtain ⟨a, n, cap, rfl, HN, hn1, hn2, -⟩ := h.fl.shape
  unfold maxLen at hn2
  have HH := hid h
  have hnl : n ≤ 4096 := by have := HN.out; omega
  clear h
  go_enter Try.func40, Try.ntmps40
  go_upto_region 3 with fail
  go_loopw [5, 6] (fun v q wr => ∃ (j : Nat) (va : Option Addr) (vn vc : Nat), q = .int .i64 (j : Int) ∧ v = .slice va vn vc ∧ j ≤ n ∧ Hid (Below w.heap.size w wr) ∧ Hid (Fl wr (.slice va vn vc) ((E.take j).eraseIdx i)) ∧ Hid (∀ k, Value.ownBlock (.slice va vn vc) = some k → w.heap.size ≤ k)) (fun _ q _ => n - (intOf q).toNat)
  case atStart => exact ⟨0, none, 0, 0, rfl, rfl, Nat.zero_le _, Below.refl _ _, by unfold Hid; simpa using Fl.nil w, fun k hk => by cases hk⟩
  case round =>
    obtain ⟨j, va, vn, vc, rfl, rfl, hj, HB, HF, HNW⟩ := hrel
    have hatr := HH.out.below HB.out
    obtain ⟨c1, -, -⟩ := hatr.cellsR
    by_cases hlt : j < n
    · have hlt' : (j : Int) < (n : Int) := int_lt hlt
      have h2 : (0 : Int) ≤ (j : Int) := by omega
      have hjE : j < E.length := by have := HN.out; omega
      have hjs := List.getElem?_eq_getElem hjE
      by_cases hji : j = i
      · subst hji
        have q1 : ((j : Int) == (j : Int)) = true := by simp
        have HF2 : Hid (Fl wr (.slice va vn vc) ((E.take (j + 1)).eraseIdx j)) := by unfold Hid; rw [erase_eq' hjs]; exact HF.out
        clear hjs hatr hjE
        go_wp2_with fail
        go_roundw
        case rel => exact ⟨j + 1, va, vn, vc, by go_num, rfl, hlt, HB, HF2, HNW⟩
        case measure => simp [intOf]; omega
      · have q1 : ((j : Int) == (i : Int)) = false := by simp; omega
        have q2 : ¬ (j : Int) = (i : Int) := by omega
        obtain ⟨g, rfl, hg, hc⟩ := hatr.fl.at hjs
        obtain ⟨e0, e1, -⟩ := hc wr rfl
        have hown := hatr.fl.own _ (List.getElem_mem hjE)
        have hok := hatr.fl.ok _ (List.getElem_mem hjE)
        have her := erase_ne hjs hji
        have hap := fun {k : Nat} {x : En} (hk : E[k]? = some x) (hkj : k ≠ j) {b : Nat} (hb : x.u.ownBlock = some b) => hatr.fl.apart hk hjs hkj hb
        generalize E[j] = e at *
        obtain ⟨ea, eb, eu⟩ := e
        simp only at e0 e1 hown hok hap
        obtain ⟨ua, un, uc, rfl, -, -, -⟩ := hown.shape
        obtain ⟨wa, HWA⟩ : ∃ wa, Hid (wa = wr.alloc (.cells #[.int .u32 (ea : Int), .slice ua un uc] 41)) := ⟨_, rfl⟩
        have hba : Below wr.heap.size wr wa := by rw [HWA.out]; exact (Below.refl _ _).alloc (Nat.le_refl _) _
        have hk : wa.heap[wr.heap.size]? = some (.cells #[.int .u32 (ea : Int), .slice ua un uc] 41 (0, 0)) := by rw [HWA.out]; exact heap_alloc_new wr _
        have hdis : ∀ x ∈ (E.take j).eraseIdx i, ∀ k, x.u.ownBlock = some k → Value.ownBlock (.slice ua un uc) ≠ some k := fun x hx k hk => by
          have hx2 := List.mem_of_mem_eraseIdx hx
          obtain ⟨q, hq⟩ := List.mem_iff_getElem?.1 hx2
          rw [List.getElem?_take] at hq
          split at hq
          · exact hap hq (by omega) hk
          · cases hq
        obtain ⟨v3, w3, hr, hf3, hk3, hn3⟩ := append_en wa 0 (.slice va vn vc) _ ⟨ea, eb, .slice ua un uc⟩ wr.heap.size (HF.out.below hba) (by rw [cell_of_row _ _ _ _ _ _ hk]; rfl) (by rw [cell_of_row _ _ _ _ _ _ hk]; rfl) (hown.below hba) hok hdis (by rw [List.length_eraseIdx, List.length_take]; split <;> omega)
        rw [← her] at hf3
        obtain ⟨a3, n3, c3, rfl, -⟩ := hf3.shape
        have HAP : Hid (∀ ty, (Builtin.append_ #[33, 33] ty #[.slice va vn vc, .slice (some ⟨wr.heap.size, 0, none⟩) 1 1]).run Try.prog wa = .ok (.slice a3 n3 c3) w3) := fun ty => hr
        have HF3 := hid hf3
        have HB3 : Hid (Below w.heap.size w w3) := hk3.below' (HB.out.trans (hba.mono HB.out.size)) (fun k e => HNW.out k e) (Nat.le_refl _)
        have HN3 : Hid (∀ k, Value.ownBlock (.slice a3 n3 c3) = some k → w.heap.size ≤ k) := fun k hk => by
          rcases hn3 k hk with h | h
          · exact HNW.out k h
          · have := HB.out.size; have := hba.size; omega
        clear hjs hatr hjE hg hc hown hok her hap hba hk hdis hr hf3 hk3 hn3
        go_wp2_with (first | (at_builtin; rw [← HWA.out]; refine wpList_append_run _ rfl (.tmp 19) (.tmp 27) 33 33 rfl _ _ rfl rfl (HAP.out _) ?_) | fail)
        go_roundw
        case rel => exact ⟨j + 1, a3, n3, c3, by go_num, rfl, hlt, HB3, HF3, HN3⟩
        case measure => simp [intOf]; omega
    · have hlt' : ¬ (j : Int) < (n : Int) := int_nlt hlt
      have HF2 : Hid (Fl wr (.slice va vn vc) (E.eraseIdx i)) := by
        have := HF.out
        rw [List.take_of_length_le (by have := HN.out; omega)] at this
        exact this
      clear hatr
      go_wp2_with fail
      go_ret
      exact ⟨_, _, _, rfl, HF2.out, HNW.out, HB.out⟩
end Go.Proofs.Ytaelfhjhinfikab
