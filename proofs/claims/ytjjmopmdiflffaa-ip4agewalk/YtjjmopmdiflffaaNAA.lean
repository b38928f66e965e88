import Derived.Test.YtjjmopmdiflffaaNMathG
import Derived.Test.YtjjmopmdiflffaaNWF
import Derived.Test.YtjjmopmdiflffaaNBL
namespace Go.Proofs.Ytjjmopmdiflffaa.N
open Go.ChangeShapes Go.WideShapes Go.ChangeAt Go.RowKit
set_option maxHeartbeats 1000000
set_option maxRecDepth 100000

set_option maxHeartbeats 1000000 in
/-- Age, done: the bytes lie in a block of their own. -/
theorem age_new (v : Value) (L : List Nat) (w : World) (hv : SeesB w v L) (hl : L.length ≤ 140737488355328) (he : (exam L true).2.2 = 0) (ht : 2 ≤ byt L 8) :
    Calls Try.prog 33 #[v] w fun e w' => ∃ ao n cap, e = .returned (.tuple #[.slice ao n cap, .int .i64 0]) ∧ SeesB w' (.slice ao n cap) (builtL ((parsed L).1.withTTL (byt L 8 - 1)) (parsed L).2.1) ∧ (∀ a, ao = some a → w.heap.size ≤ a.block) ∧ Below w.heap.size w w' := by
  have HX := exam_code v L true w hv hl
  obtain ⟨m, l, hex, f1, f2, f3, f4, f5, f6, f7, f8, f9, hp⟩ := read_facts hv.bytes he
  rw [hex] at HX
  rw [hp]
  have HSV := hid hv
  have HBY := hid hv.bytes
  have hbX : ∀ x ∈ L.take l, x < 256 := fun x hx => HBY.out x (List.mem_of_mem_take hx)
  have HAG := aged (t := byt L 8 - 1) hbX (by omega) (by omega) f5 f6 f7 f8 (f9 _)
  obtain ⟨ao, n, cap, rfl, HN, hn1, hn2⟩ := hv.shape
  unfold maxLen at hn2
  have hln : l ≤ n := by have := HN.out; omega
  obtain ⟨g, off, rfl, hg, hc8⟩ := hv.atB 8 (by omega)
  have b8 : (8 : Int) < (n : Int) := by omega
  have b8' : (8 : Int) < (l : Int) := by omega
  have hmk := make_bytes l (by omega)
  have hbt : byt (L.take l) 8 = byt L 8 := byt_take (by omega)
  have HX8 := byt_lt HBY.out 8
  have HXX : Hid (exam L true = (m + 20, l, 0)) := hex
  have HX := hid HX
  simp only at HX
  generalize builtL ((rdH (L.take l) (m + 20)).withTTL (byt L 8 - 1)) ((L.take l).drop (m + 20)) = bl at *
  have HSEAL : Hid (∀ (u : World) (gg : Nat), Blk u gg ((L.take l).set 8 (byt L 8 - 1)) → Calls Try.prog 29 #[.slice (some ⟨gg, 0, none⟩) (m + 20) l] u fun e w' => e = .returned (.tuple #[]) ∧ Hid (Blk w' gg bl) ∧ But gg u w') := fun u gg hu => by
    have := seal_any gg (m + 20) l _ u hu (fun x hx => by
      rcases List.mem_or_eq_of_mem_set hx with hx | hx
      · exact hbX x hx
      · omega) (by omega) (by rw [List.length_set]; omega) f3 (by omega)
    rw [HAG] at this
    exact this
  have HBL : Hid (bl.length = l ∧ ∀ x ∈ bl, x < 256) := by
    refine ⟨by rw [← HAG]; simpa using f4, fun x hx => ?_⟩
    rw [← HAG] at hx
    have hc := M.csum_lt (((L.take l).set 8 (byt L 8 - 1)).take 10 ++ (((L.take l).set 8 (byt L 8 - 1)).take (m + 20)).drop 12)
    rcases List.mem_or_eq_of_mem_set hx with hx | hx
    · rcases List.mem_or_eq_of_mem_set hx with hx | hx
      · rcases List.mem_or_eq_of_mem_set hx with hx | hx
        · exact hbX x hx
        · omega
      · omega
    · omega
  clear HAG hex f5 f6 f7 f8 f9 hp he
  obtain ⟨X, hX⟩ : ∃ X, X = L.take l := ⟨_, rfl⟩
  rw [← hX] at HSEAL f4 hbt
  have HXE := hid hX
  generalize byt L 8 = x8 at *
  obtain ⟨CS, hCS⟩ : ∃ CS, CS = bs X := ⟨_, rfl⟩
  have HCS := hid hCS
  have HCL : Hid (CS.length = l) := by unfold Hid; rw [hCS, bs, List.length_map]; exact f4
  have HCO : Hid (∀ v ∈ CS, v.oneCell' = true) := fun v hv => by
    rw [hCS] at hv
    obtain ⟨y, _, rfl⟩ := List.mem_map.1 hv
    rfl
  have hmz : (((m + 20 : Nat)) : Int) = (m : Int) + 20 := by omega
  have F4 := hid f4
  have HBT := hid hbt
  clear hX hCS hv hbX f4 hbt
  go_enter Try.func33, Try.ntmps33
  go_wp2_with fail
  refine HX.out.mono ?_
  rintro _ w2 ⟨rfl, hb2⟩
  have c8 : w2.cell? ⟨g, off + 8, none⟩ = some (.int .u8 (x8 : Int)) := (hb2.cell (p := ⟨g, _, none⟩) hg).trans hc8
  obtain ⟨w3, hw3⟩ : ∃ w3, w3 = w2.alloc (.cells (madeCells #[.int .u8 0] l) 5) := ⟨_, rfl⟩
  have HW3 := hid hw3
  have hb23 : Below w2.heap.size w2 w3 := by rw [hw3]; exact (Below.refl _ _).alloc (Nat.le_refl _) _
  have HG3 : Hid (w3.heap[w2.heap.size]? = some (.cells (bs (List.replicate l 0)).toArray 5 (0, 0))) := by rw [hw3]; exact made_blk w2 l
  have HMN : Hid (CS.length = Nat.min n l) := by unfold Hid; rw [HCL.out]; show l = min n l; omega
  have HPS : Hid (∀ j v, CS[j]? = some v → w3.cell? ((⟨g, off, none⟩ : Addr).add j) = some v) := fun j v hv => by
    have hj : j < l := by have := (List.getElem?_eq_some_iff.1 hv).1; rw [HCL.out] at this; exact this
    obtain ⟨g', off', hgg, hg', hcj⟩ := HSV.out.atB j (by omega)
    cases hgg
    have hb3 := hb2.trans (hb23.mono hb2.size)
    rw [Addr.add_mid, (hb3.cell (p := ⟨g, off + j, none⟩) hg).trans hcj, ← hv, HCS.out, HXE.out]
    unfold bs byt
    rw [List.getElem?_map, List.getElem?_take_of_lt hj, List.getD_eq_getElem?_getD]
    have : j < L.length := by omega
    rw [List.getElem?_eq_getElem this]
    rfl
  have HFT : Hid (0 + CS.length ≤ (bs (List.replicate l 0)).length) := by unfold Hid; rw [HCL.out, bs, List.length_map, List.length_replicate]; omega
  have HSP : Hid (splice (bs (List.replicate l 0)) 0 CS = bs X) := by
    unfold Hid; rw [splice_whole (by rw [HCL.out, bs, List.length_map, List.length_replicate]), HCS.out]
  generalize bs (List.replicate l 0) = Z0 at *
  have HB3 := hid hb23
  have HB2 := hid hb2
  clear hw3 hb23 hb2
  go_upto_region 7 with fail
  rw [← HW3.out]
  go_wp2_with (first
    | (refine wpList_copy_splice rfl (.tmp 23) (.tmp 24) 24 24 rfl 5 Try.underlying24 size5 (some ⟨w2.heap.size, 0, none⟩) (some ⟨g, off, none⟩) l l n cap rfl rfl w2.heap.size 0 Z0 5 HG3.out CS HMN.out (fun _ => ⟨rfl, ⟨g, off, none⟩, rfl, HPS.out⟩) HFT.out HCO.out w2.heap.size w2 HB3.out (Nat.le_refl _) ?_)
    | fail)
  intro w4 hg4 hb4
  rw [HSP.out] at hg4
  have hB4 : Blk w4 w2.heap.size X := hg4.out
  have d8 := hB4.cell 8 (by have := F4.out; omega)
  rw [HBT.out] at d8
  have e8 := hB4.free 8
  clear hg4
  go_upto_region 9 with fail
  have hv8 : ((x8 : Int) - 1) = ((x8 - 1 : Nat) : Int) := by omega
  rw [hv8]
  have hB5 := hB4.set 8 (x8 - 1)
  have hu5 := But.set w2.heap.size 8 w4 (.int .u8 ((x8 - 1 : Nat) : Int))
  generalize w4.setCell ⟨w2.heap.size, 8, none⟩ (.int .u8 ((x8 - 1 : Nat) : Int)) = w5 at hB5 hu5 ⊢
  have HSL := hid (HSEAL.out _ _ hB5)
  clear d8 e8 hB4 HSEAL
  go_wp2_with fail
  refine HSL.out.mono ?_
  rintro _ w6 ⟨rfl, hB6, hu6⟩
  have hb6 : Below w2.heap.size w2 w6 := hu6.below (hu5.below hb4 hb4.size (Nat.le_refl _)) (Nat.le_trans hb4.size hu5.size) (Nat.le_refl _)
  go_wp2_with fail
  refine bodyPost_ret (results_tmp2 Try.results33 _ _ _) rfl ?_
  refine ⟨some ⟨w2.heap.size, 0, none⟩, l, l, rfl, ?_, (fun a h => by cases h; exact HB2.out.size), HB2.out.trans (hb6.mono HB2.out.size)⟩
  have hlb := HBL.out.1
  have := hB6.out.sees HBL.out.2 0 l l (by omega) (Nat.le_refl _) (by unfold maxLen; omega)
  rwa [List.drop_zero, List.take_of_length_le (by omega)] at this

/-- Age of what was built. -/
theorem age_built (h : Hd) (v : Value) (B T : List Nat) (w : World) (hok : h.Ok) (he : refE h B.length = 0) (hv : SeesB w v (builtL h B ++ T)) (hl : T.length ≤ 1000) :
    Calls Try.prog 33 #[v] w fun e w' => ∃ ao n cap, e = .returned (.tuple #[.slice ao n cap, .int .i64 (if h.ttl < 2 then 35 else 0)]) ∧ SeesB w' (.slice ao n cap) (if h.ttl < 2 then [] else builtL (h.withTTL (h.ttl - 1)) B) ∧ (∀ a, ao = some a → w.heap.size ≤ a.block) ∧ Below w.heap.size w w' := by
  obtain ⟨r1, r2, r3⟩ := refE_ok he
  obtain ⟨x1, x2, _, _⟩ := parse_built h B T hok he true
  have hp := parsed_built h B T hok he
  have hz : (exam (builtL h B ++ T) true).2.2 = 0 := by rw [x1]
  have x2' : (builtL h B).length = 20 + h.opts.length + B.length := x2
  obtain ⟨m, l, hex, f1, f2, f3, f4, f5, f6, f7, f8, f9, hp'⟩ := read_facts hv.bytes hz
  have htt : byt (builtL h B ++ T) 8 = h.ttl := by
    have h1 : (parsed (builtL h B ++ T)).1.ttl = byt (builtL h B ++ T) 8 := by rw [hp']; show byt ((builtL h B ++ T).take l) 8 = _; exact byt_take (by omega)
    rw [← h1, hp]
  have hll : (builtL h B ++ T).length ≤ 140737488355328 := by rw [List.length_append]; omega
  by_cases ht : h.ttl < 2
  · rw [if_pos ht, if_pos ht]
    refine (age_old v _ w hv hll hz (by rw [List.length_append]; omega) (by rw [htt]; exact ht)).mono ?_
    rintro _ w' ⟨rfl, hb⟩
    exact ⟨none, 0, 0, rfl, sees_nil _, (fun a h => by cases h), hb⟩
  · rw [if_neg ht, if_neg ht]
    have := age_new v _ w hv hll hz (by rw [htt]; omega)
    rw [hp, htt] at this
    exact this

theorem SeesB.setNe {w : World} {v : Value} {L : List Nat} {b i : Nat} {x : Value} (h : SeesB w v L) (hne : ∀ a n c, v = .slice (some a) n c → a.block ≠ b) : SeesB (w.setCell ⟨b, i, none⟩ x) v L := by
  obtain ⟨ao, cap, hv, h1, h2, h3⟩ := h
  refine ⟨ao, cap, hv, h1, h2, fun j hj => ?_⟩
  obtain ⟨g, off, ha, hg, c0, c1⟩ := h3 j hj
  have hgb : g ≠ b := by
    have := hne ⟨g, off, none⟩ L.length cap (by rw [hv, ha])
    exact this
  refine ⟨g, off, ha, by simpa [World.setCell] using hg, ?_, c1⟩
  have hb : Below b w (w.setCell ⟨b, i, none⟩ x) := (Below.refl _ _).setCell (p := ⟨b, i, none⟩) (Nat.le_refl _) _
  have e := World.cell?_setCells_out b [x] i w ⟨g, off + j, none⟩ (fun h => absurd h hgb)
  exact (show (w.setCell ⟨b, i, none⟩ x).cell? _ = _ from e).trans c0

theorem withTTL_ok {h : Hd} (hok : h.Ok) {t : Nat} (ht : t < 256) : (h.withTTL t).Ok :=
  ⟨hok.tos, hok.id, hok.off, ht, hok.proto, hok.src, hok.dst⟩

theorem row_ttl {w : World} {b t : Nat} {h : Hd} {vo vb : Value} (hr : w.heap[b]? = some (.cells (pkCells h vo vb) 43 (0, 0))) : (w.setCell ⟨b, 5, none⟩ (.int .u8 (t : Int))).heap[b]? = some (.cells (pkCells (h.withTTL t) vo vb) 43 (0, 0)) :=
  heap_setCell_same w b 5 _ 43 _ hr
end Go.Proofs.Ytjjmopmdiflffaa.N
