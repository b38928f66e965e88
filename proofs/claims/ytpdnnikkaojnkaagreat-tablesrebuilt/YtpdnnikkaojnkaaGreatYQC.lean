import Derived.Test.YtpdnnikkaojnkaaGreatYQB
namespace Go.Proofs.YtpdnnikkaojnkaaGreat.Rt
open Go.Proofs.YtpdnnikkaojnkaaGreat Go.ChangeShapes Go.WideShapes Go.ChangeAt Go.RowKit Go.Maps Tri N
set_option maxHeartbeats 4000000
set_option maxRecDepth 100000
theorem opD_row {w : World} {b : Nat} {o : Opv} {T : TypeId} (h : w.heap[b]? = some (.cells o.cells T)) : (w.setCell ⟨b, 0, none⟩ (.int .i64 (o.kind + 1))).heap[b]? = some (.cells (opD o).cells T) := by
  simp [World.setCell, Array.getElem?_modify, h]
  rfl
theorem take_map_step {L : List Opv} {k : Nat} {e : Opv} (h : L[k]? = some e) : (L.take (k + 1)).map opD = (L.take k).map opD ++ [opD e] := by
  rw [List.take_add_one, h, Option.toList_some, List.map_append, List.map_cons, List.map_nil]
theorem dels_any (w : World) (a : Option Addr) (n c : Nat) (L : List Opv) (hs : Own kO w 0 (.slice a n c) L) (hl : L.length ≤ 768) (hk : ∀ o ∈ L, 0 ≤ o.kind ∧ o.kind ≤ 10) :
    Calls Tryz.prog 12 #[.slice a n c] w fun e w' => ∃ v, e = .returned v ∧ Own kO w' w.heap.size v (L.map opD) ∧ Below w.heap.size w w' := by
  have HN : Hid (n = L.length) := by
    obtain ⟨_, _, _, h, h2, -, -⟩ := hs.shape
    simp only [Value.slice.injEq] at h
    obtain ⟨-, rfl, -⟩ := h
    exact h2
  have hn : n ≤ 768 := by rw [HN.out]; exact hl
  have HS := hid hs
  have HK := hid hk
  have HO0 : Hid (Own kO w w.heap.size (.slice none 0 0) []) := Own.nil _ _
  clear hs hk hl
  go_enter Tryz.func12, Tryz.ntmps12
  go_upto_region 3 with fail
  go_loopw [3, 4] (fun lv i wx => ∃ (j : Nat) (a' : Option Addr) (n' c' : Nat), lv = .slice a' n' c' ∧ i = .int .i64 (j : Int) ∧ j ≤ n ∧ Hid (Own kO wx w.heap.size (.slice a' n' c') ((L.take j).map opD)) ∧ Hid (Below w.heap.size w wx)) (fun _ i _ => n - (intOf i).toNat)
  case atStart => exact ⟨0, _, _, _, rfl, rfl, Nat.zero_le _, HO0, Below.refl _ _⟩
  case round =>
  obtain ⟨k, a', n', c', rfl, rfl, hj, HO, HB⟩ := hrel
  by_cases hlt : k < n
  · have hlt' : (k : Int) < (n : Int) := int_lt hlt
    have hk0 : (0 : Int) ≤ (k : Int) := by omega
    obtain ⟨p, HP⟩ : ∃ p, Hid (L[k]? = some p) := ⟨_, hid (List.getElem?_eq_getElem (by have := HN.out; omega))⟩
    have hpk := HK.out p (List.mem_of_getElem? HP.out)
    obtain ⟨g, rfl, hg, hat⟩ := HS.out.at HP.out
    have HLD := hid (hat wr (HB.out.block g hg)).2
    have HLEN : Hid (((L.take k).map opD).length + 1 ≤ 1073741824) := by have := HN.out; unfold Hid; simp only [List.length_map, List.length_take]; omega
    have hw : IntKind.i64.wrap (p.kind + 1) = p.kind + 1 := by rw [IntKind.wrap_i64]; omega
    clear hat hpk
    go_upto_region 6 with (first | (refine wpList_ld 46 ⟨g, k * 19, none⟩ (.tmp 14) rfl rfl HLD.out rfl ?_) | (refine wpList_alB rfl 46 opZ rfl alloc_op ?_; intro w3 hb3 hs3 hr3) | (refine wpList_stB rfl 46 (.tmp 5) (.tmp 15) rfl wr.heap.size p.cells rfl rfl opZ hr3 (by kernel_rfl) rfl (kO.one p) ?_; intro w4 hbt hr4) | fail)
    have hb4 : Below wr.heap.size wr w4 := ⟨hbt.os.trans hb3.os, hbt.tape.trans hb3.tape, hbt.output.trans hb3.output, Nat.le_trans hb3.size hbt.size, fun k hk => (hbt.block k (by omega) (by omega)).trans (hb3.block k hk)⟩
    have d0 : w4.cell? ⟨wr.heap.size, 0, none⟩ = some (.int .i64 p.kind) := by rw [cell_of_row _ _ _ _ _ _ hr4]; rfl
    have d1 : w4.frozen? ⟨wr.heap.size, 0, none⟩ = false := frozen_of_row _ _ _ _ _ hr4
    obtain ⟨w5, HW5⟩ : ∃ w5, Hid (w5 = w4.setCell ⟨wr.heap.size, 0, none⟩ (.int .i64 (p.kind + 1))) := ⟨_, rfl⟩
    have HB5 : Hid (Below wr.heap.size wr w5) := by unfold Hid; rw [HW5.out]; exact hb4.setCell (Nat.le_refl _) _
    have HR5 : Hid (w5.heap[wr.heap.size]? = some (.cells (opD p).cells 46)) := by unfold Hid; rw [HW5.out]; exact opD_row hr4
    have HLD5 : Hid ((Instr.loadAt 46 (.pointer (some ⟨wr.heap.size, 0, none⟩))).run Tryz.prog w5 = .ok (.agg (opD p).cells) w5) := box_load HR5.out Tryz.underlying46 rfl (by kernel_rfl)
    clear hb3 hs3 hr3 hbt hr4 hb4 HLD
    go_upto_region 7 with fail
    rw [← HW5.out]
    clear d0 d1 HW5
    go_upto_region 4 with (first | (refine wpList_ld 46 ⟨wr.heap.size, 0, none⟩ (.tmp 5) rfl rfl HLD5.out rfl ?_) | (go_simp; refine wpList_bsO rfl (opD p) (.tmp 21) rfl rfl ?_; intro w6 hb6 hr6) | (at_builtin; go_simp; refine wpList_apO rfl (.tmp 20) (.tmp 22) rfl (opD p) w5.heap.size rfl rfl ((HO.out.below HB5.out).below hb6) hr6 (Nat.le_trans (Nat.le_trans HB.out.size HB5.out.size) hb6.size) HLEN.out ?_; intro g' n2 c2 w7 ho7 hg7) | fail)
    have HO7 : Hid (Own kO w7 w.heap.size (.slice (some ⟨g', 0, none⟩) n2 c2) ((L.take (k + 1)).map opD)) := by unfold Hid; rw [take_map_step HP.out]; exact ho7
    have HB7 : Hid (Below w.heap.size w w7) := HB.out.trans (grown_below ((HB5.out.mono HB.out.size).trans (hb6.mono (Nat.le_trans HB.out.size HB5.out.size))) (Nat.le_trans (Nat.le_trans HB.out.size HB5.out.size) hb6.size) hg7 fun q hq => (HO.out.lt hq).1)
    clear ho7 hg7 hb6 hr6 HO HB HB5 HR5 HLD5 HLEN
    go_wp2_with fail
    go_roundw
    case rel => exact ⟨k + 1, _, _, _, rfl, by go_num, hlt, HO7, HB7⟩
    case measure => simp [intOf]; omega
  · have hlt' : ¬ (k : Int) < (n : Int) := int_nlt hlt
    have HFIN : Hid (Own kO wr w.heap.size (.slice a' n' c') (L.map opD) ∧ Below w.heap.size w wr) := by
      have h := HO.out
      rw [List.take_of_length_le (by have := HN.out; omega)] at h
      exact ⟨h, HB.out⟩
    clear HO HB
    go_wp2_with fail
    go_ret
    exact ⟨_, rfl, HFIN.out.1, HFIN.out.2⟩
end Go.Proofs.YtpdnnikkaojnkaaGreat.Rt
