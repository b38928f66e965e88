/-
  The law's deleted.
-/
import Derived.Test.YtjilahbkolcekabGB1
namespace Go.Proofs.Ytjilahbkolcekab
open Go.ChangeShapes Go.WideShapes Go.ChangeAt Go.RowKit Go.Maps Tri
set_option maxHeartbeats 8000000
set_option maxRecDepth 100000

theorem erase_same {L : List Pod} {j : Nat} : (L.take (j + 1)).eraseIdx j = L.take j := by
  rw [List.eraseIdx_eq_take_drop_succ, List.take_take, Nat.min_eq_left (by omega), List.drop_eq_nil_of_le (by rw [List.length_take]; omega), List.append_nil]
theorem erase_out {L : List Pod} {j : Nat} (h : L.length ≤ j) : L.eraseIdx j = L := List.eraseIdx_of_length_le h
theorem erase_step {L : List Pod} {j k : Nat} {p : Pod} (hp : L[k]? = some p) : (L.take (k + 1)).eraseIdx j = if k = j then (L.take k).eraseIdx j else (L.take k).eraseIdx j ++ [p] := by
  have hk := (List.getElem?_eq_some_iff.1 hp).1
  have hl : (L.take k).length = k := by rw [List.length_take]; omega
  by_cases e : k = j
  · subst e
    rw [if_pos rfl, erase_same, erase_out (by omega)]
  · rw [if_neg e, take_snoc hp]
    rcases Nat.lt_or_ge j k with h | h
    · rw [List.eraseIdx_append_of_lt_length (by omega)]
    · rw [List.eraseIdx_append_of_length_le (by omega), erase_out (L := L.take k) (by omega), erase_out (by simp; omega)]

theorem deleted_any (w : World) (gb : Nat) (vp : Value) (s : Ist) (n : ByteArray) (h : GvAt w gb vp s) :
    Calls Try.prog 25 #[.pointer (some ⟨gb, 0, none⟩), .string n, .int .u32 ((s.delR n).1 : Int), .int .i64 (s.delR n).2.1] w fun e w' => e = .returned (.bool true) ∧ ∃ vp', GTurn w w' gb vp (s.delR n).2.2 vp' := by
  have HG := hid h
  have HAT := hid (gat_any w gb vp s n h)
  obtain ⟨c2, f2⟩ := h.cells
  obtain ⟨av, nv, cv, rfl, HNV, hnc, hcap, hnil⟩ := h.own.shape
  have hle : nv ≤ 1024 := by have := h.ok.le; have := HNV.out; omega
  have HO := hid h.own
  have HSM : Hid (GTurn w w gb (.slice av nv cv) s (.slice av nv cv)) := ⟨h, fun _ hg => .inl hg, Keeps.refl _ _⟩
  have HNN := hid h.ok.nn
  have HOKD := hid (h.ok.del n)
  clear h hnil
  cases hn : s.byN n with
  | none =>
    have hD : s.delR n = (0, 3, s) := by unfold Ist.delR; rw [hn]
    rw [hD]
    have HN1 := hid hn
    clear hD hn
    go_enter Try.func25, Try.ntmps25
    go_wp2_with fail
    refine HAT.out.mono ?_
    rintro _ _ ⟨⟨v, rfl, hv⟩, ew⟩
    obtain rfl := ew.symm
    obtain rfl := hv.none HN1.out
    clear ew hv HAT
    go_wp2_with fail
    go_ret
    exact ⟨rfl, _, HSM.out⟩
  | some p =>
    have hD : s.delR n = (p.ad, 0, s.del n) := by unfold Ist.delR; rw [hn]
    rw [hD]
    have HN1 := hid hn
    obtain ⟨q, HQ⟩ : ∃ q, Hid (q = p.ad) := ⟨_, rfl⟩
    rw [← HQ.out]
    clear hD hn
    go_enter Try.func25, Try.ntmps25
    go_wp2_with fail
    refine HAT.out.mono ?_
    rintro _ _ ⟨⟨v, rfl, hv⟩, ew⟩
    obtain rfl := ew.symm
    obtain ⟨j, rfl, hj⟩ := hv.some HN1.out
    have HJ := hid hj
    have hjl : j < nv := by have := (List.getElem?_eq_some_iff.1 hj).1; have := HNV.out; omega
    have hj1 : (j : Int) < (nv : Int) := int_lt hjl
    have hj2 : ¬ (j : Int) < 0 := by omega
    have HFE : Hid ((s.del n).S = s.S.eraseIdx j) := filter_erase HNN.out hj (byN_some HN1.out).2
    obtain ⟨g, rfl, hg, hcl⟩ := HO.out.at hj
    obtain ⟨d0, d1, -, -⟩ := hcl w rfl
    rw [← HQ.out] at d1
    have HATI : ∀ (i : Nat) (p : Pod), s.S[i]? = some p → Hid (∀ u : World, Below w.heap.size w u → u.cell? ⟨g, i * 2, none⟩ = some (.string p.nm) ∧ u.cell? ⟨g, i * 2 + 1, none⟩ = some (.int .u32 (p.ad : Int))) := fun i p hi => by
      obtain ⟨g2, e, hg2, hcl2⟩ := HO.out.at hi
      simp only [Option.some.injEq, Addr.mk.injEq, and_true] at e
      subst e
      exact fun u hu => ⟨(hcl2 u (hu.block g hg2)).1, (hcl2 u (hu.block g hg2)).2.1⟩
    have HGC : Hid (∀ u : World, Below w.heap.size w u → u.cell? ⟨gb, 0, none⟩ = some (.slice (some ⟨g, 0, none⟩) nv cv)) := fun u hu => (HG.out.below hu).cells.1
    clear ew hv HAT hj hcl hg d0
    go_upto_region 8 with fail
    clear d1 c2
    go_loopw [10, 11] (fun l i wr => ∃ k : Nat, i = .int .i64 (k : Int) ∧ k ≤ nv ∧ Hid (OwnD wr w.heap.size l ((s.S.take k).eraseIdx j)) ∧ Hid (Below w.heap.size w wr)) (fun _ i _ => nv - (intOf i).toNat)
    case atStart => exact ⟨0, rfl, Nat.zero_le _, OwnD.nil _ _, Below.refl _ _⟩
    case round =>
      obtain ⟨k, rfl, hk, HOk, HB⟩ := hrel
      have c2 := HGC.out wr HB.out
      by_cases hlt : k < nv
      · have hlt' : (k : Int) < (nv : Int) := int_lt hlt
        obtain ⟨p2, HX⟩ : ∃ p2, Hid (s.S[k]? = some p2) := ⟨_, hid (List.getElem?_eq_getElem (by have := HNV.out; omega))⟩
        obtain ⟨m0, m1⟩ := (HATI k p2 HX.out).out wr HB.out
        by_cases e : k = j
        · have HST : Hid (OwnD wr w.heap.size u10 ((s.S.take (k + 1)).eraseIdx j)) := by unfold Hid; rw [erase_step HX.out, if_pos e]; exact HOk.out
          have e1 : ((k : Int) != (j : Int)) = false := by simp [e]
          have e2 : (k : Int) = (j : Int) := by omega
          clear e
          go_wp2_with fail
          go_roundw
          case rel => exact ⟨k + 1, by go_num, hlt, HST, HB⟩
          case measure => simp [intOf]; omega
        · have e1 : ((k : Int) != (j : Int)) = true := by simp; omega
          have e2 : ¬ (k : Int) = (j : Int) := by omega
          obtain ⟨w2, HW2⟩ : ∃ w2, Hid (w2 = wr.alloc (.cells #[.string p2.nm, .int .u32 (p2.ad : Int)] 80)) := ⟨_, rfl⟩
          have hb2 : Below wr.heap.size wr w2 := by rw [HW2.out]; exact (Below.refl _ _).alloc (Nat.le_refl _) _
          have r2 : w2.heap[wr.heap.size]? = some (.cells #[.string p2.nm, .int .u32 (p2.ad : Int)] 80 (0, 0)) := by rw [HW2.out]; exact heap_alloc_new wr _
          have hlen : ((s.S.take k).eraseIdx j).length ≤ 1024 := Nat.le_trans (List.length_eraseIdx_le ..) (by rw [List.length_take]; omega)
          obtain ⟨v', w3, hap, ho3, hg3, -⟩ := append_pod w2 49 w.heap.size u10 ((s.S.take k).eraseIdx j) p2 wr.heap.size (HOk.out.below hb2) (by rw [cell_of_row _ _ _ _ _ _ r2]; rfl) (by rw [cell_of_row _ _ _ _ _ _ r2]; rfl) (Nat.le_trans HB.out.size hb2.size) (by omega)
          have HB3 : Hid (Below w.heap.size w w3) := (HB.out.trans (hb2.mono HB.out.size)).trans ((Keeps.grown (S := fun k => Value.ownBlock u10 = some k) hg3 fun k e => e).below (Nat.le_trans HB.out.size hb2.size) fun k e => (World.ownsRow.lt HOk.out k e).1)
          have HO3 : Hid (OwnD w3 w.heap.size v' ((s.S.take (k + 1)).eraseIdx j)) := by unfold Hid; rw [erase_step HX.out, if_neg e]; exact ho3
          have HAP := hid hap
          clear e hb2 r2 hap ho3 hg3 hlen
          go_wp2_with (first | (at_builtin; rw [← HW2.out]; refine wpList_append_run _ rfl _ _ 49 49 rfl _ _ rfl rfl HAP.out ?_) | fail)
          go_roundw
          case rel => exact ⟨k + 1, by go_num, hlt, HO3, HB3⟩
          case measure => simp [intOf]; omega
      · have hlt' : ¬ (k : Int) < (nv : Int) := int_nlt hlt
        have HOF : Hid (OwnD wr w.heap.size u10 (s.del n).S) := by
          have h1 := HOk.out
          rw [List.take_of_length_le (by have := HNV.out; omega), ← HFE.out] at h1
          exact h1
        obtain ⟨al, nl, cl, el, -⟩ := HOF.out.shape
        subst el
        have HTU := hid (HG.out.store (u := wr) (s' := s.del n) (v' := .slice al nl cl) (Keeps.of HB.out) (HOF.out.low (Nat.zero_le _)) (fun g1 hg1 => .inr (World.ownsRow.lt HOF.out g1 hg1).1) HOKD.out)
        have f0 := (HG.out.below HB.out).cells.2
        go_wp2_with fail
        go_ret
        exact ⟨rfl, _, HTU.out⟩
end Go.Proofs.Ytjilahbkolcekab
