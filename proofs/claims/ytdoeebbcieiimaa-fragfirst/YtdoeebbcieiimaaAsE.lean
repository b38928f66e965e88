import Derived.Test.YtdoeebbcieiimaaAsD
namespace Go.Proofs.Ytdoeebbcieiimaa
open Go.ChangeShapes Go.WideShapes Go.ChangeAt Go.RowKit
set_option maxHeartbeats 2000000
set_option maxRecDepth 100000

/-- The datagram's header, read out of its block. -/
theorem DgAt.head {w : World} {b : Nat} {d : Dg} {vo vb vh : Value} (h : DgAt w b d vo vb vh) : (Instr.loadAt 27 (.pointer (some ⟨b, 1, none⟩))).run Try.prog w = .ok (.agg (hdCells d.h vo)) w := by
  obtain ⟨fs, hu⟩ := und27
  refine run_loadAt_mid w b 1 27 (hdCells d.h vo).toList (.struct fs) (fun j v hv => ?_) hu rfl (by rw [sz27]; rfl)
  have hj : j < 10 := (List.getElem?_eq_some_iff.1 hv).1
  rw [cell_of_row w _ _ _ _ _ h.blk]
  have e : ∀ j, j < 10 → (dgCells d vo vb vh)[1 + j]? = (hdCells d.h vo).toList[j]? := by
    intro j hj
    match j, hj with
    | 0, _ => rfl
    | 1, _ => rfl
    | 2, _ => rfl
    | 3, _ => rfl
    | 4, _ => rfl
    | 5, _ => rfl
    | 6, _ => rfl
    | 7, _ => rfl
    | 8, _ => rfl
    | 9, _ => rfl
  rw [e j hj]; exact hv

def headW (d : Dg) (h : Hd) : Hd := if coversL d.hv 0 || decide (0 < h.off) then d.h else h

theorem headWith_any (b : Nat) (d : Dg) (do_ db dh : Value) (h : Hd) (vo vb : Value) (w : World) (hd : DgAt w b d do_ db dh) (hvo : SeesB w vo h.opts) :
    Calls Try.prog 67 #[.pointer (some ⟨b, 0, none⟩), .agg (pkCells h vo vb)] w fun e w' => ∃ V, e = .returned (.agg (hdCells (headW d h) V)) ∧ SeesB w' V (headW d h).opts ∧ Below w.heap.size w w' := by
  obtain ⟨w1, hw1⟩ : ∃ w1, w1 = (w.alloc (.cells (pkCells h vo vb) 29)).alloc (.cells Z27 27) := ⟨_, rfl⟩
  have hs1 : w1.heap.size = w.heap.size + 2 := by rw [hw1]; simp
  have hb1 : Below w.heap.size w w1 := by rw [hw1]; exact ((Below.refl _ _).alloc (Nat.le_refl _) _).alloc (by simp) _
  have hk0 : w1.heap[w.heap.size]? = some (.cells (pkCells h vo vb) 29) := by
    have h1 : Below (w.heap.size + 1) (w.alloc (.cells (pkCells h vo vb) 29)) w1 := by rw [hw1]; exact (Below.refl _ _).alloc (by simp) _
    rw [h1.block _ (by omega)]
    exact heap_alloc_new w _
  have hk1 : w1.heap[w.heap.size + 1]? = some (.cells Z27 27) := by
    have := heap_alloc_new (w.alloc (.cells (pkCells h vo vb) 29)) (.cells Z27 27)
    rw [World.size_alloc] at this
    rw [hw1]; exact this
  have hd1 := hd.below hb1
  have HCV := hid (covers_any b d do_ db dh 0 w1 hd1 (by omega))
  have c4 : w1.cell? ⟨w.heap.size, 4, none⟩ = some (.int .i64 h.off) := pk_at hk0 4 (by omega)
  have HLD := hid hd1.head
  have HLP := hid (pk_loadH hk0)
  obtain ⟨ao, co, rfl⟩ := hd.opts.shape
  obtain ⟨av, nv, cv, rfl, HNV, _, _⟩ := hvo.shape
  have HSO := hid (hd.opts.sees hd.ob)
  have HSV := hid hvo
  have HK1 := hid hk1
  have HW1 := hid hw1
  have HB1 := hid hb1
  have HS1 := hid hs1
  obtain ⟨H, hH⟩ : ∃ H, H = headW d h := ⟨_, rfl⟩
  rw [← hH]
  have HH : Hid (H = if coversL d.hv 0 || decide (0 < h.off) then d.h else h) := hH
  generalize coversL d.hv 0 = cv0 at *
  obtain ⟨cs, hcs⟩ : ∃ cs, cs = pkCells h (.slice av nv cv) vb := ⟨_, rfl⟩
  rw [← hcs] at HW1 ⊢
  have ALL1 : Hid ((hdCells d.h (.slice ao d.h.opts.length co)).all (·.oneCell') = true) := all_hd _ _ _ _
  have ALL2 : Hid ((hdCells h (.slice av nv cv)).all (·.oneCell') = true) := all_hd _ _ _ _
  have SZ1 : Hid ((hdCells d.h (.slice ao d.h.opts.length co)).size = 10) := rfl
  have SZ2 : Hid ((hdCells h (.slice av nv cv)).size = 10) := rfl
  have E1 : Hid (∀ u : World, u.heap[w.heap.size + 1]? = some (.cells (hdCells d.h (.slice ao d.h.opts.length co)) 27) → (loadVar 27 ⟨w.heap.size + 1, 0, none⟩).run Try.prog u = .ok (.agg (hdCells d.h (.slice ao d.h.opts.length co))) u) := fun u hu => hd_var hu
  have E2 : Hid (∀ u : World, u.heap[w.heap.size + 1]? = some (.cells (hdCells h (.slice av nv cv)) 27) → (loadVar 27 ⟨w.heap.size + 1, 0, none⟩).run Try.prog u = .ok (.agg (hdCells h (.slice av nv cv))) u) := fun u hu => hd_var hu
  obtain ⟨off, hoff⟩ : ∃ off, off = h.off := ⟨_, rfl⟩
  rw [← hoff] at HH c4
  clear hcs hw1 hb1 hs1 hk0 hk1 hd1 hd hvo hH hoff
  by_cases hc : cv0 = true ∨ 0 < off
  · have HE : Hid (H = d.h) := by unfold Hid; rw [HH.out, if_pos (by rcases hc with h | h <;> simp [h])]
    obtain ⟨cd, hcd⟩ : ∃ cd, cd = hdCells d.h (.slice ao d.h.opts.length co) := ⟨_, rfl⟩
    have HCD := hid hcd
    rw [← hcd] at HLD ALL1 SZ1 E1
    clear hcd HLP ALL2 SZ2 E2
    cases cv0 with
    | true =>
      go_enter Try.func67, Try.ntmps67
      go_upto_region 1 with fail
      have e0 : (w.alloc (.cells cs 29)).alloc (.cells Z27 27) = w1 := HW1.out.symm
      unfold Z27 at e0
      rw [e0]
      clear e0
      go_wp2_with fail
      refine HCV.out.mono ?_
      rintro _ _ ⟨rfl, ew⟩
      obtain rfl := ew.symm
      go_wp2_with (first | (refine wpList_ld 27 ⟨b, 1, none⟩ (.tmp 15) rfl rfl HLD.out rfl ?_) | (refine wpList_st rfl 27 (.tmp 4) (.tmp 16) rfl (w.heap.size + 1) cd rfl rfl 27 Z27 HK1.out (by rw [SZ1.out]; exact sz27) (by rw [SZ1.out]; rfl) ALL1.out ?_) | fail)
      intro w5 hk5 hbut5
      have HL5 := hid (E1.out _ hk5)
      have hbF := hbut5.below HB1.out (by have := HS1.out; omega) (by omega)
      go_wp2_with fail
      refine bodyPost_ret (v := .agg cd) (by simp [results, Try.results67, asAddr, HL5.out]) rfl ?_
      exact ⟨_, by rw [HCD.out, HE.out], by rw [HE.out]; exact HSO.out.below hbF, hbF⟩
    | false =>
      have hpos : 0 < off := by simpa using hc
      have q : (0 < off) = True := by simp [hpos]
      go_enter Try.func67, Try.ntmps67
      go_upto_region 1 with fail
      have e0 : (w.alloc (.cells cs 29)).alloc (.cells Z27 27) = w1 := HW1.out.symm
      unfold Z27 at e0
      rw [e0]
      clear e0
      go_wp2_with fail
      refine HCV.out.mono ?_
      rintro _ _ ⟨rfl, ew⟩
      obtain rfl := ew.symm
      go_wp2_with (first | (refine wpList_ld 27 ⟨b, 1, none⟩ (.tmp 15) rfl rfl HLD.out rfl ?_) | (refine wpList_st rfl 27 (.tmp 4) (.tmp 16) rfl (w.heap.size + 1) cd rfl rfl 27 Z27 HK1.out (by rw [SZ1.out]; exact sz27) (by rw [SZ1.out]; rfl) ALL1.out ?_) | fail)
      intro w5 hk5 hbut5
      have HL5 := hid (E1.out _ hk5)
      have hbF := hbut5.below HB1.out (by have := HS1.out; omega) (by omega)
      go_wp2_with fail
      refine bodyPost_ret (v := .agg cd) (by simp [results, Try.results67, asAddr, HL5.out]) rfl ?_
      exact ⟨_, by rw [HCD.out, HE.out], by rw [HE.out]; exact HSO.out.below hbF, hbF⟩
  · have h1 : cv0 = false := by cases cv0 <;> simp at hc ⊢
    have h2 : ¬ 0 < off := fun h => hc (.inr h)
    subst h1
    have q : (0 < off) = False := by simp [h2]
    have HE : Hid (H = h) := by unfold Hid; rw [HH.out, if_neg (by simp [h2])]
    obtain ⟨cd, hcd⟩ : ∃ cd, cd = hdCells h (.slice av nv cv) := ⟨_, rfl⟩
    have HCD := hid hcd
    rw [← hcd] at HLP ALL2 SZ2 E2
    clear hcd HLD ALL1 SZ1 E1 hc
    go_enter Try.func67, Try.ntmps67
    go_upto_region 1 with fail
    have e0 : (w.alloc (.cells cs 29)).alloc (.cells Z27 27) = w1 := HW1.out.symm
    unfold Z27 at e0
    rw [e0]
    clear e0
    go_wp2_with fail
    refine HCV.out.mono ?_
    rintro _ _ ⟨rfl, ew⟩
    obtain rfl := ew.symm
    go_wp2_with (first | (refine wpList_ld 27 ⟨w.heap.size, 0, none⟩ (.tmp 17) rfl rfl HLP.out rfl ?_) | (refine wpList_st rfl 27 (.tmp 4) (.tmp 18) rfl (w.heap.size + 1) cd rfl rfl 27 Z27 HK1.out (by rw [SZ2.out]; exact sz27) (by rw [SZ2.out]; rfl) ALL2.out ?_) | fail)
    intro w5 hk5 hbut5
    have HL5 := hid (E2.out _ hk5)
    have hbF := hbut5.below HB1.out (by have := HS1.out; omega) (by omega)
    go_wp2_with fail
    refine bodyPost_ret (v := .agg cd) (by simp [results, Try.results67, asAddr, HL5.out]) rfl ?_
    exact ⟨_, by rw [HCD.out, HE.out], by rw [HE.out]; exact HSV.out.below hbF, hbF⟩
end Go.Proofs.Ytdoeebbcieiimaa
