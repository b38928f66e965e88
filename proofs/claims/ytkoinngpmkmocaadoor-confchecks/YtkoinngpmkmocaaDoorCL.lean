import Derived.Test.YtkoinngpmkmocaaDoorCK
import Derived.Deep.AppendLies
namespace Go.Proofs.YtkoinngpmkmocaaDoor
open Go.ChangeShapes Go.WideShapes Go.ChangeAt Go.RowKit Go.Maps
set_option maxHeartbeats 400000
set_option maxRecDepth 100000

def rv3 (r : Rsv) : List Value := [.int .i64 r.1, .int .u32 (r.2.1 : Int), .int .i64 r.2.2]
def cellsV (R : List Rsv) : List Value := R.flatMap rv3
def marks6 : List Value := [.int .i64 7001, .int .u32 0, .int .i64 0, .int .i64 7002, .int .u32 0, .int .i64 0]

theorem cellsV_len (R : List Rsv) : (cellsV R).length = R.length * 3 := by
  induction R with
  | nil => rfl
  | cons a t ih => simp [cellsV, rv3] at ih ⊢; omega

theorem cellsV_at : ∀ (R : List Rsv) (j : Nat) (h : j < R.length), (cellsV R)[j * 3]? = some (.int .i64 R[j].1) ∧ (cellsV R)[j * 3 + 1]? = some (.int .u32 (R[j].2.1 : Int)) ∧ (cellsV R)[j * 3 + 2]? = some (.int .i64 R[j].2.2) := by
  intro R
  induction R with
  | nil => intro j h; simp at h
  | cons a t ih =>
    intro j h
    cases j with
    | zero => simp [cellsV, rv3]
    | succ j =>
      have := ih j (by simpa using h)
      rw [show (j + 1) * 3 = j * 3 + 3 from by omega]
      simpa [cellsV, rv3] using this

theorem cellsV_inv (R : List Rsv) (i : Nat) (v : Value) (h : (cellsV R)[i]? = some v) : ∃ j, ∃ hj : j < R.length, (i = j * 3 ∧ v = .int .i64 R[j].1) ∨ (i = j * 3 + 1 ∧ v = .int .u32 (R[j].2.1 : Int)) ∨ (i = j * 3 + 2 ∧ v = .int .i64 R[j].2.2) := by
  have hi := (List.getElem?_eq_some_iff.1 h).1
  rw [cellsV_len] at hi
  have hj : i / 3 < R.length := by omega
  obtain ⟨a, b, c⟩ := cellsV_at R (i / 3) hj
  refine ⟨i / 3, hj, ?_⟩
  rcases (by omega : i = i / 3 * 3 ∨ i = i / 3 * 3 + 1 ∨ i = i / 3 * 3 + 2) with e | e | e
  · rw [← e, h] at a; exact .inl ⟨e, Option.some.inj a⟩
  · rw [← e, h] at b; exact .inr (.inl ⟨e, Option.some.inj b⟩)
  · rw [← e, h] at c; exact .inr (.inr ⟨e, Option.some.inj c⟩)

theorem info63 : (Tryd.prog.info? 63).map (fun i => (i.zero, i.size, i.bytes)) = some (some (.agg #[.int .i64 0, .int .u32 0, .int .i64 0]), 3, 24) := by kernel_rfl
theorem und27 : Tryd.prog.underlying 27 = some (.slice 63) := by kernel_rfl

/-- What is appended is the list. -/
theorem SeesV.news {w : World} {a : Addr} {n cap : Nat} {R : List Rsv} (h : SeesV w (.slice (some a) n cap) R) : ∀ j u, (cellsV R)[j]? = some u → w.cell? (a.add j) = some u := by
  obtain ⟨ao', cap', hv, h1, h2, h3⟩ := h
  simp at hv
  obtain ⟨rfl, rfl, rfl⟩ := hv
  intro i u hu
  obtain ⟨j, hj, hh⟩ := cellsV_inv R i u hu
  obtain ⟨g, off, e, hg, c0, c1, c2, _⟩ := h3 j hj
  obtain rfl : a = ⟨g, off, none⟩ := by simpa using e
  rw [show (⟨g, off, none⟩ : Addr).add i = ⟨g, off + i, none⟩ from by unfold Addr.add; split <;> simp_all]
  rcases hh with ⟨rfl, rfl⟩ | ⟨rfl, rfl⟩ | ⟨rfl, rfl⟩
  · exact c0
  · rw [← Nat.add_assoc]; exact c1
  · rw [← Nat.add_assoc]; exact c2

theorem cellsV_one (R : List Rsv) : ∀ u ∈ cellsV R, u.oneCell' = true := by
  intro u hu
  obtain ⟨i, hi, e⟩ := List.getElem_of_mem hu
  obtain ⟨j, hj, hh⟩ := cellsV_inv R i u (by rw [List.getElem?_eq_getElem hi, e])
  rcases hh with ⟨_, rfl⟩ | ⟨_, rfl⟩ | ⟨_, rfl⟩ <;> rfl

def Zc : Array Value := #[.int .u32 0, .int .i64 0, .int .i64 0, .int .u32 0, .int .u32 0, .int .i64 0, .int .i64 0, .int .i64 0, .int .i64 0, .int .i64 0, .int .i64 0, .int .i64 0, .int .u32 0, .int .i64 0, .int .i64 0, .int .i64 0, .int .i64 0, .slice none 0 0]

theorem below_setCells {B b : Nat} {a : World} (hb : B ≤ b) : ∀ (vs : List Value) (o : Nat) (w : World), Below B a w → Below B a (w.setCells b o vs)
  | [], _, _, h => h
  | v :: r, o, _, h => below_setCells hb r (o + 1) _ (h.setCell (p := ⟨b, o, none⟩) hb v)

theorem marks_at (R : List Rsv) (n : Nat) (hn : n = R.length) : ∀ i (hi : i < 6), (cellsV R ++ marks6)[n * 3 + i]? = some (marks6[i]'hi) := by
  intro i hi
  rw [List.getElem?_append_right (by rw [cellsV_len, ← hn]; omega), cellsV_len, ← hn, Nat.add_sub_cancel_left]
  exact List.getElem?_eq_getElem hi

set_option maxHeartbeats 4000000 in
theorem roomy_any (c : Cfg) (R : List Rsv) (w : World) (hs : SeesV w c.rv R) (hbig : (R.length + 2) * 24 ≤ 140737488355328) :
    Calls Tryd.prog 9 #[.agg c.cells] w fun e w' => ∃ g cap, e = .returned (.tuple #[.agg ({ c with rv := .slice (some ⟨g, 0, none⟩) R.length cap } : Cfg).cells, .slice (some ⟨g, 0, none⟩) (R.length + 2) cap]) ∧ R.length + 2 ≤ cap ∧ cap ≤ 9223372036854775807 ∧
      SeesV w' (.slice (some ⟨g, 0, none⟩) R.length cap) R ∧ Marks w' g R.length ∧ Below w.heap.size w w' := by
  obtain ⟨i0, hi0, hz0, hz1, hz2⟩ := info_parts info63
  have HI : Hid (Tryd.prog.info? 63 = some i0) := hi0
  clear hi0
  obtain ⟨wc, hwc⟩ : ∃ wc, wc = w.alloc (.cells c.cells 29) := ⟨_, rfl⟩
  obtain ⟨wz, hwz⟩ : ∃ wz, wz = wc.alloc (.cells Zc 29) := ⟨_, rfl⟩
  have hsc : wc.heap.size = w.heap.size + 1 := by rw [hwc]; simp
  have hsz : wz.heap.size = w.heap.size + 2 := by rw [hwz]; simp [hsc]
  have hbc : Below wc.heap.size wc wz := by rw [hwz]; exact (Below.refl _ _).alloc (Nat.le_refl _) _
  have hb0 : Below w.heap.size w wz := by
    have : Below w.heap.size w wc := by rw [hwc]; exact (Below.refl _ _).alloc (Nat.le_refl _) _
    exact this.trans (hbc.mono this.size)
  have q : ∀ u : Beh wz, ∀ i (hi : i < 18), u.wd.cell? ⟨w.heap.size, i, none⟩ = some (c.cells[i]'hi) := by
    intro u i hi
    have := Cfg.at (w := w) c
    rw [← hwc] at this
    exact this ⟨u.wd, hbc.trans (u.ok.mono hbc.size)⟩ i hi
  obtain ⟨ro, n, rc, hrv, HN, hn1, hn2⟩ := hs.shape
  have q17 : ∀ u : Beh wz, u.wd.cell? ⟨w.heap.size, 17, none⟩ = some (.slice ro n rc) := fun u => (q u 17 (by omega)).trans (by rw [← hrv]; rfl)
  have hsv : SeesV wz (.slice ro n rc) R := by rw [← hrv]; exact hs.below hb0
  have HWC := hid hwc
  have HWZ := hid hwz
  have HSC := hid hsc
  have HSV := hid hsv
  obtain ⟨u0, hu0⟩ : ∃ u0 : Beh wz, u0.wd = wz := ⟨⟨wz, Below.refl _ _⟩, rfl⟩
  have HU0 := hid hu0
  have HQ := hid q
  unfold maxLen at hn2
  rw [← HN.out] at hbig ⊢
  have HSZ := hid hsz
  have HB0 := hid hb0
  clear hwc hwz hbc hs hrv hsv q hu0 hsc hsz hb0
  obtain ⟨cc, hcc⟩ : ∃ cc, cc = c.cells := ⟨_, rfl⟩
  rw [← hcc] at HWC ⊢
  have HCC := hid hcc
  clear hcc
  unfold Zc at HWZ
  go_enter Tryd.func9, Tryd.ntmps9
  go_upto_region 1 with fail
  rw [← HWC.out, ← HWZ.out, ← HU0.out]
  go_cut [4] from 5 (fun v wx => ∃ (v1 : Value) (u : Beh wz), v1 = v ∧ wx = u.wd ∧ u.wd.ownsRow wz.heap.size 63 3 v1 n (cellsV R))
  case first =>
    cases ro with
    | none =>
      obtain rfl : n = 0 := by
        rcases Nat.eq_zero_or_pos n with e | e
        · exact e
        · obtain ⟨g, off, r, e2, _⟩ := HSV.out.at 0 e
          cases e2
      have HR0 : Hid (R = []) := List.eq_nil_of_length_eq_zero HN.out.symm
      go_wp2_with fail
      go_meet
      case rel => exact ⟨_, u0, rfl, rfl, by rw [HR0.out]; exact World.ownsRow_nil _ _ _ _⟩
    | some a =>
      have hnews := HSV.out.news
      rw [← HU0.out] at hnews
      have HNW := hid hnews
      clear hnews
      go_wp2_with (at_builtin; refine wpList_append_own _ rfl _ _ 27 rfl wz.heap.size 63 i0 (.agg #[.int .i64 0, .int .u32 0, .int .i64 0]) 3 24 und27 HI.out hz0 hz1 hz2 rfl (by decide) (.slice none 0 0) 0 [] rfl (World.ownsRow_nil _ _ _ _) a n rc (cellsV R) rfl ?c0 HNW.out (cellsV_one R) ?c3 ?c4 ?c5 ?_)
      case c0 => rw [cellsV_len, ← HN.out]
      case c3 => unfold maxLen; omega
      case c4 => omega
      case c5 => exact u0.ok.size
      intro v1 w1 hown1 hgrow1 _
      have hb1 : Below wz.heap.size wz w1 := by
        have h := u0.ok
        exact h.trans ⟨hgrow1.os, hgrow1.tape, hgrow1.output, hgrow1.size, fun k hk => hgrow1.block k (Nat.lt_of_lt_of_le hk h.size) (by simp [Value.ownBlock])⟩
      clear hgrow1
      go_wp2_with fail
      go_meet
      case rel => exact ⟨_, ⟨w1, hb1⟩, rfl, rfl, hown1⟩
  case rest =>
    obtain ⟨v1, u1, rfl, rfl, hown1⟩ := hcut
    have HOW1 := hid hown1
    clear hown1
    go_wp2_with (at_builtin; refine wpList_append_lies _ rfl _ _ 27 rfl wz.heap.size 63 i0 (.agg #[.int .i64 0, .int .u32 0, .int .i64 0]) 3 24 und27 HI.out hz0 hz1 hz2 rfl (by decide) v1 n (cellsV R) (by rfl) (HOW1.out.alloc _) ⟨u1.wd.heap.size, 0, none⟩ 2 2 [.int .i64 7001, .int .u32 0, .int .i64 0, .int .i64 7002, .int .u32 0, .int .i64 0] (by rfl) rfl ?c1 ?c2 (by omega) ?c3 ?c4 ?c5 (u1.wd.heap.size + 1) (by simp) ?_)
    case c1 => exact World.news_of_block (heap_alloc_new u1.wd _)
    case c2 => intro u hu; simp at hu; rcases hu with rfl | rfl | rfl | rfl | rfl | rfl <;> rfl
    case c3 => unfold maxLen; omega
    case c4 => exact hbig
    case c5 => have := u1.ok.size; simp; omega
    intro g cap w2 hown2 hgrow2 hat hlt
    have hb2 : Below wz.heap.size wz w2 := by
      have h := (u1.ok.alloc u1.ok.size (.cells #[.int .i64 7001, .int .u32 0, .int .i64 0, .int .i64 7002, .int .u32 0, .int .i64 0] 63))
      refine h.grown hgrow2 h.size fun k hk => (HOW1.out.lt k hk).1
    obtain ⟨u2, rfl⟩ : ∃ u2 : Beh wz, w2 = u2.wd := ⟨⟨w2, hb2⟩, rfl⟩
    have hcap : n + 2 ≤ cap ∧ cap ≤ maxLen ∧ wz.heap.size ≤ g := by
      rcases hown2.2 with ⟨e, _⟩ | ⟨g', cap', cur, e, x1, _, x2, x3, _⟩
      · cases e
      · simp at e
        obtain ⟨rfl, rfl⟩ := e
        exact ⟨x2, x3, x1⟩
    obtain ⟨hc1, hc2, hgz⟩ := hcap
    unfold maxLen at hc2
    have hrow1 : u2.wd.heap[w.heap.size]? = some (.cells c.cells 29 (0, 0)) := by
      have e1 := HSZ.out
      have e2 := HSC.out
      rw [u2.ok.block w.heap.size (by omega), HWZ.out, Below.heap_alloc _ _ _ (by omega), HWC.out, HCC.out]
      exact heap_alloc_new w _
    have hf1 : ∀ i, u2.wd.frozen? ⟨w.heap.size, i, none⟩ = false := fun i => frozen_of_row _ _ _ _ _ hrow1
    have k17 := q17 u2
    have HOW2 := hid hown2
    have HROW1 := hid hrow1
    have hlt1 : w.heap.size < u2.wd.heap.size := (Array.getElem?_eq_some_iff.1 hrow1).1
    clear hown2 hgrow2 hat hb2 hrow1
    obtain ⟨w3, hw3⟩ : ∃ w3, w3 = u2.wd.setCell ⟨w.heap.size, 17, none⟩ (.slice (some ⟨g, 0, none⟩) n cap) := ⟨_, rfl⟩
    have HW3 := hid hw3
    clear hw3
    obtain ⟨c', hc'⟩ : ∃ c' : Cfg, c' = { c with rv := .slice (some ⟨g, 0, none⟩) n cap } := ⟨_, rfl⟩
    have HC' := hid hc'
    have HCELL : Hid (c'.cells = c.cells.set! 17 (.slice (some ⟨g, 0, none⟩) n cap)) := by unfold Hid; rw [hc']; rfl
    have hrow3 : w3.heap[w.heap.size]? = some (.cells c'.cells 29 (0, 0)) := by
      rw [HW3.out, HCELL.out]
      exact heap_setCell_same u2.wd w.heap.size 17 _ 29 _ HROW1.out
    have hld : (Instr.loadAt 29 (.pointer (some ⟨w.heap.size, 0, none⟩))).run Tryd.prog w3 = .ok (.agg c'.cells) w3 := Cfg.load c' fun i hi => by
      rw [cell_of_row _ _ _ _ _ _ hrow3]; exact Array.getElem?_eq_getElem _
    have hrow2 : w3.heap[w.heap.size + 1]? = some (.cells Zc 29 (0, 0)) := by
      have e1 := HSZ.out
      have e2 := HSC.out
      rw [HW3.out, heap_setCell_other _ _ _ _ (by show _ ≠ w.heap.size; omega), u2.ok.block _ (by omega), HWZ.out, ← e2]
      exact heap_alloc_new wc _
    have hth : w3.there (w.heap.size + 1) 0 c'.cells.size := fun j hj => by
      have hj' : j < 18 := hj
      refine ⟨?_, by rw [Nat.zero_add]; exact frozen_of_row _ _ _ _ _ hrow2⟩
      rw [Nat.zero_add, cell_of_row _ _ _ _ _ _ hrow2, Array.getElem?_eq_getElem (by exact hj' : j < Zc.size)]; rfl
    have hone : c'.cells.all (·.oneCell') = true := by rw [hc']; simp [Cfg.cells, Value.oneCell']
    have hinf : (Tryd.prog.info? 29).map (·.size) = some c'.cells.size := by rw [show (Tryd.prog.info? 29).map (·.size) = some 18 from by kernel_rfl]; rfl
    obtain ⟨w4, hw4⟩ : ∃ w4, w4 = w3.setCells (w.heap.size + 1) 0 c'.cells.toList := ⟨_, rfl⟩
    have hrg4 : w4.rangeAt (w.heap.size + 1) 0 c'.cells.toList := by rw [hw4]; exact World.rangeAt_setCells_same w3 _ 0 _ hth
    obtain ⟨fs29, hu29⟩ := und29
    have hlv : (loadVar 29 ⟨w.heap.size + 1, 0, none⟩).run Tryd.prog w4 = .ok (.agg c'.cells) w4 := run_loadVar_mid w4 (w.heap.size + 1) 0 29 c'.cells.toList (.struct fs29) hrg4 hu29 rfl hinf
    have HLD := hid hld
    have HTH := hid hth
    have HLV := hid hlv
    have HW4 := hid hw4
    have HONE := hid hone
    have HINF := hid hinf
    clear hc' hrow3 hrow2 hld hth hlv hw4 hrg4 hone hinf hu29
    generalize hcc' : c'.cells = cc' at HLD HTH HLV HW4 HONE HINF
    have HCC' := hid hcc'
    clear hcc'
    go_upto_region 4 with fail
    rw [← HW3.out]
    go_wp2_with (first
      | (refine wpList_cfg w.heap.size (.tmp 1) rfl rfl HLD.out rfl ?_)
      | (refine wpList_store_mid rfl 29 (.tmp 2) (.tmp 19) rfl (w.heap.size + 1) 0 cc' rfl rfl HTH.out HINF.out HONE.out ?_)
      | fail)
    rw [← HW4.out]
    have hcell : ∀ i u, (cellsV R ++ marks6)[i]? = some u → w4.cell? ⟨g, i, none⟩ = some u := fun i u hu => by
      have e1 := HSZ.out
      have h1 := HOW2.out.cells (g := g) rfl i u hu
      rw [show (⟨g, 0, none⟩ : Addr).add i = ⟨g, i, none⟩ from by unfold Addr.add; split <;> simp_all] at h1
      rw [HW4.out, World.cell?_setCells_out _ _ _ _ _ (fun e _ => by simp at e <;> omega), HW3.out, World.cell?_setCell_other _ _ _ _ (by intro e; simp at e <;> omega)]
      exact h1
    have hmk := fun i hi => hcell _ _ (marks_at R n HN.out i hi)
    have hlt4 : g < w4.heap.size := World.block_lt_of_cell? w4 ⟨g, n * 3 + 0, none⟩ (hmk 0 (by decide))
    refine bodyPost_ret (v := .tuple #[.agg cc', .slice (some ⟨g, 0, none⟩) (n + 2) cap]) (by simp [results, Tryd.results9, asAddr, HLV.out]) rfl ⟨g, cap, by rw [← HCC'.out, HC'.out], hc1, by omega, ?_, ?_, ?_⟩
    · refine ⟨_, _, by rw [HN.out], by have := HN.out; omega, by unfold maxLen; omega, fun j hj => ⟨g, 0, rfl, hlt4, ?_, ?_, ?_, ?_⟩⟩
      · obtain ⟨x0, _, _⟩ := cellsV_at R j hj
        rw [Nat.zero_add]; exact hcell _ _ (by rw [List.getElem?_append_left (by rw [cellsV_len]; omega)]; exact x0)
      · obtain ⟨_, x1, _⟩ := cellsV_at R j hj
        rw [Nat.zero_add]; exact hcell _ _ (by rw [List.getElem?_append_left (by rw [cellsV_len]; omega)]; exact x1)
      · obtain ⟨_, _, x2⟩ := cellsV_at R j hj
        rw [Nat.zero_add]; exact hcell _ _ (by rw [List.getElem?_append_left (by rw [cellsV_len]; omega)]; exact x2)
      · obtain ⟨_, _, r, _, _, _, _, _, ha, hR⟩ := HSV.out.at j (by have := HN.out; omega)
        have e := hR.out
        rw [List.getElem?_eq_getElem hj] at e
        rw [Option.some.inj e]; exact ha
    · have z0 := hmk 0 (by decide)
      have z1 := hmk 1 (by decide)
      have z2 := hmk 2 (by decide)
      have z3 := hmk 3 (by decide)
      have z4 := hmk 4 (by decide)
      have z5 := hmk 5 (by decide)
      exact ⟨hlt4, z0, z1, z2, by rw [show (n + 1) * 3 = n * 3 + 3 from by omega]; exact z3, by rw [show (n + 1) * 3 + 1 = n * 3 + 4 from by omega]; exact z4, by rw [show (n + 1) * 3 + 2 = n * 3 + 5 from by omega]; exact z5⟩
    · rw [HW4.out]
      refine below_setCells (by omega) _ _ _ ?_
      rw [HW3.out]
      exact (HB0.out.trans (u2.ok.mono HB0.out.size)).setCell (Nat.le_refl _) _
end Go.Proofs.YtkoinngpmkmocaaDoor
