import Derived.Test.YtjjmopmdiflffacWH
namespace Go.Proofs.Ytjjmopmdiflffac
open Go.ChangeShapes Go.WideShapes Go.ChangeAt Go.RowKit
set_option maxHeartbeats 1000000
set_option maxRecDepth 100000

theorem read_false (v : Value) (L : List Nat) (w : World) (hv : SeesB w v L) (hl : L.length ≤ 140737488355328) :
    Calls Try.prog 27 #[v] w fun e w' => ∃ vo vb, e = .returned (.tuple #[.agg (hdCells (readL L false).1 vo), vb, .int .i64 (readL L false).2.2]) ∧ SeesB w' vo (readL L false).1.opts ∧ SeesB w' vb (readL L false).2.1 ∧ Below w.heap.size w w' := by
  by_cases he : (exam L false).2.2 = 0
  · have hp : readL L false = (rdH (L.take (exam L false).2.1) (exam L false).1, (L.take (exam L false).2.1).drop (exam L false).1, 0) := by unfold readL; rw [if_pos he]
    rw [hp]
    exact peek_good v L w hv hl he
  · have hp : readL L false = (zeroH, [], (exam L false).2.2) := by unfold readL; rw [if_neg he]
    rw [hp]
    refine (peek_bad v L w hv hl he).mono ?_
    rintro e w' ⟨rfl, hb⟩
    exact ⟨.slice none 0 0, .slice none 0 0, rfl, sees_nil _, sees_nil _, hb⟩

set_option maxHeartbeats 2000000 in
theorem peek_ref (v : Value) (L : List Nat) (w : World) (hv : SeesB w v L) (hl : L.length ≤ 140737488355328) :
    Calls Try.prog 28 #[v] w fun e w' => ∃ vo vb, e = .returned (.tuple #[.agg (hdCells (readL L false).1 vo), vb, .int .i64 (readL L false).2.2]) ∧ SeesB w' vo (readL L false).1.opts ∧ SeesB w' vb (readL L false).2.1 ∧ Below w.heap.size w w' := by
  obtain ⟨w1, hw1⟩ : ∃ w1, w1 = w.alloc (.cells Z27c 30) := ⟨_, rfl⟩
  have hb1 : Below w.heap.size w w1 := by rw [hw1]; exact (Below.refl _ _).alloc (Nat.le_refl _) _
  have hs1 : w1.heap.size = w.heap.size + 1 := by rw [hw1]; simp
  have HRD := hid (read_any v L false w1 (hv.below hb1) hl)
  have HTH : Hid (∀ u, Below w1.heap.size w1 u → u.heap[w.heap.size]? = some (.cells (hdCells zeroH (.slice none 0 0)) 30)) := fun u hu => by
    rw [hu.block _ (by omega), hw1]
    exact heap_alloc_new w _
  have HW1 : Hid (w1 = w.alloc (.cells #[.int .u8 0, .int .u16 0, .bool false, .bool false, .int .i64 0, .int .u8 0, .int .u8 0, .int .u32 0, .int .u32 0, .slice none 0 0] 30)) := hw1
  have HB1 := hid hb1
  have HS1 := hid hs1
  obtain ⟨ao, n, cap, rfl, _, _, _⟩ := hv.shape
  clear hw1 hb1 hs1 hv
  generalize readL L false = t at *
  obtain ⟨h, B, z⟩ := t
  simp only at *
  go_enter Try.func28, Try.ntmps28
  go_upto_region 1 with fail
  rw [← HW1.out]
  go_wp2_with fail
  refine HRD.out.mono ?_
  rintro _ w2 ⟨vo, vb, rfl, hso, hsb, hko, hkb, hb2⟩
  obtain ⟨a1, n1, c1, rfl, _, _, _⟩ := hso.shape
  obtain ⟨a2, n2, c2, rfl, _, _, _⟩ := hsb.shape
  obtain ⟨tos, id, df, mf, off, ttl, proto, src, dst, opts⟩ := h
  obtain ⟨pa, hpa⟩ : ∃ pa : Array Value, pa = pkCells ⟨tos, id, df, mf, off, ttl, proto, src, dst, opts⟩ (.slice a1 n1 c1) (.slice a2 n2 c2) := ⟨_, rfl⟩
  have HPA := hid hpa
  have hpz : pa.size = Z29.size := by rw [hpa]; rfl
  have HZA : Hid ((Try.prog.info? 32).map (·.size) = some pa.size) := by unfold Hid; rw [hpa]; exact size29'
  have HOA : Hid (pa.all (·.oneCell') = true) := by unfold Hid; rw [hpa]; simp [pkCells, Value.oneCell']
  have HTA := hid (new_there (u := w2) (T := 32) hpz)
  have HNW := new_put (u := w2) (T := 32) hpz
  obtain ⟨w4, hw4⟩ : ∃ w4, w4 = (w2.alloc (.cells Z29 32)).setCells w2.heap.size 0 pa.toList := ⟨_, rfl⟩
  rw [← hw4] at HNW
  have HW4 : Hid (w4 = (w2.alloc (.cells #[.int .u8 0, .int .u16 0, .bool false, .bool false, .int .i64 0, .int .u8 0, .int .u8 0, .int .u32 0, .int .u32 0, .slice none 0 0, .slice none 0 0] 32)).setCells w2.heap.size 0 pa.toList) := hw4
  have hb4 : Below w1.heap.size w1 w4 := hb2.trans (HNW.below.mono hb2.size)
  have hrow := HTH.out _ hb4
  obtain ⟨z0, z1, z2, z3, z4, z5, z6, z7, z8, z9⟩ := hd_at hrow
  have hfz : ∀ j, w4.frozen? ⟨w.heap.size, j, none⟩ = false := fun j => frozen_of_row _ _ _ _ _ hrow
  have hr : ∀ (j : Nat) (v : Value), pa[j]? = some v → w4.cell? ⟨w2.heap.size, j, none⟩ = some v := fun j v hv => by
    have := HNW.range j v (by rw [Array.getElem?_toList]; exact hv)
    rwa [Nat.zero_add] at this
  rw [hpa] at hr
  have r0 : w4.cell? ⟨w2.heap.size, 0, none⟩ = some (.int .u8 (tos : Int)) := hr 0 _ rfl
  have r1 : w4.cell? ⟨w2.heap.size, 1, none⟩ = some (.int .u16 (id : Int)) := hr 1 _ rfl
  have r2 : w4.cell? ⟨w2.heap.size, 2, none⟩ = some (.bool df) := hr 2 _ rfl
  have r3 : w4.cell? ⟨w2.heap.size, 3, none⟩ = some (.bool mf) := hr 3 _ rfl
  have r4 : w4.cell? ⟨w2.heap.size, 4, none⟩ = some (.int .i64 off) := hr 4 _ rfl
  have r5 : w4.cell? ⟨w2.heap.size, 5, none⟩ = some (.int .u8 (ttl : Int)) := hr 5 _ rfl
  have r6 : w4.cell? ⟨w2.heap.size, 6, none⟩ = some (.int .u8 (proto : Int)) := hr 6 _ rfl
  have r7 : w4.cell? ⟨w2.heap.size, 7, none⟩ = some (.int .u32 (src : Int)) := hr 7 _ rfl
  have r8 : w4.cell? ⟨w2.heap.size, 8, none⟩ = some (.int .u32 (dst : Int)) := hr 8 _ rfl
  have r9 : w4.cell? ⟨w2.heap.size, 9, none⟩ = some (.slice a1 n1 c1) := hr 9 _ rfl
  have r10 : w4.cell? ⟨w2.heap.size, 10, none⟩ = some (.slice a2 n2 c2) := hr 10 _ rfl
  simp only [zeroH] at z0 z1 z2 z3 z4 z5 z6 z7 z8 z9
  have hlt2 : w.heap.size < w2.heap.size := by have := hb2.size; have := HS1.out; omega
  have hne : ¬ w2.heap.size = w.heap.size := by omega
  have hne' : ¬ w.heap.size = w2.heap.size := by omega
  obtain ⟨fs, hu27⟩ := und27
  have hthc : w4.there w.heap.size 0 10 := there_blk hrow rfl
  have HLV : Hid ((loadVar 30 ⟨w.heap.size, 0, none⟩).run Try.prog (w4.setCells w.heap.size 0 [.int .u8 (tos : Int), .int .u16 (id : Int), .bool df, .bool mf, .int .i64 off, .int .u8 (ttl : Int), .int .u8 (proto : Int), .int .u32 (src : Int), .int .u32 (dst : Int), .slice a1 n1 c1]).drew = .ok (.agg #[.int .u8 (tos : Int), .int .u16 (id : Int), .bool df, .bool mf, .int .i64 off, .int .u8 (ttl : Int), .int .u8 (proto : Int), .int .u32 (src : Int), .int .u32 (dst : Int), .slice a1 n1 c1]) (w4.setCells w.heap.size 0 [.int .u8 (tos : Int), .int .u16 (id : Int), .bool df, .bool mf, .int .i64 off, .int .u8 (ttl : Int), .int .u8 (proto : Int), .int .u32 (src : Int), .int .u32 (dst : Int), .slice a1 n1 c1]).drew) :=
    run_loadVar_mid _ w.heap.size 0 30 [.int .u8 (tos : Int), .int .u16 (id : Int), .bool df, .bool mf, .int .i64 off, .int .u8 (ttl : Int), .int .u8 (proto : Int), .int .u32 (src : Int), .int .u32 (dst : Int), .slice a1 n1 c1] (.struct fs) ((World.rangeAt_drew _ _ _ _).2 (World.rangeAt_setCells_same w4 w.heap.size 0 _ hthc)) hu27 rfl size27
  have HBF : Hid (Below w.heap.size w (w4.setCells w.heap.size 0 [.int .u8 (tos : Int), .int .u16 (id : Int), .bool df, .bool mf, .int .i64 off, .int .u8 (ttl : Int), .int .u8 (proto : Int), .int .u32 (src : Int), .int .u32 (dst : Int), .slice a1 n1 c1]).drew) := below_drew (below_setCells' (Nat.le_refl _) _ _ _ (HB1.out.trans (hb4.mono HB1.out.size)))
  have HSO : Hid (SeesB (w4.setCells w.heap.size 0 [.int .u8 (tos : Int), .int .u16 (id : Int), .bool df, .bool mf, .int .i64 off, .int .u8 (ttl : Int), .int .u8 (proto : Int), .int .u32 (src : Int), .int .u32 (dst : Int), .slice a1 n1 c1]).drew (.slice a1 n1 c1) opts) := sees_set (hso.below HNW.below) (fun a ha => by have := hko a n1 c1 (by rw [ha]); have := HS1.out; omega)
  have HSB : Hid (SeesB (w4.setCells w.heap.size 0 [.int .u8 (tos : Int), .int .u16 (id : Int), .bool df, .bool mf, .int .i64 off, .int .u8 (ttl : Int), .int .u8 (proto : Int), .int .u32 (src : Int), .int .u32 (dst : Int), .slice a1 n1 c1]).drew (.slice a2 n2 c2) B) := sees_set (hsb.below HNW.below) (fun a ha => by have := hkb a n2 c2 (by rw [ha]); have := HS1.out; omega)
  rw [← hpa]
  clear hpa hpz hw4 hb2 hb4 hso hsb hko hkb HRD HTH HNW hrow hr hu27 hthc hlt2
  go_upto_region 2 with (first
    | (refine wpList_store_mid rfl 32 (.tmp 5) (.tmp 10) rfl w2.heap.size 0 pa rfl rfl HTA.out HZA.out HOA.out ?_)
    | fail)
  rw [← HW4.out]
  go_region_held3 (fun w' => w'.cell? ⟨w2.heap.size, 0, none⟩ = some (.int .u8 (tos : Int)) ∧ w'.cell? ⟨w2.heap.size, 1, none⟩ = some (.int .u16 (id : Int)) ∧ w'.cell? ⟨w2.heap.size, 2, none⟩ = some (.bool df) ∧ w'.cell? ⟨w2.heap.size, 3, none⟩ = some (.bool mf) ∧ w'.cell? ⟨w2.heap.size, 4, none⟩ = some (.int .i64 off) ∧ w'.cell? ⟨w2.heap.size, 5, none⟩ = some (.int .u8 (ttl : Int)) ∧ w'.cell? ⟨w2.heap.size, 6, none⟩ = some (.int .u8 (proto : Int)) ∧ w'.cell? ⟨w2.heap.size, 7, none⟩ = some (.int .u32 (src : Int)) ∧ w'.cell? ⟨w2.heap.size, 8, none⟩ = some (.int .u32 (dst : Int)) ∧ w'.cell? ⟨w2.heap.size, 9, none⟩ = some (.slice a1 n1 c1) ∧ w'.cell? ⟨w2.heap.size, 10, none⟩ = some (.slice a2 n2 c2)) (go_keep) (fail)
  go_wp2_with fail
  show bodyPost Try.prog Try.f28 _ Exit.ret _ (World.setCells w4 w.heap.size 0 [.int .u8 (tos : Int), .int .u16 (id : Int), .bool df, .bool mf, .int .i64 off, .int .u8 (ttl : Int), .int .u8 (proto : Int), .int .u32 (src : Int), .int .u32 (dst : Int), .slice a1 n1 c1]).drew
  generalize (World.setCells w4 w.heap.size 0 [.int .u8 (tos : Int), .int .u16 (id : Int), .bool df, .bool mf, .int .i64 off, .int .u8 (ttl : Int), .int .u8 (proto : Int), .int .u32 (src : Int), .int .u32 (dst : Int), .slice a1 n1 c1]).drew = wf at HLV HBF HSO HSB ⊢
  refine bodyPost_ret (v := .tuple #[.agg #[.int .u8 (tos : Int), .int .u16 (id : Int), .bool df, .bool mf, .int .i64 off, .int .u8 (ttl : Int), .int .u8 (proto : Int), .int .u32 (src : Int), .int .u32 (dst : Int), .slice a1 n1 c1], .slice a2 n2 c2, .int .i64 z]) (by simp [results, Try.results28, asAddr, HLV.out]) rfl ?_
  exact ⟨.slice a1 n1 c1, .slice a2 n2 c2, rfl, HSO.out, HSB.out, HBF.out⟩
end Go.Proofs.Ytjjmopmdiflffac
