import Derived.Test.YthmhiehglcfepaaDoorFlV
namespace Go.Proofs.YthmhiehglcfepaaDoor.Fl
open Go.Proofs.YthmhiehglcfepaaDoor Go.ChangeShapes Go.WideShapes Go.ChangeAt Go.RowKit Go.Maps N
set_option maxHeartbeats 8000000
set_option maxRecDepth 100000

theorem But.refl' (g : Nat) (w : World) : But g w w := ⟨rfl, rfl, rfl, Nat.le_refl _, fun _ _ _ => rfl⟩
def mvQ (q : Raw) (y : Tu) (f : Nat) (now : Int) : Raw := (movP 1 q (mdH y) (mdB y f) now).2.2
theorem span_aft {now s : Int} (h1 : -1152921504606846976 ≤ now) (h2 : now ≤ 1152921504606847000) (h3 : 0 ≤ s) (h4 : s ≤ 432000) : Tm.aft now s = now + s := by
  unfold Tm.aft
  rw [if_neg (by omega), if_neg (by omega)]
theorem mv_one {q : Raw} {x bk y : Tu} {st st' f : Nat} {til now : Int} (o : One q x bk st til) (hy : y = x ∨ y = bk) (hp : y.p = 6) (hx : x.p = 6) (hok : y.Ok) (htu : tuN st f (decide (y = bk)) = (st', true)) (h1 : -1152921504606846976 ≤ now) (h2 : now ≤ 1152921504606847000) :
    movP 1 q (mdH y) (mdB y f) now = (⟨x, bk, st', now + spanF st' 6⟩, 0, mvQ q y f now) ∧ One (mvQ q y f now) x bk st' (now + spanF st' 6) := by
  have hc := rdC_made (.inl hp) hok f
  have hcc : mdC y f = .sg y.sp y.dp f := by unfold mdC; rw [if_pos hp]
  have hn : nxt st (mdC y f) (decide (y = bk)) = (st', true) := by rw [hcc]; exact htu
  obtain ⟨q', e1, e2⟩ := move_one (now := now) o hy hc (tup_made (fun h => by omega) f) (by rw [hn])
  rw [hn, hx, span_aft h1 h2 (spanF_in st' 6).1 (spanF_in st' 6).2] at e1 e2
  have e3 : mvQ q y f now = q' := by unfold mvQ; rw [e1]
  rw [e3]
  exact ⟨e1, e2⟩

theorem moves_any {B : Nat} {w u : World} {b : Nat} {q : Raw} {R : List Rw} {x bk y : Tu} {st st' f : Nat} {til now span : Int} (T : Tab B w u b 1 q R) (o : One q x bk st til) (hy : y = x ∨ y = bk) (hp : y.p = 6) (hx : x.p = 6) (hok : y.Ok) (hf : f < 256) (hst : st < 10) (htu : tuN st f (decide (y = bk)) = (st', true)) (hsp : spanF st' 6 = span) (h1 : -1152921504606846976 ≤ now) (h2 : now ≤ 1152921504606847000) :
    Calls Tryd.prog 9 #[.pointer (some ⟨b, 0, none⟩), .agg y.cells, .int .u8 (f : Int), .int .i64 now, .int .i64 (st' : Int), .int .i64 span] u fun e w' => e = .returned (.bool true) ∧ Tab B w w' b 1 (mvQ q y f now) R ∧ One (mvQ q y f now) x bk st' (now + span) := by
  obtain ⟨hmv, ho2⟩ := mv_one (f := f) o hy hp hx hok htu h1 h2
  rw [hsp] at hmv ho2
  obtain ⟨s1, s2⟩ := spanF_in st' 6
  rw [hsp] at s1 s2
  have HO2 := hid ho2
  obtain ⟨u1, HU1⟩ : ∃ u1, Hid (u1 = u.alloc (.cells y.cells 26)) := ⟨_, rfl⟩
  obtain ⟨g7, HG7⟩ : ∃ g, Hid (g = u.heap.size) := ⟨_, rfl⟩
  have T1 : Tab B w u1 b 1 q (⟨g7, y.cells, 26⟩ :: R) := by
    rw [HG7.out]
    refine T.new (o := .cells y.cells 26) (by rw [HU1.out]; exact But.refl' _ _) ?_
    rw [HU1.out]; exact heap_alloc_new _ _
  have HT1 := hid T1
  have L7 := hid (load_tu (T1.row (r := ⟨g7, y.cells, 26⟩) (by simp)))
  have HMD := hid (made_sees y f u1 hok hf)
  have HMV : Hid (∀ (u2 : World) (ao : Option Addr) (n cap : Nat), SeesB u2 (.slice ao n cap) (mdB y f) → Tab B w u2 b 1 q (⟨g7, y.cells, 26⟩ :: R) → Calls Tryd.prog 10 #[.pointer (some ⟨b, 0, none⟩), .agg (pkCells (mdH y) (.slice none 0 0) (.slice ao n cap)), .int .i64 now] u2 fun e w' => e = .returned (.tuple #[.agg (Fw.cells ⟨x, bk, st', now + span⟩), .int .i64 0]) ∧ Tab B w w' b 1 (mvQ q y f now) (⟨g7, y.cells, 26⟩ :: R)) := fun u2 ao n cap hs t2 => by
    refine t2.call (P := fun e => e = .returned (.tuple #[.agg (Fw.cells ⟨x, bk, st', now + span⟩), .int .i64 0])) fun F' hF' => ?_
    have := move_any u2 b 1 q F' (mdH y) (.slice none 0 0) (.slice ao n cap) (mdB y f) now hF' (mdH_ok hok) (sees_nil _) hs (by show 0 ≤ _; omega) (by rw [mdB_len]; split <;> omega) ⟨by omega, by omega⟩ (by rw [o.cg]; omega) (fun t k e => by rw [o.fk t k e]; exact in64_one) (fun k f e => by rw [(o.gk k f e).2]; exact hst)
    rw [hmv] at this
    exact this
  obtain ⟨fw, HFW⟩ : ∃ fw, Hid (fw = Fw.mk x bk st' (now + span)) := ⟨_, rfl⟩
  have HFC : Hid (fw.st = st' ∧ fw.til = now + span) := by unfold Hid; rw [HFW.out]; exact ⟨rfl, rfl⟩
  rw [← HFW.out] at HMV
  generalize y.cells = yc at *
  clear T o hy hp hx hok hf hst htu hsp hmv ho2 T1
  go_enter Tryd.func9, Tryd.ntmps9
  go_upto_region 1 with fail
  rw [← HU1.out, ← HG7.out]
  go_wp2_with (first | (refine wpList_ld 26 ⟨g7, 0, none⟩ (.tmp 7) rfl rfl L7.out rfl ?_) | fail)
  refine HMD.out.mono ?_
  rintro _ u2 ⟨ao, n, cap, rfl, hs2, hb2⟩
  have HC := hid (HMV.out u2 ao n cap hs2 (HT1.out.below hb2))
  clear hs2 hb2 HMV HT1 HMD L7
  go_wp2_with fail
  refine HC.out.mono ?_
  rintro _ u3 ⟨rfl, T3⟩
  have HT3 := hid T3
  have HN3 : Hid ((u3.alloc (.cells #[.int .u32 0, .int .u32 0, .int .u8 0, .int .u16 0, .int .u16 0, .int .u32 0, .int .u32 0, .int .u8 0, .int .u16 0, .int .u16 0, .int .i64 0, .int .i64 0] 44)).heap[u3.heap.size]? = some (.cells zFw.cells 44 (0, 0))) := heap_alloc_new _ _
  clear T3 HC
  go_upto_region 2 with (first | (refine wpList_st rfl 44 (.tmp 13) (.tmp 22) rfl u3.heap.size fw.cells rfl rfl _ zFw.cells HN3.out (by kernel_rfl) rfl fw.one ?_; intro u4 hw4 hbut4) | fail)
  have T4 := HT3.out.new hbut4 hw4
  obtain ⟨g13, HG13⟩ : ∃ g, Hid (g = u3.heap.size) := ⟨_, rfl⟩
  rw [← HG13.out] at T4 ⊢
  obtain ⟨-, c10, c11⟩ := ce_fw (T4.row (r := ⟨g13, fw.cells, 44⟩) (by simp))
  rw [HFC.out.1] at c10
  rw [HFC.out.2] at c11
  have HT4 := hid T4
  clear hw4 hbut4 HT3 HN3 T4
  go_wp2_with fail
  go_ret
  exact ⟨rfl, HT4.out.sub (fun r hr => by simp [hr]), HO2.out⟩
end Go.Proofs.YthmhiehglcfepaaDoor.Fl
