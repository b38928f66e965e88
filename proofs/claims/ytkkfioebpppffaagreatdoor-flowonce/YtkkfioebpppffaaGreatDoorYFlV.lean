import Derived.Test.YtkkfioebpppffaaGreatDoorYFlU
import Derived.Test.YtkkfioebpppffaaGreatDoorYFlQF
namespace Go.Proofs.YtkkfioebpppffaaGreatDoor.Fl
open Go.Proofs.YtkkfioebpppffaaGreatDoor Go.ChangeShapes Go.WideShapes Go.ChangeAt Go.RowKit Go.Maps N
set_option maxHeartbeats 8000000
set_option maxRecDepth 100000

theorem tab_new {B : Nat} {w u u' : World} {b : Nat} {lim : Int} {F : Nat → Prop} {R : List Rw} (h : St u' b lim q0 F) (hF : ∀ k, F k → u.heap.size ≤ k) (hb : Below u.heap.size u u') (hbw : Below B w u) (hB : B ≤ w.heap.size) (ht : ∀ k, isTab k → k < B) (hR : ∀ r ∈ R, B ≤ r.b ∧ u.heap[r.b]? = some (.cells r.cs r.ty (0, 0))) : Tab B w u' b lim q0 R := by
  refine ⟨F, h, fun k e => Nat.le_trans (Nat.le_trans hB hbw.size) (hF k e), fun r hr => ?_, hbw.trans (hb.mono (Nat.le_trans hB hbw.size)), hB, ht⟩
  have hlt := (Array.getElem?_eq_some_iff.1 (hR r hr).2).1
  exact ⟨fun e => by have := hF _ e; omega, (hR r hr).1, below_keeps hb (hR r hr).2 hlt⟩
theorem build_tu (s d p sp dp : Nat) (u : World) : (Instr.build 37 #[(0, .int .u32 (s : Int)), (1, .int .u32 (d : Int)), (2, .int .u8 (p : Int)), (3, .int .u16 (sp : Int)), (4, .int .u16 (dp : Int))]).run Tryz.prog u = .ok (.agg (Tu.cells ⟨s, d, p, sp, dp⟩)) u := by
  simp [Instr.build, run_underlying Tryz.underlying37, go_sem, Tu.cells]
theorem build_fw4 (th bk : Tu) (st : Nat) (t : Int) (u : World) : (Instr.build 45 #[(0, .agg th.cells), (1, .agg bk.cells), (2, .int .i64 (st : Int)), (3, .int .i64 t)]).run Tryz.prog u = .ok (.agg (Fw.cells ⟨th, bk, st, t⟩)) u := by
  obtain ⟨a, b, c, d, e⟩ := th
  obtain ⟨a', b', c', d', e'⟩ := bk
  simp [Instr.build, run_underlying Tryz.underlying45, go_sem, Tu.cells, Fw.cells]
theorem zpk_new (u : World) : (u.alloc (.cells #[.int .u8 0, .int .u16 0, .bool false, .bool false, .int .i64 0, .int .u8 0, .int .u8 0, .int .u32 0, .int .u32 0, .slice none 0 0, .slice none 0 0] 35)).heap[u.heap.size]? = some (.cells #[.int .u8 0, .int .u16 0, .bool false, .bool false, .int .i64 0, .int .u8 0, .int .u8 0, .int .u32 0, .int .u32 0, .slice none 0 0, .slice none 0 0] 35 (0, 0)) := heap_alloc_new _ _

def xB : Tu := ⟨7, 8, 17, 5, 53⟩
def yB : Tu := ⟨8, 7, 17, 53, 5⟩
theorem xB_ok : xB.Ok := ⟨by decide, by decide, by decide, by decide, by decide⟩
theorem yB_ok : yB.Ok := ⟨by decide, by decide, by decide, by decide, by decide⟩

theorem begun_any (w : World) (ht : TabF w) :
    Calls Tryz.prog 4 #[] w fun e w' => e = .returned (.bool true) ∧ Below w.heap.size w w' := by
  have HN := hid (new_good 1 w (by omega) (by omega) ht)
  have HTL := hid (tab_lt ht)
  obtain ⟨B, HB⟩ : ∃ B, Hid (B = w.heap.size) := ⟨_, rfl⟩
  have xcx : (#[.int .u32 7, .int .u32 8, .int .u8 17, .int .u16 5, .int .u16 53] : Array Value) = xB.cells := rfl
  have ycy : (#[.int .u32 8, .int .u32 7, .int .u8 17, .int .u16 53, .int .u16 5] : Array Value) = yB.cells := rfl
  have HXC := hid xcx
  have HYC := hid ycy
  have HBX := hid (fun u => build_tu 7 8 17 5 53 u)
  have HBY := hid (fun u => build_tu 8 7 17 53 5 u)
  clear xcx ycy
  clear ht
  go_enter Tryz.func4, Tryz.ntmps4
  go_wp2_with fail
  refine HN.out.mono ?_
  rintro _ w1 ⟨b, F, rfl, hs, hF, hb1⟩
  have T1 := tab_new (R := []) hs hF hb1 (Below.refl _ _) (Nat.le_refl _) HTL.out (fun r hr => by cases hr)
  rw [← HB.out] at T1
  have HT1 := hid T1
  have HN1 : Hid ((w1.alloc (.cells #[.int .u32 0, .int .u32 0, .int .u8 0, .int .u16 0, .int .u16 0] 37)).heap[w1.heap.size]? = some (.cells zTu.cells 37 (0, 0))) := heap_alloc_new _ _
  clear hs hF hb1 T1
  go_upto_region 3 with (first | (refine wpList_st rfl 37 (.tmp 3) (.tmp 13) rfl w1.heap.size xB.cells rfl rfl _ zTu.cells HN1.out (by kernel_rfl) rfl xB.one ?_; intro w2 hw2 hbut2) | fail)
  have T2 := HT1.out.new hbut2 hw2
  obtain ⟨g3, HG3⟩ : ∃ g, Hid (g = w1.heap.size) := ⟨_, rfl⟩
  rw [← HG3.out] at T2 ⊢
  have HT2 := hid T2
  have HN2 : Hid ((w2.alloc (.cells #[.int .u32 0, .int .u32 0, .int .u8 0, .int .u16 0, .int .u16 0] 37)).heap[w2.heap.size]? = some (.cells zTu.cells 37 (0, 0))) := heap_alloc_new _ _
  clear hw2 hbut2 T2 HT1 HN1
  go_upto_region 4 with (first | (refine wpList_st rfl 37 (.tmp 4) (.tmp 14) rfl w2.heap.size yB.cells rfl rfl _ zTu.cells HN2.out (by kernel_rfl) rfl yB.one ?_; intro w3 hw3 hbut3) | fail)
  have T3 := HT2.out.new hbut3 hw3
  obtain ⟨g4, HG4⟩ : ∃ g, Hid (g = w2.heap.size) := ⟨_, rfl⟩
  rw [← HG4.out] at T3 ⊢
  have HT3 := hid T3
  have L3 := hid (load_tu (T3.row (r := ⟨g3, xB.cells, 37⟩) (by simp)))
  have HMX := hid (made_sees xB 0 w3 xB_ok (by omega))
  clear hw3 hbut3 T3 HT2 HN2
  go_wp2_with (first | (refine wpList_ld 37 ⟨g3, 0, none⟩ (.tmp 3) rfl rfl L3.out rfl ?_) | fail)
  refine HMX.out.mono ?_
  rintro _ w4 ⟨ao, n, cap, rfl, hs4, hb4⟩
  have HT4 := hid (HT3.out.below hb4)
  have HN4 := hid (zpk_new w4)
  have HS4 := hid hs4
  clear hs4 hb4 HT3 HMX L3
  go_upto_region 7 with (first | (refine wpList_st rfl 35 (.tmp 5) (.tmp 22) rfl w4.heap.size (pkCells (mdH xB) (.slice none 0 0) (.slice ao n cap)) rfl rfl _ _ HN4.out (by kernel_rfl) rfl (pk_one _ _ _ _ _ _ _) ?_; intro w5 hw5 hbut5) | fail)
  have T5 := HT4.out.new hbut5 hw5
  obtain ⟨g5, HG5⟩ : ∃ g, Hid (g = w4.heap.size) := ⟨_, rfl⟩
  rw [← HG5.out] at T5 ⊢
  have HS5 := hid (HS4.out.below (hbut5.below ((Below.refl _ _).alloc (Nat.le_refl _) _) (by simp) (Nat.le_refl _)))
  have HT5 := hid T5
  have L3 := hid (load_tu (T5.row (r := ⟨g3, xB.cells, 37⟩) (by simp)))
  have L4 := hid (load_tu (T5.row (r := ⟨g4, yB.cells, 37⟩) (by simp)))
  have L5 := hid (pk_load (T5.row (r := ⟨g5, pkCells (mdH xB) (.slice none 0 0) (.slice ao n cap), 35⟩) (by simp)))
  have HCX : Hid (rdC (mdH xB) (mdB xB 0) = some (.dg 5 53)) := rdC_made (.inr (.inr rfl)) xB_ok 0
  have HCY : Hid (rdC (mdH yB) (mdB yB 0) = some (.dg 53 5)) := rdC_made (.inr (.inr rfl)) yB_ok 0
  obtain ⟨qa, HQA⟩ : ∃ q, Hid (q = opnR 1 q0 xB yB (mdH xB) (mdB xB 0) 100) := ⟨_, rfl⟩
  have HOP := open_one (x := xB) (bk := yB) (now := 100) HCX.out (by decide) rfl rfl (by decide)
  have HO1 : Hid (One qa xB yB 1 130) := by
    have := HOP.2
    rw [← HQA.out] at this
    exact this
  have HOPEN : Hid (Calls Tryz.prog 12 #[.pointer (some ⟨b, 0, none⟩), .agg xB.cells, .agg yB.cells, .agg (pkCells (mdH xB) (.slice none 0 0) (.slice ao n cap)), .int .i64 100] w5 fun e w' => e = .returned (.int .i64 0) ∧ Tab B w w' b 1 qa [⟨g5, pkCells (mdH xB) (.slice none 0 0) (.slice ao n cap), 35⟩, ⟨g4, yB.cells, 37⟩, ⟨g3, xB.cells, 37⟩]) := by
    refine T5.call (P := fun e => e = .returned (.int .i64 0)) fun F' hF' => ?_
    have := open_any w5 b 1 q0 F' xB yB (mdH xB) (.slice none 0 0) (.slice ao n cap) (mdB xB 0) 100 hF' xB_ok yB_ok (mdH_ok xB_ok) (sees_nil _) HS5.out (by show 0 ≤ _; omega) (by rw [mdB_len]; split <;> omega) ⟨by omega, by omega⟩ (by decide) (by decide) (by decide) (by decide)
    rw [HOP.1, ← HQA.out] at this
    exact this
  clear hw5 hbut5 T5 HT4 HS4 HN4 HOP
  go_wp2_with (first | (refine wpList_ld 37 ⟨g3, 0, none⟩ (.tmp 3) rfl rfl L3.out rfl ?_) | (refine wpList_ld 37 ⟨g4, 0, none⟩ (.tmp 4) rfl rfl L4.out rfl ?_) | (refine wpList_ld 35 ⟨g5, 0, none⟩ (.tmp 5) rfl rfl L5.out rfl ?_) | fail)
  refine HOPEN.out.mono ?_
  rintro _ w6 ⟨rfl, T6⟩
  have HT6 := hid T6
  have L46 := hid (load_tu (T6.row (r := ⟨g4, yB.cells, 37⟩) (by simp)))
  have HMY := hid (made_sees yB 0 w6 yB_ok (by omega))
  clear T6 HOPEN L3 L4 L5 HT5 HS5
  go_wp2_with (first | (refine wpList_ld 37 ⟨g4, 0, none⟩ (.tmp 4) rfl rfl L46.out rfl ?_) | fail)
  refine HMY.out.mono ?_
  rintro _ w7 ⟨ao', n', cap', rfl, hs7, hb7⟩
  have HT7 := hid (HT6.out.below hb7)
  obtain ⟨qb, hmv, hob⟩ := move_one (y := yB) (now := 120) HO1.out (.inr rfl) HCY.out (by decide) rfl
  have HMOVE : Hid (Calls Tryz.prog 13 #[.pointer (some ⟨b, 0, none⟩), .agg (pkCells (mdH yB) (.slice none 0 0) (.slice ao' n' cap')), .int .i64 120] w7 fun e w' => e = .returned (.tuple #[.agg (Fw.cells ⟨xB, yB, 2, 300⟩), .int .i64 0]) ∧ Tab B w w' b 1 qb [⟨g5, pkCells (mdH xB) (.slice none 0 0) (.slice ao n cap), 35⟩, ⟨g4, yB.cells, 37⟩, ⟨g3, xB.cells, 37⟩]) := by
    refine HT7.out.call (P := fun e => e = .returned (.tuple #[.agg (Fw.cells ⟨xB, yB, 2, 300⟩), .int .i64 0])) fun F' hF' => ?_
    have := move_any w7 b 1 qa F' (mdH yB) (.slice none 0 0) (.slice ao' n' cap') (mdB yB 0) 120 hF' (mdH_ok yB_ok) (sees_nil _) hs7 (by show 0 ≤ _; omega) (by rw [mdB_len]; split <;> omega) ⟨by omega, by omega⟩ (by rw [HO1.out.cg]; omega) (fun t k e => by rw [HO1.out.fk t k e]; exact in64_one) (fun k f e => by rw [(HO1.out.gk k f e).2]; show 1 < 10; omega)
    rw [hmv] at this
    exact this
  clear hs7 hb7 hmv hob HT6 HMY L46
  go_wp2_with fail
  refine HMOVE.out.mono ?_
  rintro _ w8 ⟨rfl, T8⟩
  have HT8 := hid T8
  have HN8 : Hid ((w8.alloc (.cells #[.int .u32 0, .int .u32 0, .int .u8 0, .int .u16 0, .int .u16 0, .int .u32 0, .int .u32 0, .int .u8 0, .int .u16 0, .int .u16 0, .int .i64 0, .int .i64 0] 45)).heap[w8.heap.size]? = some (.cells zFw.cells 45 (0, 0))) := heap_alloc_new _ _
  clear T8 HMOVE HT7
  go_upto_region 9 with (first | (refine wpList_st rfl 45 (.tmp 7) (.tmp 33) rfl w8.heap.size (Fw.cells ⟨xB, yB, 2, 300⟩) rfl rfl _ zFw.cells HN8.out (by kernel_rfl) rfl (Fw.one _) ?_; intro w9 hw9 hbut9) | fail)
  have T9 := HT8.out.new hbut9 hw9
  obtain ⟨g7, HG7⟩ : ∃ g, Hid (g = w8.heap.size) := ⟨_, rfl⟩
  rw [← HG7.out] at T9 ⊢
  have HT9 := hid T9
  have L3 := hid (load_tu (T9.row (r := ⟨g3, xB.cells, 37⟩) (by simp)))
  have L4 := hid (load_tu (T9.row (r := ⟨g4, yB.cells, 37⟩) (by simp)))
  have L7 := hid (load_fw (T9.row (r := ⟨g7, Fw.cells ⟨xB, yB, 2, 300⟩, 45⟩) (by simp)))
  have HBF := hid (fun u => build_fw4 xB yB 2 300 u)
  clear T9 hw9 hbut9 HT8 HN8
  go_wp2_with (first | (refine wpList_ld 37 ⟨g3, 0, none⟩ (.tmp 3) rfl rfl L3.out rfl ?_) | (refine wpList_ld 37 ⟨g4, 0, none⟩ (.tmp 4) rfl rfl L4.out rfl ?_) | (refine wpList_ld 45 ⟨g7, 0, none⟩ (.tmp 7) rfl rfl L7.out rfl ?_) | (refine wpList_val (ex_build 45 _ #[(0, .agg xB.cells), (1, .agg yB.cells), (2, .int .i64 2), (3, .int .i64 300)] _ rfl rfl (HBF.out _)) rfl ?_) | (refine wpList_val (ex_eqF (.tmp 42) (.tmp 45) _ ⟨xB, yB, 2, 300⟩ ⟨xB, yB, 2, 300⟩ true rfl rfl rfl (by simp)) rfl ?_) | fail)
  go_ret
  exact ⟨rfl, by rw [← HB.out]; exact HT9.out.bel⟩
end Go.Proofs.YtkkfioebpppffaaGreatDoor.Fl
