import Derived.Test.YtpdnnikkaojnkaaGreatYKDF
namespace Go.Proofs.YtpdnnikkaojnkaaGreat.Rt
open Go.Proofs.YtpdnnikkaojnkaaGreat Go.ChangeShapes Go.WideShapes Go.ChangeAt Go.RowKit Go.Maps Tri N
set_option maxHeartbeats 4000000
set_option maxRecDepth 100000
theorem deleteN_any {nb bm room : Nat} {L : List Nb} (w : World) (o : Opv) (h : BdN w nb bm room L) (ho : o.Ok) :
  Calls Tryz.prog 156 #[.pointer (some ⟨nb, 0, none⟩), .agg o.cells] w fun e w' => e = .returned (.int .i64 0) /\ BdN w' nb bm room (delK Nb.ip L o.n.ip) /\ Chg (fun b => b = bm) w w' := by
 obtain ⟨w1, hw1⟩ : ∃ w1, w1 = w.alloc (.cells o.cells 46) := ⟨_, rfl⟩
 have hs1 : w1.heap.size = w.heap.size + 1 := by rw [hw1]; simp
 have hb1 : Below w.heap.size w w1 := by rw [hw1]; exact bR.alloc nL _
 have hop : OpB w1 w.heap.size o := by unfold OpB; rw [hw1]; exact heap_alloc_new w _
 have h1 := h.below hb1
 have HW1 := hid hw1
 have HOP := hid hop
 have HB1 := hid hb1
 have HS1 := hid hs1
 have HBD := hid h1
 have HROW := hid h1.row
 have HLT := hid h.lt
 have HI0 : Hid (IT w1 w1.heap.size [⟨11, false, 9, o.n.cells, 42⟩] w1) := ⟨Chg.refl _ _, fun q hq e => by simp at hq; subst hq; cases e⟩
 have HOK := hid ho.ni
 clear hw1 hop hb1 h1 hs1 h ho
 go_enter Tryz.func156, Tryz.ntmps156
 go_upto_region 1 with fail
 rw [<- HW1.out]
 refine wp_region_all' 12 (fun i => ([some 8, some 9, some 10, some 11, some 12, some 13, some 7, some 14, some 15, some 6, some 5, none] : List (Option Tmp)).getD i none) (FT [.inl (.pointer (some ⟨nb, 0, none⟩)), .inl (.pointer (some ⟨nb, 0, none⟩)), .inl (.pointer (some ⟨nb, 2, none⟩)), .inl (.func (.func 36) #[] #[]), .inl (.agg o.cells), .inl (.tuple #[.int .u32 (o.n.ip : Int), .agg o.n.cells]), .inl (.tuple #[.int .u32 (o.n.ip : Int), .agg o.n.cells]), .inl (.int .u32 (o.n.ip : Int)), .inl (.agg o.n.cells), .inr (#[.int .u32 0, .int .u8 0, .int .u8 0, .int .u8 0, .int .u8 0, .int .u8 0, .int .u8 0], 42), .inl (.int .u32 (o.n.ip : Int)), .inl (undef)] (w1.heap.size) [⟨11, false, 9, o.n.cells, 42⟩]) (IT w1 (w1.heap.size) [⟨11, false, 9, o.n.cells, 42⟩]) (RT [⟨11, false, 9, o.n.cells, 42⟩]) (by kernel_rfl) (by kernel_rfl) (it_start (HI0.out.2)) (FT.keeps _ _ _ _ _ (by kernel_rfl)) ?_ ?_
 ·simp only [N.stepsAll]
  refine ⟨?_, ?_, ?_, ?_, ?_, ?_, ?_, ?_, ?_, ?_, ?_, ?_, trivial⟩
  ·intro a u vs hI hold hdep
   exact ft_still (ex_move (.tmp 0) _ rfl (hold 0 (dl_of (L := [some 8, some 9, some 10, some 11, some 12, some 13, some 7, some 14, some 15, some 6, some 5, none]) (by decide)))) rfl rfl rfl hI
  ·intro a u vs hI hold hdep
   have d0 := hdep ⟨0, .data⟩ (by simp) rfl
   exact ft_still (ex_nil ⟨nb, 0, none⟩ (.tmp 8) rfl (ft_dep d0.1 (d0.2 8 rfl) rfl)) rfl rfl rfl hI
  ·intro a u vs hI hold hdep
   have d1 := hdep ⟨1, .data⟩ (by simp) rfl
   exact ft_still (ex_field _ ⟨nb, 0, none⟩ (.tmp 9) 2 _ rfl (ft_dep d1.1 (d1.2 9 rfl) rfl) ((fld_bN u).2.2.1)) rfl rfl rfl hI
  ·intro a u vs hI hold hdep
   have d2 := hdep ⟨2, .data⟩ (by simp) rfl
   exact ft_still (ex_load _ ⟨nb, 2, none⟩ (.tmp 10) _ rfl (ft_dep d2.1 (d2.2 10 rfl) rfl) (load_fnN (by rw [cell_of_row _ _ _ _ _ _ (hI.kind HROW.out (by rw [HS1.out]; have := HLT.out; omega) HI0.out rfl)]; rfl))) rfl rfl rfl hI
  ·intro a u vs hI hold hdep
   exact ft_still (ex_load _ ⟨w.heap.size, 0, none⟩ (.tmp 3) _ rfl (hold 3 (dl_of (L := [some 8, some 9, some 10, some 11, some 12, some 13, some 7, some 14, some 15, some 6, some 5, none]) (by decide))) (OpB.load (hI.kind HOP.out (by rw [HS1.out]; omega) HI0.out rfl))) rfl rfl rfl hI
  ·intro a u vs hI hold hdep
   have d3 := hdep ⟨3, .data⟩ (by simp) rfl
   have d4 := hdep ⟨4, .data⟩ (by simp) rfl
   have ef : a.eval (.tmp 11) = .func (.func 36) #[] #[] := (ft_dep d3.1 (d3.2 11 rfl) rfl)
   have e0 : a.eval (.tmp 12) = .agg o.cells := (ft_dep d4.1 (d4.2 12 rfl) rfl)
   refine wp_callV 36 (.tmp 11) _ _ rfl ef (enters_of Tryz.func36 (by kernel_rfl) rfl) #[.agg o.cells] (by simp only [List.map_toArray, List.map_cons, List.map_nil, e0]) ?_
   exact ft_ret rfl rfl rfl hI (partN_any o u)
  ·intro a u vs hI hold hdep
   have d5 := hdep ⟨5, .data⟩ (by simp) rfl
   exact ft_still (ex_move (.tmp 13) _ rfl (ft_dep d5.1 (d5.2 13 rfl) rfl)) rfl rfl rfl hI
  ·intro a u vs hI hold hdep
   have d6 := hdep ⟨6, .data⟩ (by simp) rfl
   exact ft_still (ex_extract (.tmp 7) 0 _ _ rfl (ft_dep d6.1 (d6.2 7 rfl) rfl) rfl) rfl rfl rfl hI
  ·intro a u vs hI hold hdep
   have d6 := hdep ⟨6, .data⟩ (by simp) rfl
   exact ft_still (ex_extract (.tmp 7) 1 _ _ rfl (ft_dep d6.1 (d6.2 7 rfl) rfl) rfl) rfl rfl rfl hI
  ·intro a u vs hI hold hdep
   exact ft_alloc (ex_alloc u rfl (fun u => by kernel_rfl)) rfl rfl rfl hI nL
  ·intro a u vs hI hold hdep
   have d7 := hdep ⟨7, .data⟩ (by simp) rfl
   exact ft_still (ex_assign (.tmp 14) _ rfl (ft_dep d7.1 (d7.2 14 rfl) rfl)) rfl rfl rfl hI
  ·intro a u vs hI hold hdep
   have d8 := hdep ⟨8, .data⟩ (by simp) rfl
   have dn := hdep ⟨9, .data⟩ (by simp) rfl
   obtain ⟨b, old, hx, hvk, hBg, hs, hg⟩ := ft_depN dn.1 (dn.2 6 rfl) rfl
   exact ft_new (k := 9) (row := o.n.cells) (T := 42) rfl rfl (by decide) hx hvk hBg hs hg (ft_dep d8.1 (d8.2 15 rfl) rfl) (by simp) (fun q hq e => by simp only [List.mem_cons, List.not_mem_nil, or_false] at hq; rcases hq with rfl <;> first | rfl | (exact absurd e (by simp))) (by kernel_rfl) (one_cells o.n) rfl (by kernel_rfl) hI
 intro vs u hI hF
 have e0 : vs 0 = .pointer (some ⟨nb, 0, none⟩) := (hF 0 (by decide)).is rfl
 have e1 : vs 1 = .pointer (some ⟨nb, 0, none⟩) := (hF 1 (by decide)).is rfl
 have e2 : vs 2 = .pointer (some ⟨nb, 2, none⟩) := (hF 2 (by decide)).is rfl
 have e3 : vs 3 = .func (.func 36) #[] #[] := (hF 3 (by decide)).is rfl
 have e4 : vs 4 = .agg o.cells := (hF 4 (by decide)).is rfl
 have e5 : vs 5 = .tuple #[.int .u32 (o.n.ip : Int), .agg o.n.cells] := (hF 5 (by decide)).is rfl
 have e6 : vs 6 = .tuple #[.int .u32 (o.n.ip : Int), .agg o.n.cells] := (hF 6 (by decide)).is rfl
 have e7 : vs 7 = .int .u32 (o.n.ip : Int) := (hF 7 (by decide)).is rfl
 have e8 : vs 8 = .agg o.n.cells := (hF 8 (by decide)).is rfl
 obtain ⟨b9, e9, hb9⟩ := (hF 9 (by decide)).newB rfl
 have e10 : vs 10 = .int .u32 (o.n.ip : Int) := (hF 10 (by decide)).is rfl
 have e11 : vs 11 = undef := (hF 11 (by decide)).is rfl
 obtain ⟨bb11, f11, st11⟩ := (hF 11 (by decide)).storedN (k := 9) (row := o.n.cells) (T := 42) (by simp)
 obtain rfl : b9 = bb11 := by rw [e9] at f11; simpa using f11
 clear f11
 have hch := hI.1
 clear hF
 simp only [putsO, List.range, List.range.loop, List.foldr, if_true, List.getD_cons_zero, List.getD_cons_succ, e0, e1, e2, e3, e4, e5, e6, e7, e8, e9, e10, Act.put, List.setIfInBounds_toArray, List.set_cons_zero, List.set_cons_succ]
 clear e0 e1 e2 e3 e4 e5 e6 e7 e8 e9 e10 e11
 have hb : Below w1.heap.size w1 u := hch.below' bR nL (fun j hj => by
  rcases hj with hj | ⟨q, hq, e, _⟩
  ·exact hj
  ·simp at hq
   subst hq; cases e)
 have HU : Hid (Below w.heap.size w u) := HB1.out.trans (hb.mono (by have := HS1.out; omega))
 have HBU := hid (HBD.out.below hb)
 have HEB := hid st11
 clear hI hch hb st11
 have HRU := hid HBU.out.row
 have HMU := hid HBU.out.map
 have HLU := hid HBU.out.lt
 obtain ⟨-, c1, -, -⟩ := HBU.out.cells
 obtain ⟨w', hr, hm', ht'⟩ := HMU.out.drop (G := gN) (k := o.n.ip) HOK.out 0
 have HR : Hid (∀ ty, (Builtin.delete_ #[118, 34] ty #[.map (some bm), .int .u32 (o.n.ip : Int)]).run Tryz.prog u = .ok (.tuple #[]) w') := fun ty => hr
 have hch : Chg (fun b => b = bm) w w' := ((Chg.of_below HU.out)).trans (turned_chg ht')
 have HFIN : Hid (BdN w' nb bm room (delK Nb.ip L o.n.ip)) := by
  have hrow : w'.heap[nb]? = _ := ((turned_chg ht').block nb HLU.out.1 HBU.out.ne).trans HRU.out
  refine ⟨hrow, hm'.congr (len_del _).symm (fun y => (lk_del HBU.out.nod _ _).symm), HBU.out.nod.del _, ⟨Nat.le_trans (len_del_le _) HBU.out.le.1, HBU.out.le.2⟩, HBU.out.ne⟩
 have HCH := hid hch
 clear hr hm' ht' hch
 go_wp2_with (first | (at_delete; refine wpList_delete_run _ rfl _ _ _ _ rfl _ _ rfl rfl (HR.out _) ?_) | fail)
 go_ret
 exact ⟨rfl, HFIN.out, HCH.out⟩
theorem getN_any {nb bm room : Nat} {L : List Nb} (w : World) (k : Nat) (h : BdN w nb bm room L) (hk : k < 4294967296) :
  Calls Tryz.prog 25 #[.pointer (some ⟨nb, 0, none⟩), .int .u32 (k : Int)] w fun e w' => e = .returned (.tuple #[.agg ((lk Nb.ip L k).getD gN.z).cells, .bool (lk Nb.ip L k).isSome]) /\ Below w.heap.size w w' := by
 obtain ⟨ee, HEE⟩ : ∃ ee, Hid (ee = (lk Nb.ip L k).getD gN.z) := ⟨_, rfl⟩
 obtain ⟨bs, HBS⟩ : ∃ bs, Hid (bs = (lk Nb.ip L k).isSome) := ⟨_, rfl⟩
 rw [<- HEE.out, <- HBS.out]
 obtain ⟨w1, hw1⟩ : ∃ w1, w1 = w.alloc (.cells #[.int .u32 0, .int .u8 0, .int .u8 0, .int .u8 0, .int .u8 0, .int .u8 0, .int .u8 0] 42) := ⟨_, rfl⟩
 have hb1 : Below w.heap.size w w1 := by rw [hw1]; exact bR.alloc nL _
 have r1 : w1.heap[w.heap.size]? = some (.cells #[.int .u32 0, .int .u8 0, .int .u8 0, .int .u8 0, .int .u8 0, .int .u8 0, .int .u8 0] 42) := by rw [hw1]; exact heap_alloc_new w _
 have h1 := h.below hb1
 obtain ⟨-, c1, -, -⟩ := h1.cells
 have hlk := h1.map.look (G := gN) hk
 rw [<- HEE.out, <- HBS.out] at hlk
 have HLK : Hid ((Instr.lookup 118 (.map (some bm)) (.int .u32 (k : Int)) true).run Tryz.prog w1 = .ok (.tuple #[.agg #[.int .u32 (ee.ip : Int), .int .u8 (ee.mac.b0 : Int), .int .u8 (ee.mac.b1 : Int), .int .u8 (ee.mac.b2 : Int), .int .u8 (ee.mac.b3 : Int), .int .u8 (ee.mac.b4 : Int), .int .u8 (ee.mac.b5 : Int)], .bool bs]) w1) := hlk
 obtain ⟨w2, hw2⟩ : ∃ w2, w2 = w1.alloc (.cells #[.int .u32 (ee.ip : Int), .int .u8 (ee.mac.b0 : Int), .int .u8 (ee.mac.b1 : Int), .int .u8 (ee.mac.b2 : Int), .int .u8 (ee.mac.b3 : Int), .int .u8 (ee.mac.b4 : Int), .int .u8 (ee.mac.b5 : Int)] 42) := ⟨_, rfl⟩
 have hb2 : Below w1.heap.size w1 w2 := by rw [hw2]; exact bR.alloc nL _
 have r2 : w2.heap[w1.heap.size]? = some (.cells #[.int .u32 (ee.ip : Int), .int .u8 (ee.mac.b0 : Int), .int .u8 (ee.mac.b1 : Int), .int .u8 (ee.mac.b2 : Int), .int .u8 (ee.mac.b3 : Int), .int .u8 (ee.mac.b4 : Int), .int .u8 (ee.mac.b5 : Int)] 42) := by rw [hw2]; exact heap_alloc_new w1 _
 have hs1 : w1.heap.size = w.heap.size + 1 := by rw [hw1]; simp
 have HW1 := hid hw1
 have HW2 := hid hw2
 have HB : Hid (Below w.heap.size w w2) := hb1.trans (hb2.mono hb1.size)
 have R1 : Hid (w2.heap[w.heap.size]? = some (.cells #[.int .u32 0, .int .u8 0, .int .u8 0, .int .u8 0, .int .u8 0, .int .u8 0, .int .u8 0] 42)) := below_keeps hb2 r1 (by omega)
 have HS1 := hid hs1
 have R2 := hid r2
 clear hw1 hw2 hb1 hb2 r1 r2 h1 hlk hs1 h
 go_enter Tryz.func25, Tryz.ntmps25
 go_upto_region 1 with fail
 rw [<- HW1.out]
 go_upto_region 2 with (first | (at_lookup; refine wpList_lookup_run _ rfl _ _ _ _ rfl _ _ _ rfl rfl HLK.out ?_) | fail)
 rw [<- HW2.out]
 have x0 : w2.cell? ⟨w1.heap.size, 0, none⟩ = some (.int .u32 (ee.ip : Int)) := crw R2.out rfl
 have x1 : w2.cell? ⟨w1.heap.size, 1, none⟩ = some (.int .u8 (ee.mac.b0 : Int)) := crw R2.out rfl
 have x2 : w2.cell? ⟨w1.heap.size, 2, none⟩ = some (.int .u8 (ee.mac.b1 : Int)) := crw R2.out rfl
 have x3 : w2.cell? ⟨w1.heap.size, 3, none⟩ = some (.int .u8 (ee.mac.b2 : Int)) := crw R2.out rfl
 have x4 : w2.cell? ⟨w1.heap.size, 4, none⟩ = some (.int .u8 (ee.mac.b3 : Int)) := crw R2.out rfl
 have x5 : w2.cell? ⟨w1.heap.size, 5, none⟩ = some (.int .u8 (ee.mac.b4 : Int)) := crw R2.out rfl
 have x6 : w2.cell? ⟨w1.heap.size, 6, none⟩ = some (.int .u8 (ee.mac.b5 : Int)) := crw R2.out rfl
 have y0 : w2.cell? ⟨w.heap.size, 0, none⟩ = some (.int .u32 0) := crw R1.out rfl
 have z0 : w2.frozen? ⟨w.heap.size, 0, none⟩ = false := frozen_of_row _ _ _ _ _ R1.out
 have y1 : w2.cell? ⟨w.heap.size, 1, none⟩ = some (.int .u8 0) := crw R1.out rfl
 have z1 : w2.frozen? ⟨w.heap.size, 1, none⟩ = false := frozen_of_row _ _ _ _ _ R1.out
 have y2 : w2.cell? ⟨w.heap.size, 2, none⟩ = some (.int .u8 0) := crw R1.out rfl
 have z2 : w2.frozen? ⟨w.heap.size, 2, none⟩ = false := frozen_of_row _ _ _ _ _ R1.out
 have y3 : w2.cell? ⟨w.heap.size, 3, none⟩ = some (.int .u8 0) := crw R1.out rfl
 have z3 : w2.frozen? ⟨w.heap.size, 3, none⟩ = false := frozen_of_row _ _ _ _ _ R1.out
 have y4 : w2.cell? ⟨w.heap.size, 4, none⟩ = some (.int .u8 0) := crw R1.out rfl
 have z4 : w2.frozen? ⟨w.heap.size, 4, none⟩ = false := frozen_of_row _ _ _ _ _ R1.out
 have y5 : w2.cell? ⟨w.heap.size, 5, none⟩ = some (.int .u8 0) := crw R1.out rfl
 have z5 : w2.frozen? ⟨w.heap.size, 5, none⟩ = false := frozen_of_row _ _ _ _ _ R1.out
 have y6 : w2.cell? ⟨w.heap.size, 6, none⟩ = some (.int .u8 0) := crw R1.out rfl
 have z6 : w2.frozen? ⟨w.heap.size, 6, none⟩ = false := frozen_of_row _ _ _ _ _ R1.out
 obtain ⟨wf, hwf⟩ : ∃ wf, wf = (((((((w2.setCell ⟨w.heap.size, 0, none⟩ (.int .u32 (ee.ip : Int))).setCell ⟨w.heap.size, 1, none⟩ (.int .u8 (ee.mac.b0 : Int))).setCell ⟨w.heap.size, 2, none⟩ (.int .u8 (ee.mac.b1 : Int))).setCell ⟨w.heap.size, 3, none⟩ (.int .u8 (ee.mac.b2 : Int))).setCell ⟨w.heap.size, 4, none⟩ (.int .u8 (ee.mac.b3 : Int))).setCell ⟨w.heap.size, 5, none⟩ (.int .u8 (ee.mac.b4 : Int))).setCell ⟨w.heap.size, 6, none⟩ (.int .u8 (ee.mac.b5 : Int))) := ⟨_, rfl⟩
 have cf : Chg (fun b => b = w.heap.size) w2 wf := by rw [hwf]; exact (((((((Chg.of_but (X := fun b => b = w.heap.size) (But.set _ 0 _ _) rfl).trans (Chg.of_but (X := fun b => b = w.heap.size) (But.set _ 1 _ _) rfl)).trans (Chg.of_but (X := fun b => b = w.heap.size) (But.set _ 2 _ _) rfl)).trans (Chg.of_but (X := fun b => b = w.heap.size) (But.set _ 3 _ _) rfl)).trans (Chg.of_but (X := fun b => b = w.heap.size) (But.set _ 4 _ _) rfl)).trans (Chg.of_but (X := fun b => b = w.heap.size) (But.set _ 5 _ _) rfl)).trans (Chg.of_but (X := fun b => b = w.heap.size) (But.set _ 6 _ _) rfl))
 have rf : wf.heap[w.heap.size]? = some (.cells #[.int .u32 (ee.ip : Int), .int .u8 (ee.mac.b0 : Int), .int .u8 (ee.mac.b1 : Int), .int .u8 (ee.mac.b2 : Int), .int .u8 (ee.mac.b3 : Int), .int .u8 (ee.mac.b4 : Int), .int .u8 (ee.mac.b5 : Int)] 42) := by rw [hwf]; exact (set_row (set_row (set_row (set_row (set_row (set_row (set_row R1.out)))))))
 have HWF := hid hwf
 have HFF : Hid (Below w.heap.size w wf /\ wf.heap[w.heap.size]? = some (.cells #[.int .u32 (ee.ip : Int), .int .u8 (ee.mac.b0 : Int), .int .u8 (ee.mac.b1 : Int), .int .u8 (ee.mac.b2 : Int), .int .u8 (ee.mac.b3 : Int), .int .u8 (ee.mac.b4 : Int), .int .u8 (ee.mac.b5 : Int)] 42)) := ⟨cf.below' HB.out HB.out.size (fun j hj => by omega), rf⟩
 clear hwf cf rf
 go_wp2_with fail
 rw [<- HWF.out]
 obtain ⟨hbf, rf⟩ := HFF.out
 have u0 : wf.cell? ⟨w.heap.size, 0, none⟩ = some (.int .u32 (ee.ip : Int)) := crw rf rfl
 have u1 : wf.cell? ⟨w.heap.size, 1, none⟩ = some (.int .u8 (ee.mac.b0 : Int)) := crw rf rfl
 have u2 : wf.cell? ⟨w.heap.size, 2, none⟩ = some (.int .u8 (ee.mac.b1 : Int)) := crw rf rfl
 have u3 : wf.cell? ⟨w.heap.size, 3, none⟩ = some (.int .u8 (ee.mac.b2 : Int)) := crw rf rfl
 have u4 : wf.cell? ⟨w.heap.size, 4, none⟩ = some (.int .u8 (ee.mac.b3 : Int)) := crw rf rfl
 have u5 : wf.cell? ⟨w.heap.size, 5, none⟩ = some (.int .u8 (ee.mac.b4 : Int)) := crw rf rfl
 have u6 : wf.cell? ⟨w.heap.size, 6, none⟩ = some (.int .u8 (ee.mac.b5 : Int)) := crw rf rfl
 refine bodyPost_ret (v := .tuple #[.agg ee.cells, .bool bs]) (by simp [results, Tryz.results25, go_sem, u0, u1, u2, u3, u4, u5, u6, Nb.cells]) rfl ⟨rfl, hbf⟩
theorem emptyN_any {nb bm room : Nat} {L : List Nb} (w : World) (h : BdN w nb bm room L) :
  Calls Tryz.prog 28 #[.pointer (some ⟨nb, 0, none⟩)] w fun e w' => e = .returned (.tuple #[]) /\ BdN w' nb bm room [] /\ Chg (fun b => b = bm) w w' := by
 obtain ⟨-, c1, -, -⟩ := h.cells
 obtain ⟨w', hr, hm', hch⟩ := h.map.clear 0
 have hcl : ∀ ty, (Builtin.clear_ #[118] ty #[.map (some bm)]).run Tryz.prog w = .ok (.tuple #[]) w' := fun ty => hr
 have HFIN : Hid (BdN w' nb bm room [] /\ Chg (fun b => b = bm) w w') := ⟨⟨(hch.block nb h.lt.1 h.ne).trans h.row, hm', List.nodup_nil, ⟨Nat.zero_le _, h.le.2⟩, h.ne⟩, hch⟩
 clear hr hm' hch h
 go_enter Tryz.func28, Tryz.ntmps28
 go_wp2_with fail
 exact bodyPost_end (results_none Tryz.results28 _ _ _) rfl ⟨rfl, HFIN.out⟩
theorem newN_any (w : World) (room : Nat) (hr : 1 <= room /\ room <= 256) :
  Calls Tryz.prog 16 #[.int .i64 (room : Int)] w fun e w' => ∃ nb bm, e = .returned (.pointer (some ⟨nb, 0, none⟩)) /\ w.heap.size <= nb /\ w.heap.size <= bm /\ BdN w' nb bm room [] /\ Below w.heap.size w w' := by
 obtain ⟨w1, hw1⟩ : ∃ w1, w1 = w.alloc (.map #[] 0) := ⟨_, rfl⟩
 obtain ⟨bm, HBM⟩ : ∃ bm, Hid (bm = w.heap.size) := ⟨_, rfl⟩
 obtain ⟨w2, hw2⟩ : ∃ w2, w2 = w1.alloc (.cells #[.int .i64 (room : Int), .map (some w.heap.size), .func (.func 36) #[] #[], .func (.func 38) #[] #[]] 120) := ⟨_, rfl⟩
 have hs1 : w1.heap.size = w.heap.size + 1 := by rw [hw1]; simp
 have hb1 : Below w.heap.size w w1 := by rw [hw1]; exact bR.alloc nL _
 have hb2 : Below w1.heap.size w1 w2 := by rw [hw2]; exact bR.alloc nL _
 have hm1 : MapG gN w1 w.heap.size (fun _ => none) 0 := by rw [hw1]; exact MapG.made _ w
 have HW2 : Hid (w2 = (w.alloc (.map #[] 0)).alloc (.cells #[.int .i64 (room : Int), .map (some w.heap.size), .func (.func 36) #[] #[], .func (.func 38) #[] #[]] 120)) := by unfold Hid; rw [hw2, hw1]
 have HFIN : Hid (BdN w2 w1.heap.size w.heap.size room [] /\ Below w.heap.size w w2) :=
  ⟨⟨by rw [hw2]; exact heap_alloc_new w1 _, hm1.kept (hb2.block _ (by omega)), List.nodup_nil, ⟨Nat.zero_le _, hr.2⟩, by omega⟩, hb1.trans (hb2.mono (by omega))⟩
 have HS1 := hid hs1
 have HC : Hid (Calls Tryz.prog 37 #[.int .i64 (room : Int), .func (.func 36) #[] #[], .func (.func 38) #[] #[]] w fun e w' => e = .returned (.pointer (some ⟨w1.heap.size, 0, none⟩)) /\ w' = w2) := by
  unfold Hid
  rw [HS1.out]
  have hmk : (Instr.makeMap 118 none).run Tryz.prog w = .ok (.map (some w.heap.size)) (w.alloc (.map #[] 0)) := run_makeMap _ w
  clear hw1 hw2 hs1 hb1 hb2 hm1 HFIN
  go_enter Tryz.func37, Tryz.ntmps37
  go_wp2_with fail
  rw [<- HW2.out]
  go_ret
  exact ⟨rfl, rfl⟩
 clear hw1 hw2 hs1 hb1 hb2 hm1
 go_enter Tryz.func16, Tryz.ntmps16
 go_wp2_with fail
 refine HC.out.mono ?_
 rintro _ _ ⟨rfl, ew⟩
 obtain rfl := ew.symm
 go_wp2_with fail
 go_ret
 exact ⟨_, _, rfl, by have := HS1.out; omega, nL, HFIN.out⟩
end Go.Proofs.YtpdnnikkaojnkaaGreat.Rt
