import Derived.Test.YtpdnnikkaojnkaaGreatYKEN
namespace Go.Proofs.YtpdnnikkaojnkaaGreat.Rt
open Go.Proofs.YtpdnnikkaojnkaaGreat Go.ChangeShapes Go.WideShapes Go.ChangeAt Go.RowKit Go.Maps Tri N
set_option maxHeartbeats 4000000
set_option maxRecDepth 100000
theorem deleteF_any {nb bm room : Nat} {L : List Fd} (w : World) (o : Opv) (h : BdF w nb bm room L) (ho : o.Ok) :
  Calls Tryz.prog 159 #[.pointer (some ⟨nb, 0, none⟩), .agg o.cells] w fun e w' => e = .returned (.int .i64 0) /\ BdF w' nb bm room (delK Fd.mac L o.f.mac) /\ Chg (fun b => b = bm) w w' := by
 obtain ⟨w1, hw1⟩ : ∃ w1, w1 = w.alloc (.cells o.cells 46) := ⟨_, rfl⟩
 have hs1 : w1.heap.size = w.heap.size + 1 := by rw [hw1]; simp
 have hb1 : Below w.heap.size w w1 := by rw [hw1]; exact bR.alloc nL _
 have hop : OpB w1 w.heap.size o := by unfold OpB; rw [hw1]; exact heap_alloc_new w _
 have h1 := h.below hb1
 have HW1 := hid hw1
 have HOP := hid hop
 have HB1 := hid hb1
 have HS1 := hid hs1
 have HBD := hid h1
 have HROW := hid h1.row
 have HLT := hid h.lt
 have HI0 : Hid (IT w1 w1.heap.size [⟨11, false, 9, #[.int .u8 (o.f.mac.b0 : Int), .int .u8 (o.f.mac.b1 : Int), .int .u8 (o.f.mac.b2 : Int), .int .u8 (o.f.mac.b3 : Int), .int .u8 (o.f.mac.b4 : Int), .int .u8 (o.f.mac.b5 : Int)], 40⟩, ⟨12, false, 10, o.f.cells, 44⟩] w1) := ⟨Chg.refl _ _, fun q hq e => by simp at hq; rcases hq with rfl | rfl <;> cases e⟩
 have HOK := hid ho.fm
 clear hw1 hop hb1 h1 hs1 h ho
 go_enter Tryz.func159, Tryz.ntmps159
 go_upto_region 1 with fail
 rw [<- HW1.out]
 refine wp_region_all' 13 (fun i => ([some 8, some 9, some 10, some 11, some 12, some 13, some 7, some 14, some 15, some 5, some 6, none, none] : List (Option Tmp)).getD i none) (FT [.inl (.pointer (some ⟨nb, 0, none⟩)), .inl (.pointer (some ⟨nb, 0, none⟩)), .inl (.pointer (some ⟨nb, 2, none⟩)), .inl (.func (.func 39) #[] #[]), .inl (.agg o.cells), .inl (.tuple #[o.f.mac.v, .agg o.f.cells]), .inl (.tuple #[o.f.mac.v, .agg o.f.cells]), .inl (o.f.mac.v), .inl (.agg o.f.cells), .inr (#[.int .u8 0, .int .u8 0, .int .u8 0, .int .u8 0, .int .u8 0, .int .u8 0], 40), .inr (#[.int .u8 0, .int .u8 0, .int .u8 0, .int .u8 0, .int .u8 0, .int .u8 0, .int .u32 0], 44), .inl (undef), .inl (undef)] (w1.heap.size) [⟨11, false, 9, #[.int .u8 (o.f.mac.b0 : Int), .int .u8 (o.f.mac.b1 : Int), .int .u8 (o.f.mac.b2 : Int), .int .u8 (o.f.mac.b3 : Int), .int .u8 (o.f.mac.b4 : Int), .int .u8 (o.f.mac.b5 : Int)], 40⟩, ⟨12, false, 10, o.f.cells, 44⟩]) (IT w1 (w1.heap.size) [⟨11, false, 9, #[.int .u8 (o.f.mac.b0 : Int), .int .u8 (o.f.mac.b1 : Int), .int .u8 (o.f.mac.b2 : Int), .int .u8 (o.f.mac.b3 : Int), .int .u8 (o.f.mac.b4 : Int), .int .u8 (o.f.mac.b5 : Int)], 40⟩, ⟨12, false, 10, o.f.cells, 44⟩]) (RT [⟨11, false, 9, #[.int .u8 (o.f.mac.b0 : Int), .int .u8 (o.f.mac.b1 : Int), .int .u8 (o.f.mac.b2 : Int), .int .u8 (o.f.mac.b3 : Int), .int .u8 (o.f.mac.b4 : Int), .int .u8 (o.f.mac.b5 : Int)], 40⟩, ⟨12, false, 10, o.f.cells, 44⟩]) (by kernel_rfl) (by kernel_rfl) (it_start (HI0.out.2)) (FT.keeps _ _ _ _ _ (by kernel_rfl)) ?_ ?_
 ·simp only [N.stepsAll]
  refine ⟨?_, ?_, ?_, ?_, ?_, ?_, ?_, ?_, ?_, ?_, ?_, ?_, ?_, trivial⟩
  ·intro a u vs hI hold hdep
   exact ft_still (ex_move (.tmp 0) _ rfl (hold 0 (dl_of (L := [some 8, some 9, some 10, some 11, some 12, some 13, some 7, some 14, some 15, some 5, some 6, none, none]) (by decide)))) rfl rfl rfl hI
  ·intro a u vs hI hold hdep
   have d0 := hdep ⟨0, .data⟩ (by simp) rfl
   exact ft_still (ex_nil ⟨nb, 0, none⟩ (.tmp 8) rfl (ft_dep d0.1 (d0.2 8 rfl) rfl)) rfl rfl rfl hI
  ·intro a u vs hI hold hdep
   have d1 := hdep ⟨1, .data⟩ (by simp) rfl
   exact ft_still (ex_field _ ⟨nb, 0, none⟩ (.tmp 9) 2 _ rfl (ft_dep d1.1 (d1.2 9 rfl) rfl) ((fld_bF u).2.2.1)) rfl rfl rfl hI
  ·intro a u vs hI hold hdep
   have d2 := hdep ⟨2, .data⟩ (by simp) rfl
   exact ft_still (ex_load _ ⟨nb, 2, none⟩ (.tmp 10) _ rfl (ft_dep d2.1 (d2.2 10 rfl) rfl) (load_fnF (by rw [cell_of_row _ _ _ _ _ _ (hI.kind HROW.out (by rw [HS1.out]; have := HLT.out; omega) HI0.out rfl)]; rfl))) rfl rfl rfl hI
  ·intro a u vs hI hold hdep
   exact ft_still (ex_load _ ⟨w.heap.size, 0, none⟩ (.tmp 3) _ rfl (hold 3 (dl_of (L := [some 8, some 9, some 10, some 11, some 12, some 13, some 7, some 14, some 15, some 5, some 6, none, none]) (by decide))) (OpB.load (hI.kind HOP.out (by rw [HS1.out]; omega) HI0.out rfl))) rfl rfl rfl hI
  ·intro a u vs hI hold hdep
   have d3 := hdep ⟨3, .data⟩ (by simp) rfl
   have d4 := hdep ⟨4, .data⟩ (by simp) rfl
   have ef : a.eval (.tmp 11) = .func (.func 39) #[] #[] := (ft_dep d3.1 (d3.2 11 rfl) rfl)
   have e0 : a.eval (.tmp 12) = .agg o.cells := (ft_dep d4.1 (d4.2 12 rfl) rfl)
   refine wp_callV 39 (.tmp 11) _ _ rfl ef (enters_of Tryz.func39 (by kernel_rfl) rfl) #[.agg o.cells] (by simp only [List.map_toArray, List.map_cons, List.map_nil, e0]) ?_
   exact ft_ret rfl rfl rfl hI (partF_any o u)
  ·intro a u vs hI hold hdep
   have d5 := hdep ⟨5, .data⟩ (by simp) rfl
   exact ft_still (ex_move (.tmp 13) _ rfl (ft_dep d5.1 (d5.2 13 rfl) rfl)) rfl rfl rfl hI
  ·intro a u vs hI hold hdep
   have d6 := hdep ⟨6, .data⟩ (by simp) rfl
   exact ft_still (ex_extract (.tmp 7) 0 _ _ rfl (ft_dep d6.1 (d6.2 7 rfl) rfl) rfl) rfl rfl rfl hI
  ·intro a u vs hI hold hdep
   have d6 := hdep ⟨6, .data⟩ (by simp) rfl
   exact ft_still (ex_extract (.tmp 7) 1 _ _ rfl (ft_dep d6.1 (d6.2 7 rfl) rfl) rfl) rfl rfl rfl hI
  ·intro a u vs hI hold hdep
   exact ft_alloc (ex_alloc u rfl (fun u => by kernel_rfl)) rfl rfl rfl hI nL
  ·intro a u vs hI hold hdep
   exact ft_alloc (ex_alloc u rfl (fun u => by kernel_rfl)) rfl rfl rfl hI nL
  ·intro a u vs hI hold hdep
   have d7 := hdep ⟨7, .data⟩ (by simp) rfl
   have dn := hdep ⟨9, .data⟩ (by simp) rfl
   obtain ⟨b, old, hx, hvk, hBg, hs, hg⟩ := ft_depN dn.1 (dn.2 5 rfl) rfl
   exact ft_new (k := 9) (row := #[.int .u8 (o.f.mac.b0 : Int), .int .u8 (o.f.mac.b1 : Int), .int .u8 (o.f.mac.b2 : Int), .int .u8 (o.f.mac.b3 : Int), .int .u8 (o.f.mac.b4 : Int), .int .u8 (o.f.mac.b5 : Int)]) (T := 40) rfl rfl (by decide) hx hvk hBg hs hg (ft_dep d7.1 (d7.2 14 rfl) rfl) (by simp) (fun q hq e => by simp only [List.mem_cons, List.not_mem_nil, or_false] at hq; rcases hq with rfl | rfl <;> first | rfl | (exact absurd e (by simp))) (by kernel_rfl) (by simp [Value.oneCell']) rfl (by kernel_rfl) hI
  ·intro a u vs hI hold hdep
   have d8 := hdep ⟨8, .data⟩ (by simp) rfl
   have dn := hdep ⟨10, .data⟩ (by simp) rfl
   obtain ⟨b, old, hx, hvk, hBg, hs, hg⟩ := ft_depN dn.1 (dn.2 6 rfl) rfl
   exact ft_new (k := 10) (row := o.f.cells) (T := 44) rfl rfl (by decide) hx hvk hBg hs hg (ft_dep d8.1 (d8.2 15 rfl) rfl) (by simp) (fun q hq e => by simp only [List.mem_cons, List.not_mem_nil, or_false] at hq; rcases hq with rfl | rfl <;> first | rfl | (exact absurd e (by simp))) (by kernel_rfl) (one_cells o.f) rfl (by kernel_rfl) hI
 intro vs u hI hF
 have e0 : vs 0 = .pointer (some ⟨nb, 0, none⟩) := (hF 0 (by decide)).is rfl
 have e1 : vs 1 = .pointer (some ⟨nb, 0, none⟩) := (hF 1 (by decide)).is rfl
 have e2 : vs 2 = .pointer (some ⟨nb, 2, none⟩) := (hF 2 (by decide)).is rfl
 have e3 : vs 3 = .func (.func 39) #[] #[] := (hF 3 (by decide)).is rfl
 have e4 : vs 4 = .agg o.cells := (hF 4 (by decide)).is rfl
 have e5 : vs 5 = .tuple #[o.f.mac.v, .agg o.f.cells] := (hF 5 (by decide)).is rfl
 have e6 : vs 6 = .tuple #[o.f.mac.v, .agg o.f.cells] := (hF 6 (by decide)).is rfl
 have e7 : vs 7 = o.f.mac.v := (hF 7 (by decide)).is rfl
 have e8 : vs 8 = .agg o.f.cells := (hF 8 (by decide)).is rfl
 obtain ⟨b9, e9, hb9⟩ := (hF 9 (by decide)).newB rfl
 obtain ⟨b10, e10, hb10⟩ := (hF 10 (by decide)).newB rfl
 have e11 : vs 11 = undef := (hF 11 (by decide)).is rfl
 have e12 : vs 12 = undef := (hF 12 (by decide)).is rfl
 obtain ⟨bb11, f11, st11⟩ := (hF 11 (by decide)).storedN (k := 9) (row := #[.int .u8 (o.f.mac.b0 : Int), .int .u8 (o.f.mac.b1 : Int), .int .u8 (o.f.mac.b2 : Int), .int .u8 (o.f.mac.b3 : Int), .int .u8 (o.f.mac.b4 : Int), .int .u8 (o.f.mac.b5 : Int)]) (T := 40) (by simp)
 obtain rfl : b9 = bb11 := by rw [e9] at f11; simpa using f11
 clear f11
 obtain ⟨bb12, f12, st12⟩ := (hF 12 (by decide)).storedN (k := 10) (row := o.f.cells) (T := 44) (by simp)
 obtain rfl : b10 = bb12 := by rw [e10] at f12; simpa using f12
 clear f12
 have hch := hI.1
 clear hF
 simp only [putsO, List.range, List.range.loop, List.foldr, if_true, List.getD_cons_zero, List.getD_cons_succ, e0, e1, e2, e3, e4, e5, e6, e7, e8, e9, e10, Act.put, List.setIfInBounds_toArray, List.set_cons_zero, List.set_cons_succ]
 clear e0 e1 e2 e3 e4 e5 e6 e7 e8 e9 e10 e11 e12
 have hb : Below w1.heap.size w1 u := hch.below' bR nL (fun j hj => by
  rcases hj with hj | ⟨q, hq, e, _⟩
  ·exact hj
  ·simp at hq
   rcases hq with rfl | rfl <;> cases e)
 have HU : Hid (Below w.heap.size w u) := HB1.out.trans (hb.mono (by have := HS1.out; omega))
 have HBU := hid (HBD.out.below hb)
 have HEB := hid st12
 have HKB := hid st11
 clear hI hch hb st12 st11
 have HRU := hid HBU.out.row
 have HMU := hid HBU.out.map
 have HLU := hid HBU.out.lt
 clear hb9 hb10
 go_upto_region 2 with fail
 refine wp_region_mono' 5 (fun i => ([16, 17, 18, 19, 20] : List Tmp).getD i 0) (FA [.inl (.pointer (some ⟨nb, 0, none⟩)), .inl (.pointer (some ⟨nb, 0, none⟩)), .inl (.pointer (some ⟨nb, 1, none⟩)), .inl (.map (some bm)), .inl (o.f.mac.v)] 0) (by kernel_rfl) (by kernel_rfl) (FA.keeps _ _) ?_ ?_
 ·simp only [List.take_succ_cons, List.take_zero, stepsOk]
  refine ⟨?_, ?_, ?_, ?_, ?_, trivial⟩
  ·intro a u_ vs hb hold hdep
   exact fa_still (ex_move (.tmp 0) _ rfl (hold 0 (dlM (L := [16, 17, 18, 19, 20]) (by decide)))) rfl rfl hb
  ·intro a u_ vs hb hold hdep
   exact fa_still (ex_nil ⟨nb, 0, none⟩ (.tmp 16) rfl (FA.dep (hdep ⟨0, .data⟩ (by simp) rfl (by decide)) rfl)) rfl rfl hb
  ·intro a u_ vs hb hold hdep
   exact fa_still (ex_field _ ⟨nb, 0, none⟩ (.tmp 17) 1 _ rfl (FA.dep (hdep ⟨1, .data⟩ (by simp) rfl (by decide)) rfl) ((fld_bF u_).2.1)) rfl rfl hb
  ·intro a u_ vs hb hold hdep
   exact fa_still (ex_load _ ⟨nb, 1, none⟩ (.tmp 18) _ rfl (FA.dep (hdep ⟨2, .data⟩ (by simp) rfl (by decide)) rfl) (load_mpF (by rw [cell_of_row _ _ _ _ _ _ (below_keeps hb HRU.out HLU.out.1)]; rfl))) rfl rfl hb
  ·intro a u_ vs hb hold hdep
   exact fa_still (ex_load _ ⟨b9, 0, none⟩ (.tmp 5) _ rfl (hold 5 (dlM (L := [16, 17, 18, 19, 20]) (by decide))) (load_at (cs := [.int .u8 (o.f.mac.b0 : Int), .int .u8 (o.f.mac.b1 : Int), .int .u8 (o.f.mac.b2 : Int), .int .u8 (o.f.mac.b3 : Int), .int .u8 (o.f.mac.b4 : Int), .int .u8 (o.f.mac.b5 : Int)]) (below_keeps hb HKB.out (gsl HKB.out)) rfl uM rfl (by kernel_rfl))) rfl rfl hb
 intro vs u3 hb hF
 have e0 : vs 0 = .pointer (some ⟨nb, 0, none⟩) := (hF 0 (by decide)).is rfl
 have e1 : vs 1 = .pointer (some ⟨nb, 0, none⟩) := (hF 1 (by decide)).is rfl
 have e2 : vs 2 = .pointer (some ⟨nb, 1, none⟩) := (hF 2 (by decide)).is rfl
 have e3 : vs 3 = .map (some bm) := (hF 3 (by decide)).is rfl
 have e4 : vs 4 = o.f.mac.v := (hF 4 (by decide)).is rfl
 clear hF
 simp only [List.drop_succ_cons, List.drop_zero, puts, List.range, List.range.loop, List.foldr, if_true, List.getD_cons_zero, List.getD_cons_succ, e0, e1, e2, e3, e4, Act.put, List.setIfInBounds_toArray, List.set_cons_zero, List.set_cons_succ]
 clear e0 e1 e2 e3 e4
 obtain ⟨w', hr, hm', ht'⟩ := (HMU.out.kept (hb.block _ HLU.out.2)).drop (G := gF) (k := o.f.mac) HOK.out 0
 have HR : Hid (∀ ty, (Builtin.delete_ #[126, 40] ty #[.map (some bm), o.f.mac.v]).run Tryz.prog u3 = .ok (.tuple #[]) w') := fun ty => hr
 have hch : Chg (fun b => b = bm) w w' := ((Chg.of_below HU.out).trans (Chg.of_below hb)).trans (turned_chg ht')
 have HFIN : Hid (BdF w' nb bm room (delK Fd.mac L o.f.mac)) := by
  have hrow : w'.heap[nb]? = _ := ((turned_chg ht').block nb (Nat.lt_of_lt_of_le HLU.out.1 hb.size) HBU.out.ne).trans ((hb.block _ HLU.out.1).trans HRU.out)
  refine ⟨hrow, hm'.congr (len_del _).symm (fun y => (lk_del HBU.out.nod _ _).symm), HBU.out.nod.del _, ⟨Nat.le_trans (len_del_le _) HBU.out.le.1, HBU.out.le.2⟩, HBU.out.ne⟩
 have HCH := hid hch
 clear hb hr hm' ht' hch
 refine wpList_delete_run _ rfl _ _ _ _ rfl _ _ rfl rfl (HR.out _) ?_
 go_wp2_with fail
 go_ret
 exact ⟨rfl, HFIN.out, HCH.out⟩
theorem getF_any {nb bm room : Nat} {L : List Fd} (w : World) (k : Mc) (h : BdF w nb bm room L) (hk : k.Ok) :
  Calls Tryz.prog 26 #[.pointer (some ⟨nb, 0, none⟩), k.v] w fun e w' => e = .returned (.tuple #[.agg ((lk Fd.mac L k).getD gF.z).cells, .bool (lk Fd.mac L k).isSome]) /\ Below w.heap.size w w' := by
 obtain ⟨ee, HEE⟩ : ∃ ee, Hid (ee = (lk Fd.mac L k).getD gF.z) := ⟨_, rfl⟩
 obtain ⟨bs, HBS⟩ : ∃ bs, Hid (bs = (lk Fd.mac L k).isSome) := ⟨_, rfl⟩
 rw [<- HEE.out, <- HBS.out]
 obtain ⟨w1, hw1⟩ : ∃ w1, w1 = (w.alloc (.cells #[.int .u8 (k.b0 : Int), .int .u8 (k.b1 : Int), .int .u8 (k.b2 : Int), .int .u8 (k.b3 : Int), .int .u8 (k.b4 : Int), .int .u8 (k.b5 : Int)] 40)).alloc (.cells #[.int .u8 0, .int .u8 0, .int .u8 0, .int .u8 0, .int .u8 0, .int .u8 0, .int .u32 0] 44) := ⟨_, rfl⟩
 have hb1 : Below w.heap.size w w1 := by rw [hw1]; exact (bR.alloc nL _).alloc (by simp) _
 have rk : w1.heap[w.heap.size]? = some (.cells #[.int .u8 (k.b0 : Int), .int .u8 (k.b1 : Int), .int .u8 (k.b2 : Int), .int .u8 (k.b3 : Int), .int .u8 (k.b4 : Int), .int .u8 (k.b5 : Int)] 40) := by rw [hw1, Below.heap_alloc _ _ _ (by simp)]; exact heap_alloc_new w _
 have r1 : w1.heap[w.heap.size + 1]? = some (.cells #[.int .u8 0, .int .u8 0, .int .u8 0, .int .u8 0, .int .u8 0, .int .u8 0, .int .u32 0] 44) := by
  have := heap_alloc_new (w.alloc (.cells #[.int .u8 (k.b0 : Int), .int .u8 (k.b1 : Int), .int .u8 (k.b2 : Int), .int .u8 (k.b3 : Int), .int .u8 (k.b4 : Int), .int .u8 (k.b5 : Int)] 40)) (.cells #[.int .u8 0, .int .u8 0, .int .u8 0, .int .u8 0, .int .u8 0, .int .u8 0, .int .u32 0] 44)
  rw [World.size_alloc] at this
  rw [hw1]; exact this
 have hs1 : w1.heap.size = w.heap.size + 2 := by rw [hw1]; simp
 have h1 := h.below hb1
 have HW1 := hid hw1
 have HB1 := hid hb1
 have HS1 := hid hs1
 have HKB := hid rk
 have R10 := hid r1
 have HRU := hid h1.row
 have HMU := hid h1.map
 have HLU := hid h1.lt
 have HI2 : Hid (IT w1 w1.heap.size [⟨10, false, 9, ee.cells, 44⟩] w1) := ⟨Chg.refl _ _, fun q hq e => by simp at hq; subst hq; cases e⟩
 have HOK := hid hk
 clear hw1 hb1 rk r1 h1 hs1 h hk
 unfold Mc.v
 go_enter Tryz.func26, Tryz.ntmps26
 go_upto_region 1 with fail
 rw [<- HW1.out]
 refine wp_region_all' 12 (fun i => ([some 9, some 10, some 11, some 12, some 13, some 14, some 8, some 15, some 16, some 6, none, some 7] : List (Option Tmp)).getD i none) (FT [.inl (.pointer (some ⟨nb, 0, none⟩)), .inl (.pointer (some ⟨nb, 0, none⟩)), .inl (.pointer (some ⟨nb, 1, none⟩)), .inl (.map (some bm)), .inl (k.v), .inl (.tuple #[.agg ee.cells, .bool bs]), .inl (.tuple #[.agg ee.cells, .bool bs]), .inl (.agg ee.cells), .inl (.bool bs), .inr (#[.int .u8 0, .int .u8 0, .int .u8 0, .int .u8 0, .int .u8 0, .int .u8 0, .int .u32 0], 44), .inl (undef), .inl (.bool bs)] (w1.heap.size) [⟨10, false, 9, ee.cells, 44⟩]) (IT w1 (w1.heap.size) [⟨10, false, 9, ee.cells, 44⟩]) (RT [⟨10, false, 9, ee.cells, 44⟩]) (by kernel_rfl) (by kernel_rfl) (it_start (HI2.out.2)) (FT.keeps _ _ _ _ _ (by kernel_rfl)) ?_ ?_
 ·simp only [N.stepsAll]
  refine ⟨?_, ?_, ?_, ?_, ?_, ?_, ?_, ?_, ?_, ?_, ?_, ?_, trivial⟩
  ·intro a u_ vs hI hold hdep
   exact ft_still (ex_move (.tmp 0) _ rfl (hold 0 (dl_of (L := [some 9, some 10, some 11, some 12, some 13, some 14, some 8, some 15, some 16, some 6, none, some 7]) (by decide)))) rfl rfl rfl hI
  ·intro a u_ vs hI hold hdep
   have d0 := hdep ⟨0, .data⟩ (by simp) rfl
   exact ft_still (ex_nil ⟨nb, 0, none⟩ (.tmp 9) rfl (ft_dep d0.1 (d0.2 9 rfl) rfl)) rfl rfl rfl hI
  ·intro a u_ vs hI hold hdep
   have d1 := hdep ⟨1, .data⟩ (by simp) rfl
   exact ft_still (ex_field _ ⟨nb, 0, none⟩ (.tmp 10) 1 _ rfl (ft_dep d1.1 (d1.2 10 rfl) rfl) ((fld_bF u_).2.1)) rfl rfl rfl hI
  ·intro a u_ vs hI hold hdep
   have d2 := hdep ⟨2, .data⟩ (by simp) rfl
   exact ft_still (ex_load _ ⟨nb, 1, none⟩ (.tmp 11) _ rfl (ft_dep d2.1 (d2.2 11 rfl) rfl) (load_mpF (by rw [cell_of_row _ _ _ _ _ _ ((hI.same HLU.out.1 HLU.out.1 rfl).trans HRU.out)]; rfl))) rfl rfl rfl hI
  ·intro a u_ vs hI hold hdep
   exact ft_still (ex_load _ ⟨w.heap.size, 0, none⟩ (.tmp 3) _ rfl (hold 3 (dl_of (L := [some 9, some 10, some 11, some 12, some 13, some 14, some 8, some 15, some 16, some 6, none, some 7]) (by decide))) (load_at (cs := [.int .u8 (k.b0 : Int), .int .u8 (k.b1 : Int), .int .u8 (k.b2 : Int), .int .u8 (k.b3 : Int), .int .u8 (k.b4 : Int), .int .u8 (k.b5 : Int)]) ((hI.same (gsl HKB.out) (gsl HKB.out) rfl).trans HKB.out) rfl uM rfl (by kernel_rfl))) rfl rfl rfl hI
  ·intro a u_ vs hI hold hdep
   have d3 := hdep ⟨3, .data⟩ (by simp) rfl
   have d4 := hdep ⟨4, .data⟩ (by simp) rfl
   exact ft_still (ex_lookup _ (.tmp 12) (.tmp 13) true _ _ _ rfl (ft_dep d3.1 (d3.2 12 rfl) rfl) (ft_dep d4.1 (d4.2 13 rfl) rfl) (by have h2 := (HMU.out.kept (hI.same HLU.out.2 HLU.out.2 rfl)).look (G := gF) HOK.out; rw [<- HEE.out, <- HBS.out] at h2; exact h2)) rfl rfl rfl hI
  ·intro a u_ vs hI hold hdep
   have d5 := hdep ⟨5, .data⟩ (by simp) rfl
   exact ft_still (ex_move (.tmp 14) _ rfl (ft_dep d5.1 (d5.2 14 rfl) rfl)) rfl rfl rfl hI
  ·intro a u_ vs hI hold hdep
   have d6 := hdep ⟨6, .data⟩ (by simp) rfl
   exact ft_still (ex_extract (.tmp 8) 0 _ _ rfl (ft_dep d6.1 (d6.2 8 rfl) rfl) rfl) rfl rfl rfl hI
  ·intro a u_ vs hI hold hdep
   have d6 := hdep ⟨6, .data⟩ (by simp) rfl
   exact ft_still (ex_extract (.tmp 8) 1 _ _ rfl (ft_dep d6.1 (d6.2 8 rfl) rfl) rfl) rfl rfl rfl hI
  ·intro a u_ vs hI hold hdep
   exact ft_alloc (ex_alloc u_ rfl (fun u => by kernel_rfl)) rfl rfl rfl hI nL
  ·intro a u_ vs hI hold hdep
   have d7 := hdep ⟨7, .data⟩ (by simp) rfl
   have dn := hdep ⟨9, .data⟩ (by simp) rfl
   obtain ⟨b, old, hx, hvk, hBg, hs, hg⟩ := ft_depN dn.1 (dn.2 6 rfl) rfl
   exact ft_new (k := 9) (row := ee.cells) (T := 44) rfl rfl (by decide) hx hvk hBg hs hg (ft_dep d7.1 (d7.2 15 rfl) rfl) (by simp) (fun q hq e => by simp only [List.mem_cons, List.not_mem_nil, or_false] at hq; rcases hq with rfl <;> first | rfl | (exact absurd e (by simp))) (by kernel_rfl) (one_cells ee) rfl (by kernel_rfl) hI
  ·intro a u_ vs hI hold hdep
   have d8 := hdep ⟨8, .data⟩ (by simp) rfl
   exact ft_still (ex_assign (.tmp 16) _ rfl (ft_dep d8.1 (d8.2 16 rfl) rfl)) rfl rfl rfl hI
 intro vs u2 hI hF
 have e0 : vs 0 = .pointer (some ⟨nb, 0, none⟩) := (hF 0 (by decide)).is rfl
 have e1 : vs 1 = .pointer (some ⟨nb, 0, none⟩) := (hF 1 (by decide)).is rfl
 have e2 : vs 2 = .pointer (some ⟨nb, 1, none⟩) := (hF 2 (by decide)).is rfl
 have e3 : vs 3 = .map (some bm) := (hF 3 (by decide)).is rfl
 have e4 : vs 4 = k.v := (hF 4 (by decide)).is rfl
 have e5 : vs 5 = .tuple #[.agg ee.cells, .bool bs] := (hF 5 (by decide)).is rfl
 have e6 : vs 6 = .tuple #[.agg ee.cells, .bool bs] := (hF 6 (by decide)).is rfl
 have e7 : vs 7 = .agg ee.cells := (hF 7 (by decide)).is rfl
 have e8 : vs 8 = .bool bs := (hF 8 (by decide)).is rfl
 obtain ⟨b9, e9, hb9⟩ := (hF 9 (by decide)).newB rfl
 have e10 : vs 10 = undef := (hF 10 (by decide)).is rfl
 have e11 : vs 11 = .bool bs := (hF 11 (by decide)).is rfl
 obtain ⟨bb10, f10, st10⟩ := (hF 10 (by decide)).storedN (k := 9) (row := ee.cells) (T := 44) (by simp)
 obtain rfl : b9 = bb10 := by rw [e9] at f10; simpa using f10
 clear f10
 have hch := hI.1
 clear hF
 simp only [putsO, List.range, List.range.loop, List.foldr, if_true, List.getD_cons_zero, List.getD_cons_succ, e0, e1, e2, e3, e4, e5, e6, e7, e8, e9, e11, Act.put, List.setIfInBounds_toArray, List.set_cons_zero, List.set_cons_succ]
 clear e0 e1 e2 e3 e4 e5 e6 e7 e8 e9 e10 e11
 have hbu2 := hI.below' nL rfl
 have HB : Hid (Below w.heap.size w u2) := HB1.out.trans (hbu2.mono HB1.out.size)
 have R1 : Hid (u2.heap[w.heap.size + 1]? = some (.cells #[.int .u8 0, .int .u8 0, .int .u8 0, .int .u8 0, .int .u8 0, .int .u8 0, .int .u32 0] 44)) := below_keeps hbu2 R10.out (by have := HS1.out; omega)
 have R2 : Hid (u2.heap[b9]? = some (.cells #[.int .u8 (ee.mac.b0 : Int), .int .u8 (ee.mac.b1 : Int), .int .u8 (ee.mac.b2 : Int), .int .u8 (ee.mac.b3 : Int), .int .u8 (ee.mac.b4 : Int), .int .u8 (ee.mac.b5 : Int), .int .u32 (ee.dest : Int)] 44)) := st10
 have HBB : Hid (w.heap.size + 2 <= b9) := by have := HS1.out; unfold Hid; omega
 clear hI hch hbu2 st10 hb9
 have x0 : u2.cell? ⟨b9, 0, none⟩ = some (.int .u8 (ee.mac.b0 : Int)) := crw R2.out rfl
 have x1 : u2.cell? ⟨b9, 1, none⟩ = some (.int .u8 (ee.mac.b1 : Int)) := crw R2.out rfl
 have x2 : u2.cell? ⟨b9, 2, none⟩ = some (.int .u8 (ee.mac.b2 : Int)) := crw R2.out rfl
 have x3 : u2.cell? ⟨b9, 3, none⟩ = some (.int .u8 (ee.mac.b3 : Int)) := crw R2.out rfl
 have x4 : u2.cell? ⟨b9, 4, none⟩ = some (.int .u8 (ee.mac.b4 : Int)) := crw R2.out rfl
 have x5 : u2.cell? ⟨b9, 5, none⟩ = some (.int .u8 (ee.mac.b5 : Int)) := crw R2.out rfl
 have x6 : u2.cell? ⟨b9, 6, none⟩ = some (.int .u32 (ee.dest : Int)) := crw R2.out rfl
 have y0 : u2.cell? ⟨w.heap.size + 1, 0, none⟩ = some (.int .u8 0) := crw R1.out rfl
 have z0 : u2.frozen? ⟨w.heap.size + 1, 0, none⟩ = false := frozen_of_row _ _ _ _ _ R1.out
 have y1 : u2.cell? ⟨w.heap.size + 1, 1, none⟩ = some (.int .u8 0) := crw R1.out rfl
 have z1 : u2.frozen? ⟨w.heap.size + 1, 1, none⟩ = false := frozen_of_row _ _ _ _ _ R1.out
 have y2 : u2.cell? ⟨w.heap.size + 1, 2, none⟩ = some (.int .u8 0) := crw R1.out rfl
 have z2 : u2.frozen? ⟨w.heap.size + 1, 2, none⟩ = false := frozen_of_row _ _ _ _ _ R1.out
 have y3 : u2.cell? ⟨w.heap.size + 1, 3, none⟩ = some (.int .u8 0) := crw R1.out rfl
 have z3 : u2.frozen? ⟨w.heap.size + 1, 3, none⟩ = false := frozen_of_row _ _ _ _ _ R1.out
 have y4 : u2.cell? ⟨w.heap.size + 1, 4, none⟩ = some (.int .u8 0) := crw R1.out rfl
 have z4 : u2.frozen? ⟨w.heap.size + 1, 4, none⟩ = false := frozen_of_row _ _ _ _ _ R1.out
 have y5 : u2.cell? ⟨w.heap.size + 1, 5, none⟩ = some (.int .u8 0) := crw R1.out rfl
 have z5 : u2.frozen? ⟨w.heap.size + 1, 5, none⟩ = false := frozen_of_row _ _ _ _ _ R1.out
 have y6 : u2.cell? ⟨w.heap.size + 1, 6, none⟩ = some (.int .u32 0) := crw R1.out rfl
 have z6 : u2.frozen? ⟨w.heap.size + 1, 6, none⟩ = false := frozen_of_row _ _ _ _ _ R1.out
 obtain ⟨wf, hwf⟩ : ∃ wf, wf = (((((((u2.setCell ⟨w.heap.size + 1, 0, none⟩ (.int .u8 (ee.mac.b0 : Int))).setCell ⟨w.heap.size + 1, 1, none⟩ (.int .u8 (ee.mac.b1 : Int))).setCell ⟨w.heap.size + 1, 2, none⟩ (.int .u8 (ee.mac.b2 : Int))).setCell ⟨w.heap.size + 1, 3, none⟩ (.int .u8 (ee.mac.b3 : Int))).setCell ⟨w.heap.size + 1, 4, none⟩ (.int .u8 (ee.mac.b4 : Int))).setCell ⟨w.heap.size + 1, 5, none⟩ (.int .u8 (ee.mac.b5 : Int))).setCell ⟨w.heap.size + 1, 6, none⟩ (.int .u32 (ee.dest : Int))) := ⟨_, rfl⟩
 have cf : Chg (fun b => b = w.heap.size + 1) u2 wf := by rw [hwf]; exact (((((((Chg.of_but (X := fun b => b = w.heap.size + 1) (But.set _ 0 _ _) rfl).trans (Chg.of_but (X := fun b => b = w.heap.size + 1) (But.set _ 1 _ _) rfl)).trans (Chg.of_but (X := fun b => b = w.heap.size + 1) (But.set _ 2 _ _) rfl)).trans (Chg.of_but (X := fun b => b = w.heap.size + 1) (But.set _ 3 _ _) rfl)).trans (Chg.of_but (X := fun b => b = w.heap.size + 1) (But.set _ 4 _ _) rfl)).trans (Chg.of_but (X := fun b => b = w.heap.size + 1) (But.set _ 5 _ _) rfl)).trans (Chg.of_but (X := fun b => b = w.heap.size + 1) (But.set _ 6 _ _) rfl))
 have rf : wf.heap[w.heap.size + 1]? = some (.cells #[.int .u8 (ee.mac.b0 : Int), .int .u8 (ee.mac.b1 : Int), .int .u8 (ee.mac.b2 : Int), .int .u8 (ee.mac.b3 : Int), .int .u8 (ee.mac.b4 : Int), .int .u8 (ee.mac.b5 : Int), .int .u32 (ee.dest : Int)] 44) := by rw [hwf]; exact (set_row (set_row (set_row (set_row (set_row (set_row (set_row R1.out)))))))
 have HWF := hid hwf
 have HFF : Hid (Below w.heap.size w wf /\ wf.heap[w.heap.size + 1]? = some (.cells #[.int .u8 (ee.mac.b0 : Int), .int .u8 (ee.mac.b1 : Int), .int .u8 (ee.mac.b2 : Int), .int .u8 (ee.mac.b3 : Int), .int .u8 (ee.mac.b4 : Int), .int .u8 (ee.mac.b5 : Int), .int .u32 (ee.dest : Int)] 44)) := ⟨cf.below' HB.out HB.out.size (fun j hj => by omega), rf⟩
 clear hwf cf rf
 go_wp2_with fail
 rw [<- HWF.out]
 obtain ⟨hbf, rf⟩ := HFF.out
 have u0 : wf.cell? ⟨w.heap.size + 1, 0, none⟩ = some (.int .u8 (ee.mac.b0 : Int)) := crw rf rfl
 have u1 : wf.cell? ⟨w.heap.size + 1, 1, none⟩ = some (.int .u8 (ee.mac.b1 : Int)) := crw rf rfl
 have u2 : wf.cell? ⟨w.heap.size + 1, 2, none⟩ = some (.int .u8 (ee.mac.b2 : Int)) := crw rf rfl
 have u3 : wf.cell? ⟨w.heap.size + 1, 3, none⟩ = some (.int .u8 (ee.mac.b3 : Int)) := crw rf rfl
 have u4 : wf.cell? ⟨w.heap.size + 1, 4, none⟩ = some (.int .u8 (ee.mac.b4 : Int)) := crw rf rfl
 have u5 : wf.cell? ⟨w.heap.size + 1, 5, none⟩ = some (.int .u8 (ee.mac.b5 : Int)) := crw rf rfl
 have u6 : wf.cell? ⟨w.heap.size + 1, 6, none⟩ = some (.int .u32 (ee.dest : Int)) := crw rf rfl
 refine bodyPost_ret (v := .tuple #[.agg ee.cells, .bool bs]) (by simp [results, Tryz.results26, go_sem, u0, u1, u2, u3, u4, u5, u6, Fd.cells]) rfl ⟨rfl, hbf⟩
theorem emptyF_any {nb bm room : Nat} {L : List Fd} (w : World) (h : BdF w nb bm room L) :
  Calls Tryz.prog 29 #[.pointer (some ⟨nb, 0, none⟩)] w fun e w' => e = .returned (.tuple #[]) /\ BdF w' nb bm room [] /\ Chg (fun b => b = bm) w w' := by
 obtain ⟨-, c1, -, -⟩ := h.cells
 obtain ⟨w', hr, hm', hch⟩ := h.map.clear 0
 have hcl : ∀ ty, (Builtin.clear_ #[126] ty #[.map (some bm)]).run Tryz.prog w = .ok (.tuple #[]) w' := fun ty => hr
 have HFIN : Hid (BdF w' nb bm room [] /\ Chg (fun b => b = bm) w w') := ⟨⟨(hch.block nb h.lt.1 h.ne).trans h.row, hm', List.nodup_nil, ⟨Nat.zero_le _, h.le.2⟩, h.ne⟩, hch⟩
 clear hr hm' hch h
 go_enter Tryz.func29, Tryz.ntmps29
 go_wp2_with fail
 exact bodyPost_end (results_none Tryz.results29 _ _ _) rfl ⟨rfl, HFIN.out⟩
theorem newF_any (w : World) (room : Nat) (hr : 1 <= room /\ room <= 256) :
  Calls Tryz.prog 17 #[.int .i64 (room : Int)] w fun e w' => ∃ nb bm, e = .returned (.pointer (some ⟨nb, 0, none⟩)) /\ w.heap.size <= nb /\ w.heap.size <= bm /\ BdF w' nb bm room [] /\ Below w.heap.size w w' := by
 obtain ⟨w1, hw1⟩ : ∃ w1, w1 = w.alloc (.map #[] 0) := ⟨_, rfl⟩
 obtain ⟨bm, HBM⟩ : ∃ bm, Hid (bm = w.heap.size) := ⟨_, rfl⟩
 obtain ⟨w2, hw2⟩ : ∃ w2, w2 = w1.alloc (.cells #[.int .i64 (room : Int), .map (some w.heap.size), .func (.func 39) #[] #[], .func (.func 40) #[] #[]] 128) := ⟨_, rfl⟩
 have hs1 : w1.heap.size = w.heap.size + 1 := by rw [hw1]; simp
 have hb1 : Below w.heap.size w w1 := by rw [hw1]; exact bR.alloc nL _
 have hb2 : Below w1.heap.size w1 w2 := by rw [hw2]; exact bR.alloc nL _
 have hm1 : MapG gF w1 w.heap.size (fun _ => none) 0 := by rw [hw1]; exact MapG.made _ w
 have HW2 : Hid (w2 = (w.alloc (.map #[] 0)).alloc (.cells #[.int .i64 (room : Int), .map (some w.heap.size), .func (.func 39) #[] #[], .func (.func 40) #[] #[]] 128)) := by unfold Hid; rw [hw2, hw1]
 have HFIN : Hid (BdF w2 w1.heap.size w.heap.size room [] /\ Below w.heap.size w w2) :=
  ⟨⟨by rw [hw2]; exact heap_alloc_new w1 _, hm1.kept (hb2.block _ (by omega)), List.nodup_nil, ⟨Nat.zero_le _, hr.2⟩, by omega⟩, hb1.trans (hb2.mono (by omega))⟩
 have HS1 := hid hs1
 have HC : Hid (Calls Tryz.prog 42 #[.int .i64 (room : Int), .func (.func 39) #[] #[], .func (.func 40) #[] #[]] w fun e w' => e = .returned (.pointer (some ⟨w1.heap.size, 0, none⟩)) /\ w' = w2) := by
  unfold Hid
  rw [HS1.out]
  have hmk : (Instr.makeMap 126 none).run Tryz.prog w = .ok (.map (some w.heap.size)) (w.alloc (.map #[] 0)) := run_makeMap _ w
  clear hw1 hw2 hs1 hb1 hb2 hm1 HFIN
  go_enter Tryz.func42, Tryz.ntmps42
  go_wp2_with fail
  rw [<- HW2.out]
  go_ret
  exact ⟨rfl, rfl⟩
 clear hw1 hw2 hs1 hb1 hb2 hm1
 go_enter Tryz.func17, Tryz.ntmps17
 go_wp2_with fail
 refine HC.out.mono ?_
 rintro _ _ ⟨rfl, ew⟩
 obtain rfl := ew.symm
 go_wp2_with fail
 go_ret
 exact ⟨_, _, rfl, by have := HS1.out; omega, nL, HFIN.out⟩
end Go.Proofs.YtpdnnikkaojnkaaGreat.Rt
