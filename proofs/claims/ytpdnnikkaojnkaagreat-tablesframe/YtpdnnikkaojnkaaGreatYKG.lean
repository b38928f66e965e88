import Derived.Test.YtpdnnikkaojnkaaGreatYKF
namespace Go.Proofs.YtpdnnikkaojnkaaGreat.Rt
open Go.Proofs.YtpdnnikkaojnkaaGreat Go.ChangeShapes Go.WideShapes Go.ChangeAt Go.RowKit Go.Maps Tri N
set_option maxHeartbeats 4000000
set_option maxRecDepth 100000
theorem fld_rt {b : Nat} (u : World) : (Instr.fieldAt 96 (.pointer (some ⟨b, 0, none⟩)) 0).run Tryz.prog u = .ok (.pointer (some ⟨b, 0, none⟩)) u /\ (Instr.fieldAt 96 (.pointer (some ⟨b, 0, none⟩)) 1).run Tryz.prog u = .ok (.pointer (some ⟨b, 1, none⟩)) u := by
 refine ⟨?_, ?_⟩ <;> kernel_rfl
theorem fld_ro {b o : Nat} (u : World) : (Instr.fieldAt 38 (.pointer (some ⟨b, o, none⟩)) 0).run Tryz.prog u = .ok (.pointer (some ⟨b, o, none⟩)) u := by kernel_rfl
theorem RtAt.cells {w : World} {X : Nat -> Prop} {rb tb room : Nat} {R : List Vt} (h : RtAt w X rb tb room R) : w.cell? ⟨rb, 0, none⟩ = some (.int .i64 (room : Int)) /\ w.cell? ⟨rb, 1, none⟩ = some (.pointer (some ⟨tb, 0, none⟩)) := by
 refine ⟨?_, ?_⟩ <;> rw [cell_of_row _ _ _ _ _ _ h.row] <;> rfl
theorem countR_any {X : Nat -> Prop} {rb tb room : Nat} {R : List Vt} (w : World) (h : RtAt w X rb tb room R) : Calls Tryz.prog 163 #[.pointer (some ⟨rb, 0, none⟩)] w fun e w' => e = .returned (.int .i64 (R.length : Int)) /\ Below w.heap.size w w' := by
 obtain ⟨-, c1⟩ := h.cells
 obtain ⟨t, ht, hh⟩ := h.tree
 have HC := hid (len_any w ht)
 rw [hh.len ht.wf] at HC
 clear h ht hh
 go_enter Tryz.func163, Tryz.ntmps163
 go_wp2_with fail
 refine HC.out.mono ?_
 rintro _ w1 ⟨rfl, hb⟩
 have HB := hid hb
 clear hb
 go_wp2_with fail
 go_ret
 exact ⟨rfl, HB.out⟩
theorem admitR_any {X : Nat -> Prop} {rb tb room : Nat} {R : List Vt} (w : World) (b : Bool) (h : RtAt w X rb tb room R) : Calls Tryz.prog 147 #[.iface 64 (.pointer (some ⟨rb, 0, none⟩)), .int .i64 (room : Int), .bool b] w fun e w' => e = .returned (.int .i64 (if b then 0 else if room <= R.length then 4 else 0)) /\ Below w.heap.size w w' := by
 have HC := hid (countR_any w h)
 have hm : ∀ u : World, (method 334 64 (.pointer (some ⟨rb, 0, none⟩)) "weft/tables.count").run Tryz.prog u = .ok (163, .pointer (some ⟨rb, 0, none⟩)) u := fun u => by kernel_rfl
 obtain ⟨n, hn⟩ : ∃ n, n = R.length := ⟨_, rfl⟩
 rw [<- hn] at HC ⊢
 clear h hn
 cases b
 ·by_cases hl : room <= n
  ·have HE : Hid ((if false = true then (0 : Int) else if room <= n then 4 else 0) = 4) := by unfold Hid; simp [hl]
   have q1 : (room : Int) <= (n : Int) := by omega
   rw [HE.out]
   clear HE
   go_enter Tryz.func147, Tryz.ntmps147
   go_wp2_with fail
   refine HC.out.mono ?_
   rintro _ w1 ⟨rfl, hb⟩
   have HB := hid hb
   clear hb
   go_wp2_with fail
   go_ret
   exact ⟨rfl, HB.out⟩
  ·have HE : Hid ((if false = true then (0 : Int) else if room <= n then 4 else 0) = 0) := by unfold Hid; simp [hl]
   have q1 : ¬ (room : Int) <= (n : Int) := by omega
   rw [HE.out]
   clear HE
   go_enter Tryz.func147, Tryz.ntmps147
   go_wp2_with fail
   refine HC.out.mono ?_
   rintro _ w1 ⟨rfl, hb⟩
   have HB := hid hb
   clear hb
   go_wp2_with fail
   go_ret
   exact ⟨rfl, HB.out⟩
 ·go_enter Tryz.func147, Tryz.ntmps147
  go_wp2_with fail
  go_ret
  exact ⟨rfl, bR⟩
theorem valid_any (x : Nat) (y : Int) (w : World) (hx : x < 4294967296) : Calls Tryz.prog 83 #[.agg #[.int .u32 (x : Int), .int .i64 y]] w fun e w' => e = .returned (.bool (valB x y)) /\ Below w.heap.size w w' := by
 rcases bad_or (y := y) hx with hb | ⟨k, hk, rfl, rfl⟩
 ·rw [valB_bad hb]; exact valid_bad w hx hb
 ·rw [valB_ok hk]; exact valid_ok w hk
theorem deleteR_any {X : Nat -> Prop} {rb tb room : Nat} {R : List Vt} (w : World) (o : Opv) (h : RtAt w X rb tb room R) (ho : o.Ok) :
  Calls Tryz.prog 143 #[.pointer (some ⟨rb, 0, none⟩), .agg o.cells] w fun e w' => e = .returned (.int .i64 (if valB o.r.x o.r.n then 0 else 93)) /\ RtAt w' X rb tb room (if valB o.r.x o.r.n then delK Tri.Vt.key R o.r.key else R) /\ Chg (fun b => b = tb) w w' := by
 obtain ⟨w1, hw1⟩ : ∃ w1, w1 = w.alloc (.cells o.cells 46) := ⟨_, rfl⟩
 have hs1 : w1.heap.size = w.heap.size + 1 := by rw [hw1]; simp
 have hb1 : Below w.heap.size w w1 := by rw [hw1]; exact bR.alloc nL _
 have hop : OpB w1 w.heap.size o := by unfold OpB; rw [hw1]; exact heap_alloc_new w _
 have h1 := h.below hb1
 obtain ⟨p0, p1, -, -⟩ := hop.pre
 have HV := hid (valid_any o.r.x o.r.n w1 ho.rx)
 have HW1 := hid hw1
 have HOP := hid hop
 have HB1 := hid hb1
 have HS1 := hid hs1
 have HR1 := hid h1
 cases hv : valB o.r.x o.r.n with
 | false =>
  simp only [Bool.false_eq_true, if_false]
  rw [hv] at HV
  clear hw1 hop hb1 h1 hs1 h hv ho
  go_enter Tryz.func143, Tryz.ntmps143
  go_upto_region 1 with fail
  rw [<- HW1.out]
  go_wp2_with fail
  refine HV.out.mono ?_
  rintro _ w2 ⟨rfl, hb2⟩
  have HB2 := hid hb2
  clear hb2 p0 p1
  go_wp2_with fail
  go_ret
  exact ⟨rfl, HR1.out.below HB2.out, Chg.of_below (HB1.out.trans (HB2.out.mono HB1.out.size))⟩
 | true =>
  simp only [if_true]
  rw [hv] at HV
  have HOK : Hid (o.r.Ok) := ⟨hv, ho.rx, ho.rv⟩
  clear hw1 hop hb1 h1 hs1 h hv ho
  go_enter Tryz.func143, Tryz.ntmps143
  go_upto_region 1 with fail
  rw [<- HW1.out]
  go_wp2_with fail
  refine HV.out.mono ?_
  rintro _ w2 ⟨rfl, hb2⟩
  have HR2 := hid (HR1.out.below hb2)
  have HOP2 : Hid (OpB w2 w.heap.size o) := HOP.out.below hb2
  have HB2 : Hid (Below w.heap.size w w2) := HB1.out.trans (hb2.mono HB1.out.size)
  clear hb2 p0 p1
  go_upto_region 3 with fail
  refine wp_region_mono' 7 (fun i => ([10, 11, 12, 13, 14, 15, 16] : List Tmp).getD i 0) (FA [.inl (.pointer (some ⟨rb, 0, none⟩)), .inl (.pointer (some ⟨rb, 0, none⟩)), .inl (.pointer (some ⟨rb, 1, none⟩)), .inl (.pointer (some ⟨tb, 0, none⟩)), .inl (.pointer (some ⟨w.heap.size, 1, none⟩)), .inl (.pointer (some ⟨w.heap.size, 1, none⟩)), .inl (.agg #[.int .u32 (o.r.x : Int), .int .i64 o.r.n])] 0) (by kernel_rfl) (by kernel_rfl) (FA.keeps _ _) ?_ ?_
  ·simp only [List.take_succ_cons, List.take_zero, stepsOk]
   refine ⟨?_, ?_, ?_, ?_, ?_, ?_, ?_, trivial⟩
   ·intro a u vs hb hold hdep
    exact fa_still (ex_move (.tmp 0) _ rfl (hold 0 (dlM (L := [10, 11, 12, 13, 14, 15, 16]) (by decide)))) rfl rfl hb
   ·intro a u vs hb hold hdep
    exact fa_still (ex_nil ⟨rb, 0, none⟩ (.tmp 10) rfl (FA.dep (hdep ⟨0, .data⟩ (by simp) rfl (by decide)) rfl)) rfl rfl hb
   ·intro a u vs hb hold hdep
    exact fa_still (ex_field _ ⟨rb, 0, none⟩ (.tmp 11) 1 _ rfl (FA.dep (hdep ⟨1, .data⟩ (by simp) rfl (by decide)) rfl) ((fld_rt u).2)) rfl rfl hb
   ·intro a u vs hb hold hdep
    exact fa_still (ex_load _ ⟨rb, 1, none⟩ (.tmp 12) _ rfl (FA.dep (hdep ⟨2, .data⟩ (by simp) rfl (by decide)) rfl) (load_tp (by rw [cell_of_row _ _ _ _ _ _ (below_keeps hb HR2.out.row HR2.out.lt.1)]; rfl))) rfl rfl hb
   ·intro a u vs hb hold hdep
    exact fa_still (ex_field _ ⟨w.heap.size, 0, none⟩ (.tmp 3) 1 _ rfl (hold 3 (dlM (L := [10, 11, 12, 13, 14, 15, 16]) (by decide))) ((fld_op u).2.1)) rfl rfl hb
   ·intro a u vs hb hold hdep
    exact fa_still (ex_field _ ⟨w.heap.size, 1, none⟩ (.tmp 14) 0 _ rfl (FA.dep (hdep ⟨4, .data⟩ (by simp) rfl (by decide)) rfl) (fld_ro u)) rfl rfl hb
   ·intro a u vs hb hold hdep
    exact fa_still (ex_load _ ⟨w.heap.size, 1, none⟩ (.tmp 15) _ rfl (FA.dep (hdep ⟨5, .data⟩ (by simp) rfl (by decide)) rfl) (load_pre (OpB.pre (HOP2.out.below hb)).1 (OpB.pre (HOP2.out.below hb)).2.1)) rfl rfl hb
  intro vs u hb hF
  have e0 : vs 0 = .pointer (some ⟨rb, 0, none⟩) := (hF 0 (by decide)).is rfl
  have e1 : vs 1 = .pointer (some ⟨rb, 0, none⟩) := (hF 1 (by decide)).is rfl
  have e2 : vs 2 = .pointer (some ⟨rb, 1, none⟩) := (hF 2 (by decide)).is rfl
  have e3 : vs 3 = .pointer (some ⟨tb, 0, none⟩) := (hF 3 (by decide)).is rfl
  have e4 : vs 4 = .pointer (some ⟨w.heap.size, 1, none⟩) := (hF 4 (by decide)).is rfl
  have e5 : vs 5 = .pointer (some ⟨w.heap.size, 1, none⟩) := (hF 5 (by decide)).is rfl
  have e6 : vs 6 = .agg #[.int .u32 (o.r.x : Int), .int .i64 o.r.n] := (hF 6 (by decide)).is rfl
  clear hF
  simp only [List.drop_succ_cons, List.drop_zero, puts, List.range, List.range.loop, List.foldr, if_true, List.getD_cons_zero, List.getD_cons_succ, e0, e1, e2, e3, e4, e5, e6, Act.put, List.setIfInBounds_toArray, List.set_cons_zero, List.set_cons_succ]
  clear e0 e1 e2 e3 e4 e5 e6
  obtain ⟨t, ht, hh⟩ := (HR2.out.below hb).tree
  obtain ⟨hk, hkn⟩ := Vt_k_ok HOK.out
  have HDL := hid (del_any o.r.k u ht hk)
  unfold pv at HDL
  rw [show (o.r.k.x : Int) = (o.r.x : Int) from rfl, <- hkn] at HDL
  have HH := hid (And.intro hh (And.intro ht.wf hk))
  have HRU := hid (HR2.out.below hb)
  have HBU : Hid (Below w.heap.size w u) := HB2.out.trans (hb.mono HB2.out.size)
  clear ht hh hk hkn hb
  go_wp2_with fail
  refine HDL.out.mono ?_
  rintro _ u2 ⟨rfl, ht2, hch⟩
  have HFIN : Hid (RtAt u2 X rb tb room (delK Tri.Vt.key R o.r.key) /\ Chg (fun b => b = tb) w u2) :=
   ⟨⟨(hch.block _ HRU.out.lt.1 HRU.out.ne).trans HRU.out.row, ⟨_, ht2, HH.out.1.del HH.out.2.1 HOK.out⟩, ⟨Nat.le_trans (len_del_le _) HRU.out.le.1, HRU.out.le.2⟩, HRU.out.xr, HRU.out.ne⟩, (Chg.of_below HBU.out).trans hch⟩
  clear ht2 hch
  go_wp2_with fail
  go_ret
  exact ⟨rfl, HFIN.out⟩
def rE (R : List Vt) (room : Nat) (r : Vt) : Int := if !valB r.x r.n || (r.loc && r.via != 0) then 93 else if (lk Tri.Vt.key R r.key).isSome then 0 else if room <= R.length then 4 else 0
def PtR (x : Int) (w' : World) (X : Nat -> Prop) (rb tb room : Nat) (R R' : List Vt) : Prop := (x = 0 -> RtAt w' X rb tb room R') /\ (x ≠ 0 -> RtAt w' X rb tb room R)
theorem ptr_bad {x : Int} {w' : World} {X : Nat -> Prop} {rb tb room : Nat} {R R' : List Vt} (hx : x ≠ 0) (h : RtAt w' X rb tb room R) : PtR x w' X rb tb room R R' := ⟨fun e => absurd e hx, fun _ => h⟩
theorem putR_any {X : Nat -> Prop} {rb tb room : Nat} {R : List Vt} (w : World) (o : Opv) (h : RtAt w X rb tb room R) (ho : o.Ok) :
  Calls Tryz.prog 144 #[.pointer (some ⟨rb, 0, none⟩), .agg o.cells] w fun e w' => e = .returned (.int .i64 (rE R room o.r)) /\ PtR (rE R room o.r) w' X rb tb room R (putK Tri.Vt.key R o.r) /\ Chg (fun b => b = tb) w w' := by
 obtain ⟨x, HX⟩ : ∃ x, Hid (x = rE R room o.r) := ⟨_, rfl⟩
 rw [<- HX.out]
 obtain ⟨w1, hw1⟩ : ∃ w1, w1 = (w.alloc (.cells o.cells 46)).alloc (.cells #[.int .u32 (o.r.x : Int), .int .i64 o.r.n, .int .u32 (o.r.via : Int), .bool o.r.loc] 38) := ⟨_, rfl⟩
 have hs1 : w1.heap.size = w.heap.size + 2 := by rw [hw1]; simp
 have hb1 : Below w.heap.size w w1 := by rw [hw1]; exact (bR.alloc nL _).alloc (by simp) _
 have hop : OpB (w.alloc (.cells o.cells 46)) w.heap.size o := heap_alloc_new w _
 have hrr : w1.heap[w.heap.size + 1]? = some (.cells #[.int .u32 (o.r.x : Int), .int .i64 o.r.n, .int .u32 (o.r.via : Int), .bool o.r.loc] 38) := by
  have := heap_alloc_new (w.alloc (.cells o.cells 46)) (.cells #[.int .u32 (o.r.x : Int), .int .i64 o.r.n, .int .u32 (o.r.via : Int), .bool o.r.loc] 38)
  rw [World.size_alloc] at this
  rw [hw1]; exact this
 have HLD := hid (OpB.rt hop)
 unfold Tri.Vt.cells at HLD
 have HW1 := hid hw1
 have HRR := hid hrr
 have HB1 := hid hb1
 have HS1 := hid hs1
 have HR1 := hid (h.below hb1)
 have HV := hid (valid_any o.r.x o.r.n w1 ho.rx)
 have x0 : w1.cell? ⟨w.heap.size + 1, 0, none⟩ = some (.int .u32 (o.r.x : Int)) := crw hrr rfl
 have x1 : w1.cell? ⟨w.heap.size + 1, 1, none⟩ = some (.int .i64 o.r.n) := crw hrr rfl
 have HXE : Hid (x = if !valB o.r.x o.r.n || (o.r.loc && o.r.via != 0) then 93 else if (lk Tri.Vt.key R o.r.key).isSome then 0 else if room <= R.length then 4 else 0) := HX.out
 have HRX := hid (And.intro ho.rx ho.rv)
 clear hw1 hs1 hb1 hop hrr h ho HX
 cases hv : valB o.r.x o.r.n with
 | false =>
  have HX93 : Hid (x = 93) := by have := HXE.out; rw [hv] at this; unfold Hid; simpa using this
  rw [HX93.out]
  rw [hv] at HV
  clear hv HXE
  go_enter Tryz.func144, Tryz.ntmps144
  go_upto_region 2 with (first | (refine wpList_ld 38 ⟨w.heap.size, 1, none⟩ (.tmp 10) rfl rfl HLD.out rfl ?_) | fail)
  rw [<- HW1.out]
  go_wp2_with fail
  refine HV.out.mono ?_
  rintro _ w2 ⟨rfl, hb2⟩
  have HB2 := hid hb2
  clear hb2 x0 x1
  go_wp2_with fail
  go_ret
  exact ⟨rfl, ptr_bad (by decide) (HR1.out.below HB2.out), Chg.of_below (HB1.out.trans (HB2.out.mono HB1.out.size))⟩
 | true =>
  rw [hv] at HV
  have HOK : Hid (o.r.Ok) := ⟨hv, HRX.out.1, HRX.out.2⟩
  cases hq : (o.r.loc && o.r.via != 0) with
  | true =>
   have HX93 : Hid (x = 93) := by have := HXE.out; rw [hv, hq] at this; unfold Hid; simpa using this
   rw [HX93.out]
   have hq2 : o.r.loc = true /\ (o.r.via : Int) ≠ 0 := by
    rw [Bool.and_eq_true] at hq
    exact ⟨hq.1, by have := hq.2; simp at this; omega⟩
   have q3 : ((o.r.via : Int) != 0) = true := by simp; have := hq2.2; omega
   have HLOC := hid hq2.1
   clear hv hq hq2 HXE
   go_enter Tryz.func144, Tryz.ntmps144
   go_upto_region 2 with (first | (refine wpList_ld 38 ⟨w.heap.size, 1, none⟩ (.tmp 10) rfl rfl HLD.out rfl ?_) | fail)
   rw [<- HW1.out]
   go_wp2_with fail
   refine HV.out.mono ?_
   rintro _ w2 ⟨rfl, hb2⟩
   have k2 := below_keeps hb2 HRR.out (by have := HS1.out; omega)
   have y2 : w2.cell? ⟨w.heap.size + 1, 2, none⟩ = some (.int .u32 (o.r.via : Int)) := crw k2 rfl
   have y3 : w2.cell? ⟨w.heap.size + 1, 3, none⟩ = some (.bool true) := by rw [cell_of_row _ _ _ _ _ _ k2, <- HLOC.out]; rfl
   have HB2 := hid hb2
   clear hb2 x0 x1 k2
   go_wp2_with fail
   go_ret
   exact ⟨rfl, ptr_bad (by decide) (HR1.out.below HB2.out), Chg.of_below (HB1.out.trans (HB2.out.mono HB1.out.size))⟩
  | false =>
   have HXX : Hid (x = if (lk Tri.Vt.key R o.r.key).isSome then 0 else if room <= R.length then 4 else 0) := by have := HXE.out; rw [hv, hq] at this; unfold Hid; simpa using this
   clear hv HXE
   cases hloc : o.r.loc with
   | false =>
    have HLOC := hid hloc
    clear hq hloc
    go_enter Tryz.func144, Tryz.ntmps144
    go_upto_region 2 with (first | (refine wpList_ld 38 ⟨w.heap.size, 1, none⟩ (.tmp 10) rfl rfl HLD.out rfl ?_) | fail)
    rw [<- HW1.out]
    go_upto_region 2 with fail
    go_wp2_with fail
    refine HV.out.mono ?_
    rintro _ w2 ⟨rfl, hb2⟩
    have k2 := below_keeps hb2 HRR.out (by have := HS1.out; omega)
    have y2 : w2.cell? ⟨w.heap.size + 1, 2, none⟩ = some (.int .u32 (o.r.via : Int)) := crw k2 rfl
    have y3 : w2.cell? ⟨w.heap.size + 1, 3, none⟩ = some (.bool false) := by rw [cell_of_row _ _ _ _ _ _ k2, <- HLOC.out]; rfl
    have HB2 : Hid (Below w.heap.size w w2) := HB1.out.trans (hb2.mono HB1.out.size)
    have HR2 := hid (HR1.out.below hb2)
    have HRR2 := hid k2
    have HS2 : Hid (w.heap.size + 2 <= w2.heap.size) := by have := HS1.out; have := hb2.size; unfold Hid; omega
    obtain ⟨gv, HGV⟩ : ∃ gv, Hid (gv = (lk Tri.Vt.key R o.r.key).getD ⟨0, 0, 0, false⟩) := ⟨_, rfl⟩
    obtain ⟨ge, HGE⟩ : ∃ ge : Int, Hid (ge = if (lk Tri.Vt.key R o.r.key).isSome then 0 else 3) := ⟨_, rfl⟩
    have HGT : Hid (∀ u, Below w2.heap.size w2 u -> Calls Tryz.prog 146 #[.pointer (some ⟨tb, 0, none⟩), .agg #[.int .u32 (o.r.x : Int), .int .i64 o.r.n]] u fun e w' => e = .returned (.tuple #[.agg gv.cells, .int .i64 ge]) /\ Below u.heap.size u w') := fun u hu => by
     obtain ⟨t, ht, hh⟩ := (HR2.out.below hu).tree
     obtain ⟨hk, hkn⟩ := Vt_k_ok HOK.out
     have := get_any o.r.k u ht hk
     rw [hh.look ht.wf HOK.out] at this
     unfold pv at this
     rw [show (o.r.k.x : Int) = (o.r.x : Int) from rfl, <- hkn] at this
     rw [HGV.out, HGE.out]
     cases hl : lk Tri.Vt.key R o.r.key with
     | none => rw [hl] at this; exact this
     | some v => rw [hl] at this; exact this
    have HI4 : Hid (IT w2 w2.heap.size [⟨11, false, 10, gv.cells, 38⟩] w2) := ⟨Chg.refl _ _, fun q hq e => by simp at hq; subst hq; cases e⟩
    clear hb2 x0 x1 k2
    go_upto_region 4 with fail
    refine wp_region_all' 13 (fun i => ([some 26, some 27, some 28, some 29, some 30, some 31, some 32, some 25, some 33, some 34, some 6, none, some 7] : List (Option Tmp)).getD i none) (FT [.inl (.pointer (some ⟨rb, 0, none⟩)), .inl (.pointer (some ⟨rb, 0, none⟩)), .inl (.pointer (some ⟨rb, 1, none⟩)), .inl (.pointer (some ⟨tb, 0, none⟩)), .inl (.pointer (some ⟨w.heap.size + 1, 0, none⟩)), .inl (.agg #[.int .u32 (o.r.x : Int), .int .i64 o.r.n]), .inl (.tuple #[.agg gv.cells, .int .i64 ge]), .inl (.tuple #[.agg gv.cells, .int .i64 ge]), .inl (.agg gv.cells), .inl (.int .i64 ge), .inr (#[.int .u32 0, .int .i64 0, .int .u32 0, .bool false], 38), .inl (undef), .inl (.int .i64 ge)] (w2.heap.size) [⟨11, false, 10, gv.cells, 38⟩]) (IT w2 (w2.heap.size) [⟨11, false, 10, gv.cells, 38⟩]) (RT [⟨11, false, 10, gv.cells, 38⟩]) (by kernel_rfl) (by kernel_rfl) (it_start (HI4.out.2)) (FT.keeps _ _ _ _ _ (by kernel_rfl)) ?_ ?_
    ·simp only [N.stepsAll]
     refine ⟨?_, ?_, ?_, ?_, ?_, ?_, ?_, ?_, ?_, ?_, ?_, ?_, ?_, trivial⟩
     ·intro a u vs hI hold hdep
      exact ft_still (ex_move (.tmp 0) _ rfl (hold 0 (dl_of (L := [some 26, some 27, some 28, some 29, some 30, some 31, some 32, some 25, some 33, some 34, some 6, none, some 7]) (by decide)))) rfl rfl rfl hI
     ·intro a u vs hI hold hdep
      have d0 := hdep ⟨0, .data⟩ (by simp) rfl
      exact ft_still (ex_nil ⟨rb, 0, none⟩ (.tmp 26) rfl (ft_dep d0.1 (d0.2 26 rfl) rfl)) rfl rfl rfl hI
     ·intro a u vs hI hold hdep
      have d1 := hdep ⟨1, .data⟩ (by simp) rfl
      exact ft_still (ex_field _ ⟨rb, 0, none⟩ (.tmp 27) 1 _ rfl (ft_dep d1.1 (d1.2 27 rfl) rfl) ((fld_rt u).2)) rfl rfl rfl hI
     ·intro a u vs hI hold hdep
      have d2 := hdep ⟨2, .data⟩ (by simp) rfl
      exact ft_still (ex_load _ ⟨rb, 1, none⟩ (.tmp 28) _ rfl (ft_dep d2.1 (d2.2 28 rfl) rfl) (load_tp (by rw [cell_of_row _ _ _ _ _ _ ((hI.same HR2.out.lt.1 HR2.out.lt.1 rfl).trans HR2.out.row)]; rfl))) rfl rfl rfl hI
     ·intro a u vs hI hold hdep
      exact ft_still (ex_field _ ⟨w.heap.size + 1, 0, none⟩ (.tmp 5) 0 _ rfl (hold 5 (dl_of (L := [some 26, some 27, some 28, some 29, some 30, some 31, some 32, some 25, some 33, some 34, some 6, none, some 7]) (by decide))) (fld_ro u)) rfl rfl rfl hI
     ·intro a u vs hI hold hdep
      have d4 := hdep ⟨4, .data⟩ (by simp) rfl
      exact ft_still (ex_load _ ⟨w.heap.size + 1, 0, none⟩ (.tmp 30) _ rfl (ft_dep d4.1 (d4.2 30 rfl) rfl) (load_pre (by rw [cell_of_row _ _ _ _ _ _ ((hI.same (by have := HS2.out; omega) (by have := HS2.out; omega) rfl).trans HRR2.out)]; rfl) (by rw [cell_of_row _ _ _ _ _ _ ((hI.same (by have := HS2.out; omega) (by have := HS2.out; omega) rfl).trans HRR2.out)]; rfl))) rfl rfl rfl hI
     ·intro a u vs hI hold hdep
      have d3 := hdep ⟨3, .data⟩ (by simp) rfl
      have d5 := hdep ⟨5, .data⟩ (by simp) rfl
      have e0 : a.eval (.tmp 29) = .pointer (some ⟨tb, 0, none⟩) := (ft_dep d3.1 (d3.2 29 rfl) rfl)
      have e1 : a.eval (.tmp 31) = .agg #[.int .u32 (o.r.x : Int), .int .i64 o.r.n] := (ft_dep d5.1 (d5.2 31 rfl) rfl)
      refine wp_call 146 _ _ rfl (enters_of Tryz.func146 (by kernel_rfl) rfl) #[.pointer (some ⟨tb, 0, none⟩), .agg #[.int .u32 (o.r.x : Int), .int .i64 o.r.n]] (by simp only [List.map_toArray, List.map_cons, List.map_nil, e0, e1]) ?_
      exact ft_ret rfl rfl rfl hI (HGT.out u (hI.below' nL rfl))
     ·intro a u vs hI hold hdep
      have d6 := hdep ⟨6, .data⟩ (by simp) rfl
      exact ft_still (ex_move (.tmp 32) _ rfl (ft_dep d6.1 (d6.2 32 rfl) rfl)) rfl rfl rfl hI
     ·intro a u vs hI hold hdep
      have d7 := hdep ⟨7, .data⟩ (by simp) rfl
      exact ft_still (ex_extract (.tmp 25) 0 _ _ rfl (ft_dep d7.1 (d7.2 25 rfl) rfl) rfl) rfl rfl rfl hI
     ·intro a u vs hI hold hdep
      have d7 := hdep ⟨7, .data⟩ (by simp) rfl
      exact ft_still (ex_extract (.tmp 25) 1 _ _ rfl (ft_dep d7.1 (d7.2 25 rfl) rfl) rfl) rfl rfl rfl hI
     ·intro a u vs hI hold hdep
      exact ft_alloc (ex_alloc u rfl (fun u => by kernel_rfl)) rfl rfl rfl hI nL
     ·intro a u vs hI hold hdep
      have d8 := hdep ⟨8, .data⟩ (by simp) rfl
      have dn := hdep ⟨10, .data⟩ (by simp) rfl
      obtain ⟨b, old, hx, hvk, hBg, hs, hg⟩ := ft_depN dn.1 (dn.2 6 rfl) rfl
      exact ft_new (k := 10) (row := gv.cells) (T := 38) rfl rfl (by decide) hx hvk hBg hs hg (ft_dep d8.1 (d8.2 33 rfl) rfl) (by simp) (fun q hq e => by simp only [List.mem_cons, List.not_mem_nil, or_false] at hq; rcases hq with rfl <;> first | rfl | (exact absurd e (by simp))) (by kernel_rfl) (one_cells gv) rfl (by kernel_rfl) hI
     ·intro a u vs hI hold hdep
      have d9 := hdep ⟨9, .data⟩ (by simp) rfl
      exact ft_still (ex_assign (.tmp 34) _ rfl (ft_dep d9.1 (d9.2 34 rfl) rfl)) rfl rfl rfl hI
    intro vs u hI hF
    have e0 : vs 0 = .pointer (some ⟨rb, 0, none⟩) := (hF 0 (by decide)).is rfl
    have e1 : vs 1 = .pointer (some ⟨rb, 0, none⟩) := (hF 1 (by decide)).is rfl
    have e2 : vs 2 = .pointer (some ⟨rb, 1, none⟩) := (hF 2 (by decide)).is rfl
    have e3 : vs 3 = .pointer (some ⟨tb, 0, none⟩) := (hF 3 (by decide)).is rfl
    have e4 : vs 4 = .pointer (some ⟨w.heap.size + 1, 0, none⟩) := (hF 4 (by decide)).is rfl
    have e5 : vs 5 = .agg #[.int .u32 (o.r.x : Int), .int .i64 o.r.n] := (hF 5 (by decide)).is rfl
    have e6 : vs 6 = .tuple #[.agg gv.cells, .int .i64 ge] := (hF 6 (by decide)).is rfl
    have e7 : vs 7 = .tuple #[.agg gv.cells, .int .i64 ge] := (hF 7 (by decide)).is rfl
    have e8 : vs 8 = .agg gv.cells := (hF 8 (by decide)).is rfl
    have e9 : vs 9 = .int .i64 ge := (hF 9 (by decide)).is rfl
    obtain ⟨b10, e10, hb10⟩ := (hF 10 (by decide)).newB rfl
    have e11 : vs 11 = undef := (hF 11 (by decide)).is rfl
    have e12 : vs 12 = .int .i64 ge := (hF 12 (by decide)).is rfl
    obtain ⟨bb11, f11, st11⟩ := (hF 11 (by decide)).storedN (k := 10) (row := gv.cells) (T := 38) (by simp)
    obtain rfl : b10 = bb11 := by rw [e10] at f11; simpa using f11
    clear f11
    have hch := hI.1
    clear hF
    simp only [putsO, List.range, List.range.loop, List.foldr, if_true, List.getD_cons_zero, List.getD_cons_succ, e0, e1, e2, e3, e4, e5, e6, e7, e8, e9, e10, e12, Act.put, List.setIfInBounds_toArray, List.set_cons_zero, List.set_cons_succ]
    clear e0 e1 e2 e3 e4 e5 e6 e7 e8 e9 e10 e11 e12
    have hbu := hI.below' nL rfl
    have HBU : Hid (Below w.heap.size w u) := HB2.out.trans (hbu.mono HB2.out.size)
    have HRU := hid (HR2.out.below hbu)
    have HRRU : Hid (u.heap[w.heap.size + 1]? = some (.cells #[.int .u32 (o.r.x : Int), .int .i64 o.r.n, .int .u32 (o.r.via : Int), .bool o.r.loc] 38)) := below_keeps hbu HRR2.out (by have := HS2.out; omega)
    have HSU : Hid (w.heap.size + 2 <= u.heap.size) := by have := HS2.out; have := hbu.size; unfold Hid; omega
    obtain ⟨bs, HBS⟩ : ∃ bs, Hid (bs = (lk Tri.Vt.key R o.r.key).isSome) := ⟨_, rfl⟩
    have hge : (ge == 0) = bs := by rw [HGE.out, HBS.out]; cases (lk Tri.Vt.key R o.r.key).isSome <;> rfl
    have HAD := hid (admitR_any u bs HRU.out)
    have HAX : Hid ((if bs = true then (0 : Int) else if room <= R.length then 4 else 0) = x) := by unfold Hid; rw [HXX.out, HBS.out]
    rw [HAX.out] at HAD
    obtain ⟨d0, -⟩ := HRU.out.cells
    clear hI hch hbu st11 hb10 HAX y2 y3
    go_wp2_with fail
    refine HAD.out.mono ?_
    rintro _ u2 ⟨rfl, hbu2⟩
    have HBU2 : Hid (Below w.heap.size w u2) := HBU.out.trans (hbu2.mono HBU.out.size)
    have HRU2 := hid (HRU.out.below hbu2)
    have HRRU2 : Hid (u2.heap[w.heap.size + 1]? = some (.cells #[.int .u32 (o.r.x : Int), .int .i64 o.r.n, .int .u32 (o.r.via : Int), .bool o.r.loc] 38)) := below_keeps hbu2 HRRU.out (by have := HSU.out; omega)
    have HSU2 : Hid (w.heap.size + 2 <= u2.heap.size) := by have := HSU.out; have := hbu2.size; unfold Hid; omega
    clear hbu2 HAD d0 hge
    by_cases hx : x = 0
    ·have HPL : Hid ((lk Tri.Vt.key R o.r.key).isSome = true \/ R.length < room) := by
      have := HXX.out
      rw [hx] at this
      unfold Hid
      cases hl : (lk Tri.Vt.key R o.r.key).isSome with
      | true => exact .inl rfl
      | false =>
       rw [hl] at this
       right
       by_cases hl2 : room <= R.length
       ·simp [hl2] at this
       ·omega
     subst hx
     clear HXX
     go_upto_region 9 with fail
     refine wp_region_mono' 7 (fun i => ([48, 49, 50, 51, 52, 53, 54] : List Tmp).getD i 0) (FA [.inl (.pointer (some ⟨rb, 0, none⟩)), .inl (.pointer (some ⟨rb, 0, none⟩)), .inl (.pointer (some ⟨rb, 1, none⟩)), .inl (.pointer (some ⟨tb, 0, none⟩)), .inl (.pointer (some ⟨w.heap.size + 1, 0, none⟩)), .inl (.agg #[.int .u32 (o.r.x : Int), .int .i64 o.r.n]), .inl (.agg #[.int .u32 (o.r.x : Int), .int .i64 o.r.n, .int .u32 (o.r.via : Int), .bool o.r.loc])] 0) (by kernel_rfl) (by kernel_rfl) (FA.keeps _ _) ?_ ?_
     ·simp only [List.take_succ_cons, List.take_zero, stepsOk]
      refine ⟨?_, ?_, ?_, ?_, ?_, ?_, ?_, trivial⟩
      ·intro a u_ vs hb hold hdep
       exact fa_still (ex_move (.tmp 0) _ rfl (hold 0 (dlM (L := [48, 49, 50, 51, 52, 53, 54]) (by decide)))) rfl rfl hb
      ·intro a u_ vs hb hold hdep
       exact fa_still (ex_nil ⟨rb, 0, none⟩ (.tmp 48) rfl (FA.dep (hdep ⟨0, .data⟩ (by simp) rfl (by decide)) rfl)) rfl rfl hb
      ·intro a u_ vs hb hold hdep
       exact fa_still (ex_field _ ⟨rb, 0, none⟩ (.tmp 49) 1 _ rfl (FA.dep (hdep ⟨1, .data⟩ (by simp) rfl (by decide)) rfl) ((fld_rt u_).2)) rfl rfl hb
      ·intro a u_ vs hb hold hdep
       exact fa_still (ex_load _ ⟨rb, 1, none⟩ (.tmp 50) _ rfl (FA.dep (hdep ⟨2, .data⟩ (by simp) rfl (by decide)) rfl) (load_tp (by rw [cell_of_row _ _ _ _ _ _ (below_keeps hb HRU2.out.row HRU2.out.lt.1)]; rfl))) rfl rfl hb
      ·intro a u_ vs hb hold hdep
       exact fa_still (ex_field _ ⟨w.heap.size + 1, 0, none⟩ (.tmp 5) 0 _ rfl (hold 5 (dlM (L := [48, 49, 50, 51, 52, 53, 54]) (by decide))) (fld_ro u_)) rfl rfl hb
      ·intro a u_ vs hb hold hdep
       exact fa_still (ex_load _ ⟨w.heap.size + 1, 0, none⟩ (.tmp 52) _ rfl (FA.dep (hdep ⟨4, .data⟩ (by simp) rfl (by decide)) rfl) (load_pre (by rw [cell_of_row _ _ _ _ _ _ (below_keeps hb HRRU2.out (by have := HSU2.out; omega))]; rfl) (by rw [cell_of_row _ _ _ _ _ _ (below_keeps hb HRRU2.out (by have := HSU2.out; omega))]; rfl))) rfl rfl hb
      ·intro a u_ vs hb hold hdep
       exact fa_still (ex_load _ ⟨w.heap.size + 1, 0, none⟩ (.tmp 5) _ rfl (hold 5 (dlM (L := [48, 49, 50, 51, 52, 53, 54]) (by decide))) (load_at (cs := [.int .u32 (o.r.x : Int), .int .i64 o.r.n, .int .u32 (o.r.via : Int), .bool o.r.loc]) (below_keeps hb HRRU2.out (by have := HSU2.out; omega)) rfl Tryz.underlying38 rfl (by kernel_rfl))) rfl rfl hb
     intro vs u3 hb hF
     have e0 : vs 0 = .pointer (some ⟨rb, 0, none⟩) := (hF 0 (by decide)).is rfl
     have e1 : vs 1 = .pointer (some ⟨rb, 0, none⟩) := (hF 1 (by decide)).is rfl
     have e2 : vs 2 = .pointer (some ⟨rb, 1, none⟩) := (hF 2 (by decide)).is rfl
     have e3 : vs 3 = .pointer (some ⟨tb, 0, none⟩) := (hF 3 (by decide)).is rfl
     have e4 : vs 4 = .pointer (some ⟨w.heap.size + 1, 0, none⟩) := (hF 4 (by decide)).is rfl
     have e5 : vs 5 = .agg #[.int .u32 (o.r.x : Int), .int .i64 o.r.n] := (hF 5 (by decide)).is rfl
     have e6 : vs 6 = .agg #[.int .u32 (o.r.x : Int), .int .i64 o.r.n, .int .u32 (o.r.via : Int), .bool o.r.loc] := (hF 6 (by decide)).is rfl
     clear hF
     simp only [List.drop_succ_cons, List.drop_zero, puts, List.range, List.range.loop, List.foldr, if_true, List.getD_cons_zero, List.getD_cons_succ, e0, e1, e2, e3, e4, e5, e6, Act.put, List.setIfInBounds_toArray, List.set_cons_zero, List.set_cons_succ]
     clear e0 e1 e2 e3 e4 e5 e6
     obtain ⟨t, ht, hh⟩ := (HRU2.out.below hb).tree
     obtain ⟨hk, hkn⟩ := Vt_k_ok HOK.out
     have HPT := hid (put_any o.r.k o.r u3 ht hk)
     unfold pv at HPT
     rw [show (o.r.k.x : Int) = (o.r.x : Int) from rfl, <- hkn] at HPT
     have HH := hid (And.intro hh (And.intro ht.wf hk))
     have HRU3 := hid (HRU2.out.below hb)
     have HBU3 : Hid (Below w.heap.size w u3) := HBU2.out.trans (hb.mono HBU2.out.size)
     clear ht hh hk hkn hb
     go_wp2_with fail
     refine HPT.out.mono ?_
     rintro _ u4 ⟨rfl, ht2, hch⟩
     have HFIN : Hid (RtAt u4 X rb tb room (putK Tri.Vt.key R o.r) /\ Chg (fun b => b = tb) w u4) := by
      refine ⟨⟨(hch.block _ HRU3.out.lt.1 HRU3.out.ne).trans HRU3.out.row, ⟨_, ht2, HH.out.1.put HH.out.2.1 HOK.out⟩, ⟨?_, HRU3.out.le.2⟩, HRU3.out.xr, HRU3.out.ne⟩, (Chg.of_below HBU3.out).trans hch⟩
      rw [len_put]
      have := HRU3.out.le.1
      rcases HPL.out with h1 | h1
      ·rw [h1]; simpa using this
      ·split <;> omega
     clear ht2 hch
     go_wp2_with fail
     go_ret
     exact ⟨rfl, ⟨fun _ => HFIN.out.1, fun h => absurd rfl h⟩, HFIN.out.2⟩
    ·have q : (x == 0) = false := by simpa using hx
     have HN := hid hx
     clear hx HXX
     go_wp2_with fail
     go_ret
     exact ⟨rfl, ptr_bad HN.out HRU2.out, Chg.of_below HBU2.out⟩
   | true =>
    have hvia : (o.r.via : Int) = 0 := by rw [hloc] at hq; simp at hq; omega
    have q3 : ((o.r.via : Int) != 0) = false := by simp; omega
    have HLOC := hid hloc
    clear hq hloc hvia
    go_enter Tryz.func144, Tryz.ntmps144
    go_upto_region 2 with (first | (refine wpList_ld 38 ⟨w.heap.size, 1, none⟩ (.tmp 10) rfl rfl HLD.out rfl ?_) | fail)
    rw [<- HW1.out]
    go_upto_region 2 with fail
    go_wp2_with fail
    refine HV.out.mono ?_
    rintro _ w2 ⟨rfl, hb2⟩
    have k2 := below_keeps hb2 HRR.out (by have := HS1.out; omega)
    have y2 : w2.cell? ⟨w.heap.size + 1, 2, none⟩ = some (.int .u32 (o.r.via : Int)) := crw k2 rfl
    have y3 : w2.cell? ⟨w.heap.size + 1, 3, none⟩ = some (.bool true) := by rw [cell_of_row _ _ _ _ _ _ k2, <- HLOC.out]; rfl
    have HB2 : Hid (Below w.heap.size w w2) := HB1.out.trans (hb2.mono HB1.out.size)
    have HR2 := hid (HR1.out.below hb2)
    have HRR2 := hid k2
    have HS2 : Hid (w.heap.size + 2 <= w2.heap.size) := by have := HS1.out; have := hb2.size; unfold Hid; omega
    obtain ⟨gv, HGV⟩ : ∃ gv, Hid (gv = (lk Tri.Vt.key R o.r.key).getD ⟨0, 0, 0, false⟩) := ⟨_, rfl⟩
    obtain ⟨ge, HGE⟩ : ∃ ge : Int, Hid (ge = if (lk Tri.Vt.key R o.r.key).isSome then 0 else 3) := ⟨_, rfl⟩
    have HGT : Hid (∀ u, Below w2.heap.size w2 u -> Calls Tryz.prog 146 #[.pointer (some ⟨tb, 0, none⟩), .agg #[.int .u32 (o.r.x : Int), .int .i64 o.r.n]] u fun e w' => e = .returned (.tuple #[.agg gv.cells, .int .i64 ge]) /\ Below u.heap.size u w') := fun u hu => by
     obtain ⟨t, ht, hh⟩ := (HR2.out.below hu).tree
     obtain ⟨hk, hkn⟩ := Vt_k_ok HOK.out
     have := get_any o.r.k u ht hk
     rw [hh.look ht.wf HOK.out] at this
     unfold pv at this
     rw [show (o.r.k.x : Int) = (o.r.x : Int) from rfl, <- hkn] at this
     rw [HGV.out, HGE.out]
     cases hl : lk Tri.Vt.key R o.r.key with
     | none => rw [hl] at this; exact this
     | some v => rw [hl] at this; exact this
    have HI4 : Hid (IT w2 w2.heap.size [⟨11, false, 10, gv.cells, 38⟩] w2) := ⟨Chg.refl _ _, fun q hq e => by simp at hq; subst hq; cases e⟩
    clear hb2 x0 x1 k2
    go_upto_region 4 with fail
    refine wp_region_all' 13 (fun i => ([some 26, some 27, some 28, some 29, some 30, some 31, some 32, some 25, some 33, some 34, some 6, none, some 7] : List (Option Tmp)).getD i none) (FT [.inl (.pointer (some ⟨rb, 0, none⟩)), .inl (.pointer (some ⟨rb, 0, none⟩)), .inl (.pointer (some ⟨rb, 1, none⟩)), .inl (.pointer (some ⟨tb, 0, none⟩)), .inl (.pointer (some ⟨w.heap.size + 1, 0, none⟩)), .inl (.agg #[.int .u32 (o.r.x : Int), .int .i64 o.r.n]), .inl (.tuple #[.agg gv.cells, .int .i64 ge]), .inl (.tuple #[.agg gv.cells, .int .i64 ge]), .inl (.agg gv.cells), .inl (.int .i64 ge), .inr (#[.int .u32 0, .int .i64 0, .int .u32 0, .bool false], 38), .inl (undef), .inl (.int .i64 ge)] (w2.heap.size) [⟨11, false, 10, gv.cells, 38⟩]) (IT w2 (w2.heap.size) [⟨11, false, 10, gv.cells, 38⟩]) (RT [⟨11, false, 10, gv.cells, 38⟩]) (by kernel_rfl) (by kernel_rfl) (it_start (HI4.out.2)) (FT.keeps _ _ _ _ _ (by kernel_rfl)) ?_ ?_
    ·simp only [N.stepsAll]
     refine ⟨?_, ?_, ?_, ?_, ?_, ?_, ?_, ?_, ?_, ?_, ?_, ?_, ?_, trivial⟩
     ·intro a u vs hI hold hdep
      exact ft_still (ex_move (.tmp 0) _ rfl (hold 0 (dl_of (L := [some 26, some 27, some 28, some 29, some 30, some 31, some 32, some 25, some 33, some 34, some 6, none, some 7]) (by decide)))) rfl rfl rfl hI
     ·intro a u vs hI hold hdep
      have d0 := hdep ⟨0, .data⟩ (by simp) rfl
      exact ft_still (ex_nil ⟨rb, 0, none⟩ (.tmp 26) rfl (ft_dep d0.1 (d0.2 26 rfl) rfl)) rfl rfl rfl hI
     ·intro a u vs hI hold hdep
      have d1 := hdep ⟨1, .data⟩ (by simp) rfl
      exact ft_still (ex_field _ ⟨rb, 0, none⟩ (.tmp 27) 1 _ rfl (ft_dep d1.1 (d1.2 27 rfl) rfl) ((fld_rt u).2)) rfl rfl rfl hI
     ·intro a u vs hI hold hdep
      have d2 := hdep ⟨2, .data⟩ (by simp) rfl
      exact ft_still (ex_load _ ⟨rb, 1, none⟩ (.tmp 28) _ rfl (ft_dep d2.1 (d2.2 28 rfl) rfl) (load_tp (by rw [cell_of_row _ _ _ _ _ _ ((hI.same HR2.out.lt.1 HR2.out.lt.1 rfl).trans HR2.out.row)]; rfl))) rfl rfl rfl hI
     ·intro a u vs hI hold hdep
      exact ft_still (ex_field _ ⟨w.heap.size + 1, 0, none⟩ (.tmp 5) 0 _ rfl (hold 5 (dl_of (L := [some 26, some 27, some 28, some 29, some 30, some 31, some 32, some 25, some 33, some 34, some 6, none, some 7]) (by decide))) (fld_ro u)) rfl rfl rfl hI
     ·intro a u vs hI hold hdep
      have d4 := hdep ⟨4, .data⟩ (by simp) rfl
      exact ft_still (ex_load _ ⟨w.heap.size + 1, 0, none⟩ (.tmp 30) _ rfl (ft_dep d4.1 (d4.2 30 rfl) rfl) (load_pre (by rw [cell_of_row _ _ _ _ _ _ ((hI.same (by have := HS2.out; omega) (by have := HS2.out; omega) rfl).trans HRR2.out)]; rfl) (by rw [cell_of_row _ _ _ _ _ _ ((hI.same (by have := HS2.out; omega) (by have := HS2.out; omega) rfl).trans HRR2.out)]; rfl))) rfl rfl rfl hI
     ·intro a u vs hI hold hdep
      have d3 := hdep ⟨3, .data⟩ (by simp) rfl
      have d5 := hdep ⟨5, .data⟩ (by simp) rfl
      have e0 : a.eval (.tmp 29) = .pointer (some ⟨tb, 0, none⟩) := (ft_dep d3.1 (d3.2 29 rfl) rfl)
      have e1 : a.eval (.tmp 31) = .agg #[.int .u32 (o.r.x : Int), .int .i64 o.r.n] := (ft_dep d5.1 (d5.2 31 rfl) rfl)
      refine wp_call 146 _ _ rfl (enters_of Tryz.func146 (by kernel_rfl) rfl) #[.pointer (some ⟨tb, 0, none⟩), .agg #[.int .u32 (o.r.x : Int), .int .i64 o.r.n]] (by simp only [List.map_toArray, List.map_cons, List.map_nil, e0, e1]) ?_
      exact ft_ret rfl rfl rfl hI (HGT.out u (hI.below' nL rfl))
     ·intro a u vs hI hold hdep
      have d6 := hdep ⟨6, .data⟩ (by simp) rfl
      exact ft_still (ex_move (.tmp 32) _ rfl (ft_dep d6.1 (d6.2 32 rfl) rfl)) rfl rfl rfl hI
     ·intro a u vs hI hold hdep
      have d7 := hdep ⟨7, .data⟩ (by simp) rfl
      exact ft_still (ex_extract (.tmp 25) 0 _ _ rfl (ft_dep d7.1 (d7.2 25 rfl) rfl) rfl) rfl rfl rfl hI
     ·intro a u vs hI hold hdep
      have d7 := hdep ⟨7, .data⟩ (by simp) rfl
      exact ft_still (ex_extract (.tmp 25) 1 _ _ rfl (ft_dep d7.1 (d7.2 25 rfl) rfl) rfl) rfl rfl rfl hI
     ·intro a u vs hI hold hdep
      exact ft_alloc (ex_alloc u rfl (fun u => by kernel_rfl)) rfl rfl rfl hI nL
     ·intro a u vs hI hold hdep
      have d8 := hdep ⟨8, .data⟩ (by simp) rfl
      have dn := hdep ⟨10, .data⟩ (by simp) rfl
      obtain ⟨b, old, hx, hvk, hBg, hs, hg⟩ := ft_depN dn.1 (dn.2 6 rfl) rfl
      exact ft_new (k := 10) (row := gv.cells) (T := 38) rfl rfl (by decide) hx hvk hBg hs hg (ft_dep d8.1 (d8.2 33 rfl) rfl) (by simp) (fun q hq e => by simp only [List.mem_cons, List.not_mem_nil, or_false] at hq; rcases hq with rfl <;> first | rfl | (exact absurd e (by simp))) (by kernel_rfl) (one_cells gv) rfl (by kernel_rfl) hI
     ·intro a u vs hI hold hdep
      have d9 := hdep ⟨9, .data⟩ (by simp) rfl
      exact ft_still (ex_assign (.tmp 34) _ rfl (ft_dep d9.1 (d9.2 34 rfl) rfl)) rfl rfl rfl hI
    intro vs u hI hF
    have e0 : vs 0 = .pointer (some ⟨rb, 0, none⟩) := (hF 0 (by decide)).is rfl
    have e1 : vs 1 = .pointer (some ⟨rb, 0, none⟩) := (hF 1 (by decide)).is rfl
    have e2 : vs 2 = .pointer (some ⟨rb, 1, none⟩) := (hF 2 (by decide)).is rfl
    have e3 : vs 3 = .pointer (some ⟨tb, 0, none⟩) := (hF 3 (by decide)).is rfl
    have e4 : vs 4 = .pointer (some ⟨w.heap.size + 1, 0, none⟩) := (hF 4 (by decide)).is rfl
    have e5 : vs 5 = .agg #[.int .u32 (o.r.x : Int), .int .i64 o.r.n] := (hF 5 (by decide)).is rfl
    have e6 : vs 6 = .tuple #[.agg gv.cells, .int .i64 ge] := (hF 6 (by decide)).is rfl
    have e7 : vs 7 = .tuple #[.agg gv.cells, .int .i64 ge] := (hF 7 (by decide)).is rfl
    have e8 : vs 8 = .agg gv.cells := (hF 8 (by decide)).is rfl
    have e9 : vs 9 = .int .i64 ge := (hF 9 (by decide)).is rfl
    obtain ⟨b10, e10, hb10⟩ := (hF 10 (by decide)).newB rfl
    have e11 : vs 11 = undef := (hF 11 (by decide)).is rfl
    have e12 : vs 12 = .int .i64 ge := (hF 12 (by decide)).is rfl
    obtain ⟨bb11, f11, st11⟩ := (hF 11 (by decide)).storedN (k := 10) (row := gv.cells) (T := 38) (by simp)
    obtain rfl : b10 = bb11 := by rw [e10] at f11; simpa using f11
    clear f11
    have hch := hI.1
    clear hF
    simp only [putsO, List.range, List.range.loop, List.foldr, if_true, List.getD_cons_zero, List.getD_cons_succ, e0, e1, e2, e3, e4, e5, e6, e7, e8, e9, e10, e12, Act.put, List.setIfInBounds_toArray, List.set_cons_zero, List.set_cons_succ]
    clear e0 e1 e2 e3 e4 e5 e6 e7 e8 e9 e10 e11 e12
    have hbu := hI.below' nL rfl
    have HBU : Hid (Below w.heap.size w u) := HB2.out.trans (hbu.mono HB2.out.size)
    have HRU := hid (HR2.out.below hbu)
    have HRRU : Hid (u.heap[w.heap.size + 1]? = some (.cells #[.int .u32 (o.r.x : Int), .int .i64 o.r.n, .int .u32 (o.r.via : Int), .bool o.r.loc] 38)) := below_keeps hbu HRR2.out (by have := HS2.out; omega)
    have HSU : Hid (w.heap.size + 2 <= u.heap.size) := by have := HS2.out; have := hbu.size; unfold Hid; omega
    obtain ⟨bs, HBS⟩ : ∃ bs, Hid (bs = (lk Tri.Vt.key R o.r.key).isSome) := ⟨_, rfl⟩
    have hge : (ge == 0) = bs := by rw [HGE.out, HBS.out]; cases (lk Tri.Vt.key R o.r.key).isSome <;> rfl
    have HAD := hid (admitR_any u bs HRU.out)
    have HAX : Hid ((if bs = true then (0 : Int) else if room <= R.length then 4 else 0) = x) := by unfold Hid; rw [HXX.out, HBS.out]
    rw [HAX.out] at HAD
    obtain ⟨d0, -⟩ := HRU.out.cells
    clear hI hch hbu st11 hb10 HAX y2 y3
    go_wp2_with fail
    refine HAD.out.mono ?_
    rintro _ u2 ⟨rfl, hbu2⟩
    have HBU2 : Hid (Below w.heap.size w u2) := HBU.out.trans (hbu2.mono HBU.out.size)
    have HRU2 := hid (HRU.out.below hbu2)
    have HRRU2 : Hid (u2.heap[w.heap.size + 1]? = some (.cells #[.int .u32 (o.r.x : Int), .int .i64 o.r.n, .int .u32 (o.r.via : Int), .bool o.r.loc] 38)) := below_keeps hbu2 HRRU.out (by have := HSU.out; omega)
    have HSU2 : Hid (w.heap.size + 2 <= u2.heap.size) := by have := HSU.out; have := hbu2.size; unfold Hid; omega
    clear hbu2 HAD d0 hge
    by_cases hx : x = 0
    ·have HPL : Hid ((lk Tri.Vt.key R o.r.key).isSome = true \/ R.length < room) := by
      have := HXX.out
      rw [hx] at this
      unfold Hid
      cases hl : (lk Tri.Vt.key R o.r.key).isSome with
      | true => exact .inl rfl
      | false =>
       rw [hl] at this
       right
       by_cases hl2 : room <= R.length
       ·simp [hl2] at this
       ·omega
     subst hx
     clear HXX
     go_upto_region 9 with fail
     refine wp_region_mono' 7 (fun i => ([48, 49, 50, 51, 52, 53, 54] : List Tmp).getD i 0) (FA [.inl (.pointer (some ⟨rb, 0, none⟩)), .inl (.pointer (some ⟨rb, 0, none⟩)), .inl (.pointer (some ⟨rb, 1, none⟩)), .inl (.pointer (some ⟨tb, 0, none⟩)), .inl (.pointer (some ⟨w.heap.size + 1, 0, none⟩)), .inl (.agg #[.int .u32 (o.r.x : Int), .int .i64 o.r.n]), .inl (.agg #[.int .u32 (o.r.x : Int), .int .i64 o.r.n, .int .u32 (o.r.via : Int), .bool o.r.loc])] 0) (by kernel_rfl) (by kernel_rfl) (FA.keeps _ _) ?_ ?_
     ·simp only [List.take_succ_cons, List.take_zero, stepsOk]
      refine ⟨?_, ?_, ?_, ?_, ?_, ?_, ?_, trivial⟩
      ·intro a u_ vs hb hold hdep
       exact fa_still (ex_move (.tmp 0) _ rfl (hold 0 (dlM (L := [48, 49, 50, 51, 52, 53, 54]) (by decide)))) rfl rfl hb
      ·intro a u_ vs hb hold hdep
       exact fa_still (ex_nil ⟨rb, 0, none⟩ (.tmp 48) rfl (FA.dep (hdep ⟨0, .data⟩ (by simp) rfl (by decide)) rfl)) rfl rfl hb
      ·intro a u_ vs hb hold hdep
       exact fa_still (ex_field _ ⟨rb, 0, none⟩ (.tmp 49) 1 _ rfl (FA.dep (hdep ⟨1, .data⟩ (by simp) rfl (by decide)) rfl) ((fld_rt u_).2)) rfl rfl hb
      ·intro a u_ vs hb hold hdep
       exact fa_still (ex_load _ ⟨rb, 1, none⟩ (.tmp 50) _ rfl (FA.dep (hdep ⟨2, .data⟩ (by simp) rfl (by decide)) rfl) (load_tp (by rw [cell_of_row _ _ _ _ _ _ (below_keeps hb HRU2.out.row HRU2.out.lt.1)]; rfl))) rfl rfl hb
      ·intro a u_ vs hb hold hdep
       exact fa_still (ex_field _ ⟨w.heap.size + 1, 0, none⟩ (.tmp 5) 0 _ rfl (hold 5 (dlM (L := [48, 49, 50, 51, 52, 53, 54]) (by decide))) (fld_ro u_)) rfl rfl hb
      ·intro a u_ vs hb hold hdep
       exact fa_still (ex_load _ ⟨w.heap.size + 1, 0, none⟩ (.tmp 52) _ rfl (FA.dep (hdep ⟨4, .data⟩ (by simp) rfl (by decide)) rfl) (load_pre (by rw [cell_of_row _ _ _ _ _ _ (below_keeps hb HRRU2.out (by have := HSU2.out; omega))]; rfl) (by rw [cell_of_row _ _ _ _ _ _ (below_keeps hb HRRU2.out (by have := HSU2.out; omega))]; rfl))) rfl rfl hb
      ·intro a u_ vs hb hold hdep
       exact fa_still (ex_load _ ⟨w.heap.size + 1, 0, none⟩ (.tmp 5) _ rfl (hold 5 (dlM (L := [48, 49, 50, 51, 52, 53, 54]) (by decide))) (load_at (cs := [.int .u32 (o.r.x : Int), .int .i64 o.r.n, .int .u32 (o.r.via : Int), .bool o.r.loc]) (below_keeps hb HRRU2.out (by have := HSU2.out; omega)) rfl Tryz.underlying38 rfl (by kernel_rfl))) rfl rfl hb
     intro vs u3 hb hF
     have e0 : vs 0 = .pointer (some ⟨rb, 0, none⟩) := (hF 0 (by decide)).is rfl
     have e1 : vs 1 = .pointer (some ⟨rb, 0, none⟩) := (hF 1 (by decide)).is rfl
     have e2 : vs 2 = .pointer (some ⟨rb, 1, none⟩) := (hF 2 (by decide)).is rfl
     have e3 : vs 3 = .pointer (some ⟨tb, 0, none⟩) := (hF 3 (by decide)).is rfl
     have e4 : vs 4 = .pointer (some ⟨w.heap.size + 1, 0, none⟩) := (hF 4 (by decide)).is rfl
     have e5 : vs 5 = .agg #[.int .u32 (o.r.x : Int), .int .i64 o.r.n] := (hF 5 (by decide)).is rfl
     have e6 : vs 6 = .agg #[.int .u32 (o.r.x : Int), .int .i64 o.r.n, .int .u32 (o.r.via : Int), .bool o.r.loc] := (hF 6 (by decide)).is rfl
     clear hF
     simp only [List.drop_succ_cons, List.drop_zero, puts, List.range, List.range.loop, List.foldr, if_true, List.getD_cons_zero, List.getD_cons_succ, e0, e1, e2, e3, e4, e5, e6, Act.put, List.setIfInBounds_toArray, List.set_cons_zero, List.set_cons_succ]
     clear e0 e1 e2 e3 e4 e5 e6
     obtain ⟨t, ht, hh⟩ := (HRU2.out.below hb).tree
     obtain ⟨hk, hkn⟩ := Vt_k_ok HOK.out
     have HPT := hid (put_any o.r.k o.r u3 ht hk)
     unfold pv at HPT
     rw [show (o.r.k.x : Int) = (o.r.x : Int) from rfl, <- hkn] at HPT
     have HH := hid (And.intro hh (And.intro ht.wf hk))
     have HRU3 := hid (HRU2.out.below hb)
     have HBU3 : Hid (Below w.heap.size w u3) := HBU2.out.trans (hb.mono HBU2.out.size)
     clear ht hh hk hkn hb
     go_wp2_with fail
     refine HPT.out.mono ?_
     rintro _ u4 ⟨rfl, ht2, hch⟩
     have HFIN : Hid (RtAt u4 X rb tb room (putK Tri.Vt.key R o.r) /\ Chg (fun b => b = tb) w u4) := by
      refine ⟨⟨(hch.block _ HRU3.out.lt.1 HRU3.out.ne).trans HRU3.out.row, ⟨_, ht2, HH.out.1.put HH.out.2.1 HOK.out⟩, ⟨?_, HRU3.out.le.2⟩, HRU3.out.xr, HRU3.out.ne⟩, (Chg.of_below HBU3.out).trans hch⟩
      rw [len_put]
      have := HRU3.out.le.1
      rcases HPL.out with h1 | h1
      ·rw [h1]; simpa using this
      ·split <;> omega
     clear ht2 hch
     go_wp2_with fail
     go_ret
     exact ⟨rfl, ⟨fun _ => HFIN.out.1, fun h => absurd rfl h⟩, HFIN.out.2⟩
    ·have q : (x == 0) = false := by simpa using hx
     have HN := hid hx
     clear hx HXX
     go_wp2_with fail
     go_ret
     exact ⟨rfl, ptr_bad HN.out HRU2.out, Chg.of_below HBU2.out⟩
end Go.Proofs.YtpdnnikkaojnkaaGreat.Rt
