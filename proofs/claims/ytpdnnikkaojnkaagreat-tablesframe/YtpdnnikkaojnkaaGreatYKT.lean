import Derived.Test.YtpdnnikkaojnkaaGreatYKR
namespace Go.Proofs.YtpdnnikkaojnkaaGreat.Rt
open Go.Proofs.YtpdnnikkaojnkaaGreat Go.ChangeShapes Go.WideShapes Go.ChangeAt Go.RowKit Go.Maps Tri N
set_option maxHeartbeats 8000000
set_option maxRecDepth 100000
def hopZ : Array Value := #[.bool false, .int .u32 0, .int .i64 0, .int .u32 0, .int .u8 0, .int .u8 0, .int .u8 0, .int .u8 0, .int .u8 0, .int .u8 0, .int .u32 0]
def hopL (v : Vt) : Array Value := #[.bool true, .int .u32 (v.x : Int), .int .i64 v.n, .int .u32 0, .int .u8 0, .int .u8 0, .int .u8 0, .int .u8 0, .int .u8 0, .int .u8 0, .int .u32 0]
def hopT (v : Vt) (nb : Nb) (fd : Fd) : Array Value := #[.bool false, .int .u32 (v.x : Int), .int .i64 v.n, .int .u32 (v.via : Int), .int .u8 (nb.mac.b0 : Int), .int .u8 (nb.mac.b1 : Int), .int .u8 (nb.mac.b2 : Int), .int .u8 (nb.mac.b3 : Int), .int .u8 (nb.mac.b4 : Int), .int .u8 (nb.mac.b5 : Int), .int .u32 (fd.dest : Int)]
theorem alloc_hop (u : World) : (Instr.alloc 56 true (.tuple #[])).run Tryz.prog u = .ok (.pointer (some ⟨u.heap.size, 0, none⟩)) (u.alloc (.cells hopZ 56)) := by kernel_rfl
def hopR (s : Ks) (r : Option Vt) : Array Value × Int :=
 match r with
 | none => (hopZ, 90)
 | some v => if v.loc then (hopL v, 0) else match lk Nb.ip s.N v.via with
  | none => (hopZ, 91)
  | some nb => match lk Fd.mac s.F nb.mac with
   | none => (hopZ, 92)
   | some fd => (hopT v nb fd, 0)
def ResP (w w' : World) (s : Ks) (a : Nat) (e : Ending) : Prop := ∃ r, LR s.R a r /\ e = .returned (.tuple #[.agg (hopR s r).1, .int .i64 (hopR s r).2]) /\ Below w.heap.size w w'
theorem resolve_any {X : Nat -> Prop} {b : Bks} {s : Ks} (w : World) (a : Nat) (h : KAt w X b s) :
  Calls Tryz.prog 11 #[.pointer (some ⟨b.kb, 0, none⟩), .int .u32 (a : Int)] w fun e w' => ResP w w' s a e := by
 have HK := hid h
 clear h
 go_enter Tryz.func11, Tryz.ntmps11
 go_upto_region 1 with (first | (refine wpList_alB rfl 56 hopZ rfl alloc_hop ?_; intro w1 hb1 hs1 hr1) | fail)
 have HK1 := hid (HK.out.below hb1)
 obtain ⟨c0, -, -⟩ := HK1.out.cells
 have HC := hid (longest_any w1 a HK1.out.rt)
 have HB1 := hid hb1
 have HS1 := hid hs1
 have HR1 := hid hr1
 clear hb1 hs1 hr1
 go_wp2_with fail
 refine HC.out.mono ?_
 rintro _ w2 ⟨r, hlr, rfl, hb2⟩
 have HLR := hid hlr
 have HK2 := hid (HK1.out.below hb2)
 have HB2 : Hid (Below w.heap.size w w2) := HB1.out.trans (hb2.mono HB1.out.size)
 have HR2 : Hid (w2.heap[w.heap.size]? = some (.cells hopZ 56)) := below_keeps hb2 HR1.out (gsl HR1.out)
 clear hlr hb2 c0 HC HK1 HB1 HR1 HS1
 obtain ⟨v, HV⟩ : ∃ v, Hid (v = r.getD zVt) := ⟨_, rfl⟩
 obtain ⟨bs, HBS⟩ : ∃ bs, Hid (bs = r.isSome) := ⟨_, rfl⟩
 rw [<- HV.out, <- HBS.out]
 unfold Tri.Vt.cells
 obtain ⟨w3, HW3⟩ : ∃ w3, Hid (w3 = w2.alloc (.cells #[.int .u32 (v.x : Int), .int .i64 v.n, .int .u32 (v.via : Int), .bool v.loc] 38)) := ⟨_, rfl⟩
 have hb3 : Below w2.heap.size w2 w3 := by rw [HW3.out]; exact bR.alloc nL _
 have HS3 : Hid (w3.heap.size = w2.heap.size + 1) := by unfold Hid; rw [HW3.out]; simp
 have HP3 : Hid (w3.heap[w2.heap.size]? = some (.cells #[.int .u32 (v.x : Int), .int .i64 v.n, .int .u32 (v.via : Int), .bool v.loc] 38)) := by unfold Hid; rw [HW3.out]; exact heap_alloc_new w2 _
 have HK3 := hid (HK2.out.below hb3)
 have HB3 : Hid (Below w.heap.size w w3) := HB2.out.trans (hb3.mono HB2.out.size)
 have HR3 : Hid (w3.heap[w.heap.size]? = some (.cells hopZ 56)) := below_keeps hb3 HR2.out (gsl HR2.out)
 clear hb3 HK2 HB2 HR2
 go_upto_region 2 with fail
 rw [<- HW3.out]
 clear HW3
 cases r with
 | none =>
  obtain rfl : bs = false := HBS.out
  have HEQ : Hid (hopR s none = (hopZ, 90)) := rfl
  go_wp2_with (first | (refine wpList_stB rfl 56 (.tmp 4) (.tmp 21) rfl w.heap.size #[.bool false, .int .u32 0, .int .i64 0, .int .u32 0, .int .u8 0, .int .u8 0, .int .u8 0, .int .u8 0, .int .u8 0, .int .u8 0, .int .u32 0] rfl rfl _ HR3.out (by kernel_rfl) rfl (by simp [Value.oneCell']) ?_; intro w9 hbt hr9) | fail)
  have u0 : w9.cell? ⟨w.heap.size, 0, none⟩ = some (.bool false) := crw hr9 rfl
  have u1 : w9.cell? ⟨w.heap.size, 1, none⟩ = some (.int .u32 0) := crw hr9 rfl
  have u2 : w9.cell? ⟨w.heap.size, 2, none⟩ = some (.int .i64 0) := crw hr9 rfl
  have u3 : w9.cell? ⟨w.heap.size, 3, none⟩ = some (.int .u32 0) := crw hr9 rfl
  have u4 : w9.cell? ⟨w.heap.size, 4, none⟩ = some (.int .u8 0) := crw hr9 rfl
  have u5 : w9.cell? ⟨w.heap.size, 5, none⟩ = some (.int .u8 0) := crw hr9 rfl
  have u6 : w9.cell? ⟨w.heap.size, 6, none⟩ = some (.int .u8 0) := crw hr9 rfl
  have u7 : w9.cell? ⟨w.heap.size, 7, none⟩ = some (.int .u8 0) := crw hr9 rfl
  have u8 : w9.cell? ⟨w.heap.size, 8, none⟩ = some (.int .u8 0) := crw hr9 rfl
  have u9 : w9.cell? ⟨w.heap.size, 9, none⟩ = some (.int .u8 0) := crw hr9 rfl
  have u10 : w9.cell? ⟨w.heap.size, 10, none⟩ = some (.int .u32 0) := crw hr9 rfl
  have hb9 : Below w.heap.size w w9 := ⟨hbt.os.trans HB3.out.os, hbt.tape.trans HB3.out.tape, hbt.output.trans HB3.out.output, Nat.le_trans HB3.out.size hbt.size, fun k hk => (hbt.block k (Nat.lt_of_lt_of_le hk HB3.out.size) (by omega)).trans (HB3.out.block k hk)⟩
  exact bodyPost_ret (v := .tuple #[.agg #[.bool false, .int .u32 0, .int .i64 0, .int .u32 0, .int .u8 0, .int .u8 0, .int .u8 0, .int .u8 0, .int .u8 0, .int .u8 0, .int .u32 0], .int .i64 90]) (by simp [results, Tryz.results11, go_sem, u0, u1, u2, u3, u4, u5, u6, u7, u8, u9, u10]) rfl ⟨_, HLR.out, by rw [HEQ.out]; rfl, hb9⟩
 | some v0 =>
  obtain rfl : bs = true := HBS.out
  obtain rfl : v = v0 := HV.out
  have p0 : w3.cell? ⟨w2.heap.size, 0, none⟩ = some (.int .u32 (v.x : Int)) := crw HP3.out rfl
  have p1 : w3.cell? ⟨w2.heap.size, 1, none⟩ = some (.int .i64 v.n) := crw HP3.out rfl
  have p3 : w3.cell? ⟨w2.heap.size, 3, none⟩ = some (.bool v.loc) := crw HP3.out rfl
  cases hloc : v.loc with
  | true =>
   rw [hloc] at p3
   have HEQ : Hid (hopR s (some v) = (hopL v, 0)) := by unfold Hid hopR; simp [hloc]
   clear hloc
   go_wp2_with (first | (refine wpList_stB rfl 56 (.tmp 4) (.tmp 26) rfl w.heap.size #[.bool true, .int .u32 (v.x : Int), .int .i64 v.n, .int .u32 0, .int .u8 0, .int .u8 0, .int .u8 0, .int .u8 0, .int .u8 0, .int .u8 0, .int .u32 0] rfl rfl _ HR3.out (by kernel_rfl) rfl (by simp [Value.oneCell']) ?_; intro w9 hbt hr9) | fail)
   have u0 : w9.cell? ⟨w.heap.size, 0, none⟩ = some (.bool true) := crw hr9 rfl
   have u1 : w9.cell? ⟨w.heap.size, 1, none⟩ = some (.int .u32 (v.x : Int)) := crw hr9 rfl
   have u2 : w9.cell? ⟨w.heap.size, 2, none⟩ = some (.int .i64 v.n) := crw hr9 rfl
   have u3 : w9.cell? ⟨w.heap.size, 3, none⟩ = some (.int .u32 0) := crw hr9 rfl
   have u4 : w9.cell? ⟨w.heap.size, 4, none⟩ = some (.int .u8 0) := crw hr9 rfl
   have u5 : w9.cell? ⟨w.heap.size, 5, none⟩ = some (.int .u8 0) := crw hr9 rfl
   have u6 : w9.cell? ⟨w.heap.size, 6, none⟩ = some (.int .u8 0) := crw hr9 rfl
   have u7 : w9.cell? ⟨w.heap.size, 7, none⟩ = some (.int .u8 0) := crw hr9 rfl
   have u8 : w9.cell? ⟨w.heap.size, 8, none⟩ = some (.int .u8 0) := crw hr9 rfl
   have u9 : w9.cell? ⟨w.heap.size, 9, none⟩ = some (.int .u8 0) := crw hr9 rfl
   have u10 : w9.cell? ⟨w.heap.size, 10, none⟩ = some (.int .u32 0) := crw hr9 rfl
   have hb9 : Below w.heap.size w w9 := ⟨hbt.os.trans HB3.out.os, hbt.tape.trans HB3.out.tape, hbt.output.trans HB3.out.output, Nat.le_trans HB3.out.size hbt.size, fun k hk => (hbt.block k (Nat.lt_of_lt_of_le hk HB3.out.size) (by omega)).trans (HB3.out.block k hk)⟩
   exact bodyPost_ret (v := .tuple #[.agg #[.bool true, .int .u32 (v.x : Int), .int .i64 v.n, .int .u32 0, .int .u8 0, .int .u8 0, .int .u8 0, .int .u8 0, .int .u8 0, .int .u8 0, .int .u32 0], .int .i64 0]) (by simp [results, Tryz.results11, go_sem, u0, u1, u2, u3, u4, u5, u6, u7, u8, u9, u10]) rfl ⟨_, HLR.out, by rw [HEQ.out]; rfl, hb9⟩
  | false =>
   rw [hloc] at p3
   have HLOC := hid hloc
   clear hloc
   obtain ⟨ee, HEE⟩ : ∃ ee, Hid (ee = (lk Nb.ip s.N v.via).getD gN.z) := ⟨_, rfl⟩
   obtain ⟨b2, HBS2⟩ : ∃ b2, Hid (b2 = (lk Nb.ip s.N v.via).isSome) := ⟨_, rfl⟩
   have HVIA : Hid (v.via < 4294967296) := (HK3.out.ok.rk v HLR.out.1).2.2
   have HI6 : Hid (IT w3 w3.heap.size [⟨11, false, 10, ee.cells, 42⟩] w3) := ⟨Chg.refl _ _, fun q hq e => by simp at hq; subst hq; cases e⟩
   go_upto_region 6 with fail
   refine wp_region_all' 13 (fun i => ([some 28, some 29, some 30, some 31, some 32, some 33, some 34, some 27, some 35, some 36, some 8, none, some 7] : List (Option Tmp)).getD i none) (FT [.inl (.pointer (some ⟨b.kb, 0, none⟩)), .inl (.pointer (some ⟨b.kb, 0, none⟩)), .inl (.pointer (some ⟨b.kb, 1, none⟩)), .inl (.pointer (some ⟨b.nb, 0, none⟩)), .inl (.pointer (some ⟨w2.heap.size, 2, none⟩)), .inl (.int .u32 (v.via : Int)), .inl (.tuple #[.agg ee.cells, .bool b2]), .inl (.tuple #[.agg ee.cells, .bool b2]), .inl (.agg ee.cells), .inl (.bool b2), .inr (#[.int .u32 0, .int .u8 0, .int .u8 0, .int .u8 0, .int .u8 0, .int .u8 0, .int .u8 0], 42), .inl (undef), .inl (.bool b2)] (w3.heap.size) [⟨11, false, 10, ee.cells, 42⟩]) (IT w3 (w3.heap.size) [⟨11, false, 10, ee.cells, 42⟩]) (RT [⟨11, false, 10, ee.cells, 42⟩]) (by kernel_rfl) (by kernel_rfl) (it_start (HI6.out.2)) (FT.keeps _ _ _ _ _ (by kernel_rfl)) ?_ ?_
   ·simp only [N.stepsAll]
    refine ⟨?_, ?_, ?_, ?_, ?_, ?_, ?_, ?_, ?_, ?_, ?_, ?_, ?_, trivial⟩
    ·intro a u vs hI hold hdep
     exact ft_still (ex_move (.tmp 0) _ rfl (hold 0 (dl_of (L := [some 28, some 29, some 30, some 31, some 32, some 33, some 34, some 27, some 35, some 36, some 8, none, some 7]) (by decide)))) rfl rfl rfl hI
    ·intro a u vs hI hold hdep
     have d0 := hdep ⟨0, .data⟩ (by simp) rfl
     exact ft_still (ex_nil ⟨b.kb, 0, none⟩ (.tmp 28) rfl (ft_dep d0.1 (d0.2 28 rfl) rfl)) rfl rfl rfl hI
    ·intro a u vs hI hold hdep
     have d1 := hdep ⟨1, .data⟩ (by simp) rfl
     exact ft_still (ex_field _ ⟨b.kb, 0, none⟩ (.tmp 29) 1 _ rfl (ft_dep d1.1 (d1.2 29 rfl) rfl) (by kernel_rfl)) rfl rfl rfl hI
    ·intro a u vs hI hold hdep
     have d2 := hdep ⟨2, .data⟩ (by simp) rfl
     exact ft_still (ex_load _ ⟨b.kb, 1, none⟩ (.tmp 30) _ rfl (ft_dep d2.1 (d2.2 30 rfl) rfl) (by have hc := (HK3.out.below (hI.below' nL rfl)).cells.2.1; simp [go_sem, hc])) rfl rfl rfl hI
    ·intro a u vs hI hold hdep
     exact ft_still (ex_field _ ⟨w2.heap.size, 0, none⟩ (.tmp 6) 1 _ rfl (hold 6 (dl_of (L := [some 28, some 29, some 30, some 31, some 32, some 33, some 34, some 27, some 35, some 36, some 8, none, some 7]) (by decide))) (by kernel_rfl)) rfl rfl rfl hI
    ·intro a u vs hI hold hdep
     have d4 := hdep ⟨4, .data⟩ (by simp) rfl
     exact ft_still (ex_load _ ⟨w2.heap.size, 2, none⟩ (.tmp 32) _ rfl (ft_dep d4.1 (d4.2 32 rfl) rfl) (by have hc : u.cell? ⟨w2.heap.size, 2, none⟩ = some (.int .u32 (v.via : Int)) := (cell_of_row _ _ _ _ _ _ (below_keeps (hI.below' nL rfl) HP3.out (gsl HP3.out))).trans rfl; simp [go_sem, hc])) rfl rfl rfl hI
    ·intro a u vs hI hold hdep
     have d3 := hdep ⟨3, .data⟩ (by simp) rfl
     have d5 := hdep ⟨5, .data⟩ (by simp) rfl
     have e0 : a.eval (.tmp 31) = .pointer (some ⟨b.nb, 0, none⟩) := (ft_dep d3.1 (d3.2 31 rfl) rfl)
     have e1 : a.eval (.tmp 33) = .int .u32 (v.via : Int) := (ft_dep d5.1 (d5.2 33 rfl) rfl)
     refine wp_call 25 _ _ rfl (enters_of Tryz.func25 (by kernel_rfl) rfl) #[.pointer (some ⟨b.nb, 0, none⟩), .int .u32 (v.via : Int)] (by simp only [List.map_toArray, List.map_cons, List.map_nil, e0, e1]) ?_
     exact ft_ret rfl rfl rfl hI (by have h := getN_any u v.via (HK3.out.below (hI.below' nL rfl)).nt HVIA.out; rw [<- HEE.out, <- HBS2.out] at h; exact h)
    ·intro a u vs hI hold hdep
     have d6 := hdep ⟨6, .data⟩ (by simp) rfl
     exact ft_still (ex_move (.tmp 34) _ rfl (ft_dep d6.1 (d6.2 34 rfl) rfl)) rfl rfl rfl hI
    ·intro a u vs hI hold hdep
     have d7 := hdep ⟨7, .data⟩ (by simp) rfl
     exact ft_still (ex_extract (.tmp 27) 0 _ _ rfl (ft_dep d7.1 (d7.2 27 rfl) rfl) rfl) rfl rfl rfl hI
    ·intro a u vs hI hold hdep
     have d7 := hdep ⟨7, .data⟩ (by simp) rfl
     exact ft_still (ex_extract (.tmp 27) 1 _ _ rfl (ft_dep d7.1 (d7.2 27 rfl) rfl) rfl) rfl rfl rfl hI
    ·intro a u vs hI hold hdep
     exact ft_alloc (ex_alloc u rfl (fun u => by kernel_rfl)) rfl rfl rfl hI nL
    ·intro a u vs hI hold hdep
     have d8 := hdep ⟨8, .data⟩ (by simp) rfl
     have dn := hdep ⟨10, .data⟩ (by simp) rfl
     obtain ⟨b, old, hx, hvk, hBg, hs, hg⟩ := ft_depN dn.1 (dn.2 8 rfl) rfl
     exact ft_new (k := 10) (row := ee.cells) (T := 42) rfl rfl (by decide) hx hvk hBg hs hg (ft_dep d8.1 (d8.2 35 rfl) rfl) (by simp) (fun q hq e => by simp only [List.mem_cons, List.not_mem_nil, or_false] at hq; rcases hq with rfl <;> first | rfl | (exact absurd e (by simp))) (by kernel_rfl) (one_cells ee) rfl (by kernel_rfl) hI
    ·intro a u vs hI hold hdep
     have d9 := hdep ⟨9, .data⟩ (by simp) rfl
     exact ft_still (ex_assign (.tmp 36) _ rfl (ft_dep d9.1 (d9.2 36 rfl) rfl)) rfl rfl rfl hI
   intro vs u hI hF
   have e0 : vs 0 = .pointer (some ⟨b.kb, 0, none⟩) := (hF 0 (by decide)).is rfl
   have e1 : vs 1 = .pointer (some ⟨b.kb, 0, none⟩) := (hF 1 (by decide)).is rfl
   have e2 : vs 2 = .pointer (some ⟨b.kb, 1, none⟩) := (hF 2 (by decide)).is rfl
   have e3 : vs 3 = .pointer (some ⟨b.nb, 0, none⟩) := (hF 3 (by decide)).is rfl
   have e4 : vs 4 = .pointer (some ⟨w2.heap.size, 2, none⟩) := (hF 4 (by decide)).is rfl
   have e5 : vs 5 = .int .u32 (v.via : Int) := (hF 5 (by decide)).is rfl
   have e6 : vs 6 = .tuple #[.agg ee.cells, .bool b2] := (hF 6 (by decide)).is rfl
   have e7 : vs 7 = .tuple #[.agg ee.cells, .bool b2] := (hF 7 (by decide)).is rfl
   have e8 : vs 8 = .agg ee.cells := (hF 8 (by decide)).is rfl
   have e9 : vs 9 = .bool b2 := (hF 9 (by decide)).is rfl
   obtain ⟨b10, e10, hb10⟩ := (hF 10 (by decide)).newB rfl
   have e11 : vs 11 = undef := (hF 11 (by decide)).is rfl
   have e12 : vs 12 = .bool b2 := (hF 12 (by decide)).is rfl
   obtain ⟨bb11, f11, st11⟩ := (hF 11 (by decide)).storedN (k := 10) (row := ee.cells) (T := 42) (by simp)
   obtain rfl : b10 = bb11 := by rw [e10] at f11; simpa using f11
   clear f11
   have hch := hI.1
   clear hF
   simp only [putsO, List.range, List.range.loop, List.foldr, if_true, List.getD_cons_zero, List.getD_cons_succ, e0, e1, e2, e3, e4, e5, e6, e7, e8, e9, e10, e12, Act.put, List.setIfInBounds_toArray, List.set_cons_zero, List.set_cons_succ]
   clear e0 e1 e2 e3 e4 e5 e6 e7 e8 e9 e10 e11 e12
   have HST := hid st11
   have hbu := hI.below' nL rfl
   have HBU := hid hbu
   have HKU := hid (HK3.out.below hbu)
   have HPU : Hid (u.heap[w2.heap.size]? = some (.cells #[.int .u32 (v.x : Int), .int .i64 v.n, .int .u32 (v.via : Int), .bool v.loc] 38)) := below_keeps hbu HP3.out (gsl HP3.out)
   have HB4 : Hid (Below w.heap.size w u) := HB3.out.trans (hbu.mono HB3.out.size)
   have HR4 : Hid (u.heap[w.heap.size]? = some (.cells hopZ 56)) := below_keeps hbu HR3.out (gsl HR3.out)
   clear hbu hch hI st11 hb10 p0 p1 p3
   cases hnb : lk Nb.ip s.N v.via with
   | none =>
    obtain rfl : b2 = false := by rw [HBS2.out, hnb]; rfl
    have HEQ : Hid (hopR s (some v) = (hopZ, 91)) := by unfold Hid hopR; simp [HLOC.out, hnb]
    clear hnb
    go_wp2_with (first | (refine wpList_stB rfl 56 (.tmp 4) (.tmp 39) rfl w.heap.size #[.bool false, .int .u32 0, .int .i64 0, .int .u32 0, .int .u8 0, .int .u8 0, .int .u8 0, .int .u8 0, .int .u8 0, .int .u8 0, .int .u32 0] rfl rfl _ HR4.out (by kernel_rfl) rfl (by simp [Value.oneCell']) ?_; intro w9 hbt hr9) | fail)
    have u0 : w9.cell? ⟨w.heap.size, 0, none⟩ = some (.bool false) := crw hr9 rfl
    have u1 : w9.cell? ⟨w.heap.size, 1, none⟩ = some (.int .u32 0) := crw hr9 rfl
    have u2 : w9.cell? ⟨w.heap.size, 2, none⟩ = some (.int .i64 0) := crw hr9 rfl
    have u3 : w9.cell? ⟨w.heap.size, 3, none⟩ = some (.int .u32 0) := crw hr9 rfl
    have u4 : w9.cell? ⟨w.heap.size, 4, none⟩ = some (.int .u8 0) := crw hr9 rfl
    have u5 : w9.cell? ⟨w.heap.size, 5, none⟩ = some (.int .u8 0) := crw hr9 rfl
    have u6 : w9.cell? ⟨w.heap.size, 6, none⟩ = some (.int .u8 0) := crw hr9 rfl
    have u7 : w9.cell? ⟨w.heap.size, 7, none⟩ = some (.int .u8 0) := crw hr9 rfl
    have u8 : w9.cell? ⟨w.heap.size, 8, none⟩ = some (.int .u8 0) := crw hr9 rfl
    have u9 : w9.cell? ⟨w.heap.size, 9, none⟩ = some (.int .u8 0) := crw hr9 rfl
    have u10 : w9.cell? ⟨w.heap.size, 10, none⟩ = some (.int .u32 0) := crw hr9 rfl
    have hb9 : Below w.heap.size w w9 := ⟨hbt.os.trans HB4.out.os, hbt.tape.trans HB4.out.tape, hbt.output.trans HB4.out.output, Nat.le_trans HB4.out.size hbt.size, fun k hk => (hbt.block k (Nat.lt_of_lt_of_le hk HB4.out.size) (by omega)).trans (HB4.out.block k hk)⟩
    exact bodyPost_ret (v := .tuple #[.agg #[.bool false, .int .u32 0, .int .i64 0, .int .u32 0, .int .u8 0, .int .u8 0, .int .u8 0, .int .u8 0, .int .u8 0, .int .u8 0, .int .u32 0], .int .i64 91]) (by simp [results, Tryz.results11, go_sem, u0, u1, u2, u3, u4, u5, u6, u7, u8, u9, u10]) rfl ⟨_, HLR.out, by rw [HEQ.out]; rfl, hb9⟩
   | some nb =>
    obtain rfl : b2 = true := by rw [HBS2.out, hnb]; rfl
    obtain rfl : ee = nb := by rw [HEE.out, hnb]; rfl
    have HNB := hid hnb
    have HMO : Hid (ee.mac.Ok) := (HK3.out.ok.nk ee (lk_some hnb).1).2
    clear hnb HEE HBS2 HI6 HP3 HB3 HR3
    obtain ⟨c8, rfl⟩ : ∃ c8, c8 = b10 := ⟨_, rfl⟩
    obtain ⟨y, rfl⟩ : ∃ y, y = u := ⟨_, rfl⟩
    obtain ⟨fe, HFE⟩ : ∃ fe, Hid (fe = (lk Fd.mac s.F ee.mac).getD gF.z) := ⟨_, rfl⟩
    obtain ⟨b3, HBS3⟩ : ∃ b3, Hid (b3 = (lk Fd.mac s.F ee.mac).isSome) := ⟨_, rfl⟩
    have HI9 : Hid (IT y y.heap.size [⟨11, false, 10, fe.cells, 44⟩] y) := ⟨Chg.refl _ _, fun q hq e => by simp at hq; subst hq; cases e⟩
    go_upto_region 9 with fail
    refine wp_region_all' 13 (fun i => ([some 41, some 42, some 43, some 44, some 45, some 46, some 47, some 40, some 48, some 49, some 9, none, some 7] : List (Option Tmp)).getD i none) (FT [.inl (.pointer (some ⟨b.kb, 0, none⟩)), .inl (.pointer (some ⟨b.kb, 0, none⟩)), .inl (.pointer (some ⟨b.kb, 2, none⟩)), .inl (.pointer (some ⟨b.fb, 0, none⟩)), .inl (.pointer (some ⟨c8, 1, none⟩)), .inl (ee.mac.v), .inl (.tuple #[.agg fe.cells, .bool b3]), .inl (.tuple #[.agg fe.cells, .bool b3]), .inl (.agg fe.cells), .inl (.bool b3), .inr (#[.int .u8 0, .int .u8 0, .int .u8 0, .int .u8 0, .int .u8 0, .int .u8 0, .int .u32 0], 44), .inl (undef), .inl (.bool b3)] (y.heap.size) [⟨11, false, 10, fe.cells, 44⟩]) (IT y (y.heap.size) [⟨11, false, 10, fe.cells, 44⟩]) (RT [⟨11, false, 10, fe.cells, 44⟩]) (by kernel_rfl) (by kernel_rfl) (it_start (HI9.out.2)) (FT.keeps _ _ _ _ _ (by kernel_rfl)) ?_ ?_
    ·simp only [N.stepsAll]
     refine ⟨?_, ?_, ?_, ?_, ?_, ?_, ?_, ?_, ?_, ?_, ?_, ?_, ?_, trivial⟩
     ·intro a u vs hI hold hdep
      exact ft_still (ex_move (.tmp 0) _ rfl (hold 0 (dl_of (L := [some 41, some 42, some 43, some 44, some 45, some 46, some 47, some 40, some 48, some 49, some 9, none, some 7]) (by decide)))) rfl rfl rfl hI
     ·intro a u vs hI hold hdep
      have d0 := hdep ⟨0, .data⟩ (by simp) rfl
      exact ft_still (ex_nil ⟨b.kb, 0, none⟩ (.tmp 41) rfl (ft_dep d0.1 (d0.2 41 rfl) rfl)) rfl rfl rfl hI
     ·intro a u vs hI hold hdep
      have d1 := hdep ⟨1, .data⟩ (by simp) rfl
      exact ft_still (ex_field _ ⟨b.kb, 0, none⟩ (.tmp 42) 2 _ rfl (ft_dep d1.1 (d1.2 42 rfl) rfl) (by kernel_rfl)) rfl rfl rfl hI
     ·intro a u vs hI hold hdep
      have d2 := hdep ⟨2, .data⟩ (by simp) rfl
      exact ft_still (ex_load _ ⟨b.kb, 2, none⟩ (.tmp 43) _ rfl (ft_dep d2.1 (d2.2 43 rfl) rfl) (by have hc := (HKU.out.below (hI.below' nL rfl)).cells.2.2; simp [go_sem, hc])) rfl rfl rfl hI
     ·intro a u vs hI hold hdep
      exact ft_still (ex_field _ ⟨c8, 0, none⟩ (.tmp 8) 1 _ rfl (hold 8 (dl_of (L := [some 41, some 42, some 43, some 44, some 45, some 46, some 47, some 40, some 48, some 49, some 9, none, some 7]) (by decide))) (by kernel_rfl)) rfl rfl rfl hI
     ·intro a u vs hI hold hdep
      have d4 := hdep ⟨4, .data⟩ (by simp) rfl
      exact ft_still (ex_load _ ⟨c8, 1, none⟩ (.tmp 45) _ rfl (ft_dep d4.1 (d4.2 45 rfl) rfl) (load_at (cs := mcL ee.mac) (below_keeps (hI.below' nL rfl) HST.out (gsl HST.out)) rfl uM rfl (by kernel_rfl))) rfl rfl rfl hI
     ·intro a u vs hI hold hdep
      have d3 := hdep ⟨3, .data⟩ (by simp) rfl
      have d5 := hdep ⟨5, .data⟩ (by simp) rfl
      have e0 : a.eval (.tmp 44) = .pointer (some ⟨b.fb, 0, none⟩) := (ft_dep d3.1 (d3.2 44 rfl) rfl)
      have e1 : a.eval (.tmp 46) = ee.mac.v := (ft_dep d5.1 (d5.2 46 rfl) rfl)
      refine wp_call 26 _ _ rfl (enters_of Tryz.func26 (by kernel_rfl) rfl) #[.pointer (some ⟨b.fb, 0, none⟩), ee.mac.v] (by simp only [List.map_toArray, List.map_cons, List.map_nil, e0, e1]) ?_
      exact ft_ret rfl rfl rfl hI (by have h := getF_any u ee.mac (HKU.out.below (hI.below' nL rfl)).ft HMO.out; rw [<- HFE.out, <- HBS3.out] at h; exact h)
     ·intro a u vs hI hold hdep
      have d6 := hdep ⟨6, .data⟩ (by simp) rfl
      exact ft_still (ex_move (.tmp 47) _ rfl (ft_dep d6.1 (d6.2 47 rfl) rfl)) rfl rfl rfl hI
     ·intro a u vs hI hold hdep
      have d7 := hdep ⟨7, .data⟩ (by simp) rfl
      exact ft_still (ex_extract (.tmp 40) 0 _ _ rfl (ft_dep d7.1 (d7.2 40 rfl) rfl) rfl) rfl rfl rfl hI
     ·intro a u vs hI hold hdep
      have d7 := hdep ⟨7, .data⟩ (by simp) rfl
      exact ft_still (ex_extract (.tmp 40) 1 _ _ rfl (ft_dep d7.1 (d7.2 40 rfl) rfl) rfl) rfl rfl rfl hI
     ·intro a u vs hI hold hdep
      exact ft_alloc (ex_alloc u rfl (fun u => by kernel_rfl)) rfl rfl rfl hI nL
     ·intro a u vs hI hold hdep
      have d8 := hdep ⟨8, .data⟩ (by simp) rfl
      have dn := hdep ⟨10, .data⟩ (by simp) rfl
      obtain ⟨b, old, hx, hvk, hBg, hs, hg⟩ := ft_depN dn.1 (dn.2 9 rfl) rfl
      exact ft_new (k := 10) (row := fe.cells) (T := 44) rfl rfl (by decide) hx hvk hBg hs hg (ft_dep d8.1 (d8.2 48 rfl) rfl) (by simp) (fun q hq e => by simp only [List.mem_cons, List.not_mem_nil, or_false] at hq; rcases hq with rfl <;> first | rfl | (exact absurd e (by simp))) (by kernel_rfl) (one_cells fe) rfl (by kernel_rfl) hI
     ·intro a u vs hI hold hdep
      have d9 := hdep ⟨9, .data⟩ (by simp) rfl
      exact ft_still (ex_assign (.tmp 49) _ rfl (ft_dep d9.1 (d9.2 49 rfl) rfl)) rfl rfl rfl hI
    intro vs u hI hF
    have e0 : vs 0 = .pointer (some ⟨b.kb, 0, none⟩) := (hF 0 (by decide)).is rfl
    have e1 : vs 1 = .pointer (some ⟨b.kb, 0, none⟩) := (hF 1 (by decide)).is rfl
    have e2 : vs 2 = .pointer (some ⟨b.kb, 2, none⟩) := (hF 2 (by decide)).is rfl
    have e3 : vs 3 = .pointer (some ⟨b.fb, 0, none⟩) := (hF 3 (by decide)).is rfl
    have e4 : vs 4 = .pointer (some ⟨c8, 1, none⟩) := (hF 4 (by decide)).is rfl
    have e5 : vs 5 = ee.mac.v := (hF 5 (by decide)).is rfl
    have e6 : vs 6 = .tuple #[.agg fe.cells, .bool b3] := (hF 6 (by decide)).is rfl
    have e7 : vs 7 = .tuple #[.agg fe.cells, .bool b3] := (hF 7 (by decide)).is rfl
    have e8 : vs 8 = .agg fe.cells := (hF 8 (by decide)).is rfl
    have e9 : vs 9 = .bool b3 := (hF 9 (by decide)).is rfl
    obtain ⟨b10, e10, hb10⟩ := (hF 10 (by decide)).newB rfl
    have e11 : vs 11 = undef := (hF 11 (by decide)).is rfl
    have e12 : vs 12 = .bool b3 := (hF 12 (by decide)).is rfl
    obtain ⟨bb11, f11, st11⟩ := (hF 11 (by decide)).storedN (k := 10) (row := fe.cells) (T := 44) (by simp)
    obtain rfl : b10 = bb11 := by rw [e10] at f11; simpa using f11
    clear f11
    have hch := hI.1
    clear hF
    simp only [putsO, List.range, List.range.loop, List.foldr, if_true, List.getD_cons_zero, List.getD_cons_succ, e0, e1, e2, e3, e4, e5, e6, e7, e8, e9, e10, e12, Act.put, List.setIfInBounds_toArray, List.set_cons_zero, List.set_cons_succ]
    clear e0 e1 e2 e3 e4 e5 e6 e7 e8 e9 e10 e11 e12
    have HST2 := hid st11
    have hbu := hI.below' nL rfl
    have HB5 : Hid (Below w.heap.size w u) := HB4.out.trans (hbu.mono HB4.out.size)
    have HR5 : Hid (u.heap[w.heap.size]? = some (.cells hopZ 56)) := below_keeps hbu HR4.out (gsl HR4.out)
    have HP5 : Hid (u.heap[w2.heap.size]? = some (.cells #[.int .u32 (v.x : Int), .int .i64 v.n, .int .u32 (v.via : Int), .bool v.loc] 38)) := below_keeps hbu HPU.out (gsl HPU.out)
    have HN5 : Hid (u.heap[c8]? = some (.cells ee.cells 42)) := below_keeps hbu HST.out (gsl HST.out)
    clear hbu hch hI st11 hb10 HB4 HR4 HPU HST
    cases hfd : lk Fd.mac s.F ee.mac with
    | none =>
     obtain rfl : b3 = false := by rw [HBS3.out, hfd]; rfl
     have HEQ : Hid (hopR s (some v) = (hopZ, 92)) := by unfold Hid hopR; simp [HLOC.out, HNB.out, hfd]
     clear hfd
     go_wp2_with (first | (refine wpList_stB rfl 56 (.tmp 4) (.tmp 52) rfl w.heap.size #[.bool false, .int .u32 0, .int .i64 0, .int .u32 0, .int .u8 0, .int .u8 0, .int .u8 0, .int .u8 0, .int .u8 0, .int .u8 0, .int .u32 0] rfl rfl _ HR5.out (by kernel_rfl) rfl (by simp [Value.oneCell']) ?_; intro w9 hbt hr9) | fail)
     have u0 : w9.cell? ⟨w.heap.size, 0, none⟩ = some (.bool false) := crw hr9 rfl
     have u1 : w9.cell? ⟨w.heap.size, 1, none⟩ = some (.int .u32 0) := crw hr9 rfl
     have u2 : w9.cell? ⟨w.heap.size, 2, none⟩ = some (.int .i64 0) := crw hr9 rfl
     have u3 : w9.cell? ⟨w.heap.size, 3, none⟩ = some (.int .u32 0) := crw hr9 rfl
     have u4 : w9.cell? ⟨w.heap.size, 4, none⟩ = some (.int .u8 0) := crw hr9 rfl
     have u5 : w9.cell? ⟨w.heap.size, 5, none⟩ = some (.int .u8 0) := crw hr9 rfl
     have u6 : w9.cell? ⟨w.heap.size, 6, none⟩ = some (.int .u8 0) := crw hr9 rfl
     have u7 : w9.cell? ⟨w.heap.size, 7, none⟩ = some (.int .u8 0) := crw hr9 rfl
     have u8 : w9.cell? ⟨w.heap.size, 8, none⟩ = some (.int .u8 0) := crw hr9 rfl
     have u9 : w9.cell? ⟨w.heap.size, 9, none⟩ = some (.int .u8 0) := crw hr9 rfl
     have u10 : w9.cell? ⟨w.heap.size, 10, none⟩ = some (.int .u32 0) := crw hr9 rfl
     have hb9 : Below w.heap.size w w9 := ⟨hbt.os.trans HB5.out.os, hbt.tape.trans HB5.out.tape, hbt.output.trans HB5.out.output, Nat.le_trans HB5.out.size hbt.size, fun k hk => (hbt.block k (Nat.lt_of_lt_of_le hk HB5.out.size) (by omega)).trans (HB5.out.block k hk)⟩
     exact bodyPost_ret (v := .tuple #[.agg #[.bool false, .int .u32 0, .int .i64 0, .int .u32 0, .int .u8 0, .int .u8 0, .int .u8 0, .int .u8 0, .int .u8 0, .int .u8 0, .int .u32 0], .int .i64 92]) (by simp [results, Tryz.results11, go_sem, u0, u1, u2, u3, u4, u5, u6, u7, u8, u9, u10]) rfl ⟨_, HLR.out, by rw [HEQ.out]; rfl, hb9⟩
    | some fd =>
     obtain rfl : b3 = true := by rw [HBS3.out, hfd]; rfl
     obtain rfl : fe = fd := by rw [HFE.out, hfd]; rfl
     have HEQ : Hid (hopR s (some v) = (hopT v ee fe, 0)) := by unfold Hid hopR; simp [HLOC.out, HNB.out, hfd]
     have p0 : u.cell? ⟨w2.heap.size, 0, none⟩ = some (.int .u32 (v.x : Int)) := crw HP5.out rfl
     have p1 : u.cell? ⟨w2.heap.size, 1, none⟩ = some (.int .i64 v.n) := crw HP5.out rfl
     have p2 : u.cell? ⟨w2.heap.size, 2, none⟩ = some (.int .u32 (v.via : Int)) := crw HP5.out rfl
     have f6 : u.cell? ⟨b10, 6, none⟩ = some (.int .u32 (fe.dest : Int)) := crw HST2.out rfl
     have HLM : Hid ((Instr.loadAt 40 (.pointer (some ⟨c8, 1, none⟩))).run Tryz.prog u = .ok (.agg #[.int .u8 (ee.mac.b0 : Int), .int .u8 (ee.mac.b1 : Int), .int .u8 (ee.mac.b2 : Int), .int .u8 (ee.mac.b3 : Int), .int .u8 (ee.mac.b4 : Int), .int .u8 (ee.mac.b5 : Int)]) u) := load_at (cs := mcL ee.mac) HN5.out rfl uM rfl (by kernel_rfl)
     clear hfd
     go_wp2_with (first | (refine wpList_ld 40 ⟨c8, 1, none⟩ (.tmp 57) rfl rfl HLM.out rfl ?_) | (refine wpList_stB rfl 56 (.tmp 4) (.tmp 61) rfl w.heap.size #[.bool false, .int .u32 (v.x : Int), .int .i64 v.n, .int .u32 (v.via : Int), .int .u8 (ee.mac.b0 : Int), .int .u8 (ee.mac.b1 : Int), .int .u8 (ee.mac.b2 : Int), .int .u8 (ee.mac.b3 : Int), .int .u8 (ee.mac.b4 : Int), .int .u8 (ee.mac.b5 : Int), .int .u32 (fe.dest : Int)] rfl rfl _ HR5.out (by kernel_rfl) rfl (by simp [Value.oneCell']) ?_; intro w9 hbt hr9) | fail)
     have u0 : w9.cell? ⟨w.heap.size, 0, none⟩ = some (.bool false) := crw hr9 rfl
     have u1 : w9.cell? ⟨w.heap.size, 1, none⟩ = some (.int .u32 (v.x : Int)) := crw hr9 rfl
     have u2 : w9.cell? ⟨w.heap.size, 2, none⟩ = some (.int .i64 v.n) := crw hr9 rfl
     have u3 : w9.cell? ⟨w.heap.size, 3, none⟩ = some (.int .u32 (v.via : Int)) := crw hr9 rfl
     have u4 : w9.cell? ⟨w.heap.size, 4, none⟩ = some (.int .u8 (ee.mac.b0 : Int)) := crw hr9 rfl
     have u5 : w9.cell? ⟨w.heap.size, 5, none⟩ = some (.int .u8 (ee.mac.b1 : Int)) := crw hr9 rfl
     have u6 : w9.cell? ⟨w.heap.size, 6, none⟩ = some (.int .u8 (ee.mac.b2 : Int)) := crw hr9 rfl
     have u7 : w9.cell? ⟨w.heap.size, 7, none⟩ = some (.int .u8 (ee.mac.b3 : Int)) := crw hr9 rfl
     have u8 : w9.cell? ⟨w.heap.size, 8, none⟩ = some (.int .u8 (ee.mac.b4 : Int)) := crw hr9 rfl
     have u9 : w9.cell? ⟨w.heap.size, 9, none⟩ = some (.int .u8 (ee.mac.b5 : Int)) := crw hr9 rfl
     have u10 : w9.cell? ⟨w.heap.size, 10, none⟩ = some (.int .u32 (fe.dest : Int)) := crw hr9 rfl
     have hb9 : Below w.heap.size w w9 := ⟨hbt.os.trans HB5.out.os, hbt.tape.trans HB5.out.tape, hbt.output.trans HB5.out.output, Nat.le_trans HB5.out.size hbt.size, fun k hk => (hbt.block k (Nat.lt_of_lt_of_le hk HB5.out.size) (by omega)).trans (HB5.out.block k hk)⟩
     exact bodyPost_ret (v := .tuple #[.agg #[.bool false, .int .u32 (v.x : Int), .int .i64 v.n, .int .u32 (v.via : Int), .int .u8 (ee.mac.b0 : Int), .int .u8 (ee.mac.b1 : Int), .int .u8 (ee.mac.b2 : Int), .int .u8 (ee.mac.b3 : Int), .int .u8 (ee.mac.b4 : Int), .int .u8 (ee.mac.b5 : Int), .int .u32 (fe.dest : Int)], .int .i64 0]) (by simp [results, Tryz.results11, go_sem, u0, u1, u2, u3, u4, u5, u6, u7, u8, u9, u10]) rfl ⟨_, HLR.out, by rw [HEQ.out]; rfl, hb9⟩
end Go.Proofs.YtpdnnikkaojnkaaGreat.Rt
