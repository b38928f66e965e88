import Derived.Test.YtpdnnikkaojnkaaGreatYQM
namespace Go.Proofs.YtpdnnikkaojnkaaGreat.Rt
open Go.Proofs.YtpdnnikkaojnkaaGreat Go.ChangeShapes Go.WideShapes Go.ChangeAt Go.RowKit Go.Maps Tri N
set_option maxHeartbeats 8000000
set_option maxRecDepth 100000
def FWQ (l : List Value) (G : Value -> World -> Prop) (i : Nat) (v : Value) (w : World) : Prop := (i = 14 \/ i = 17 -> G v w) /\ (i ≠ 14 -> i ≠ 17 -> ∀ x, l[i]? = some x -> v = x)
theorem FWQ.keeps {l : List Value} {G : Value -> World -> Prop} (hG : ∀ v w w', G v w -> Below w.heap.size w w' -> G v w') {i : Nat} {v : Value} {w w' : World} (h : FWQ l G i v w) (hb : Below w.heap.size w w') : FWQ l G i v w' := ⟨fun e => hG _ _ _ (h.1 e) hb, h.2⟩
theorem fw_at {l : List Value} {G : Value -> World -> Prop} {i : Nat} {x u v : Value} {w : World} (h : x = u /\ FWQ l G i u w) (hi : i ≠ 14) (hj : i ≠ 17) (hl : l[i]? = some v) : x = v := h.1.trans (h.2.2 hi hj v hl)
theorem fw_mk {l : List Value} {G : Value -> World -> Prop} {i : Nat} {v : Value} {w : World} (hi : i ≠ 14) (hj : i ≠ 17) (hl : l[i]? = some v) : FWQ l G i v w := ⟨fun e => by rcases e with e | e; exact absurd e hi; exact absurd e hj, fun _ _ _ hx => Option.some.inj (hl.symm.trans hx)⟩
theorem exq_eqC {o : Oper} {a : Act} {w : World} (x : Operand) (c : Int) (ho : o.op = .binOp .eql 3 x (.const (.int .i64 c)) 3) (hx : a.eval x = .int .i64 c) : (execOp a.eval o).run Tryz.prog w = .ok (.value (.bool true)) w := by
 simp only [execOp, ho, hx]
 simp [go_sem, eqGuard]
theorem framed_true {w0 : World} {N : Nat} {w : World} {k : Nat} {s : Ks} (h : K1 w0 N w k s) (o : Opv) (ho : o.Ok) :
  Calls Tryz.prog 14 #[.pointer (some ⟨k, 0, none⟩), .agg o.cells, .agg #[.int .i64 (s.cr : Int), .int .i64 (s.cn : Int), .int .i64 (s.cf : Int)]] w fun e w' => e = .returned (.bool true) /\ K1 w0 N w' k (oneS s o) := by
 obtain ⟨w1, HW1⟩ : ∃ w1, Hid (w1 = (w.alloc (.cells o.cells 46)).alloc (.cells #[.int .i64 (s.cr : Int), .int .i64 (s.cn : Int), .int .i64 (s.cf : Int)] 23)) := ⟨_, rfl⟩
 obtain ⟨r0, r1, hb1⟩ : w1.heap[w.heap.size]? = some (.cells o.cells 46) /\ w1.heap[w.heap.size + 1]? = some (.cells #[.int .i64 (s.cr : Int), .int .i64 (s.cn : Int), .int .i64 (s.cf : Int)] 23) /\ Below w.heap.size w w1 := by rw [HW1.out]; exact two_bx w _ _
 obtain ⟨bo, HBO⟩ : ∃ bo, Hid (bo = w.heap.size) := ⟨_, rfl⟩
 obtain ⟨bc, HBC⟩ : ∃ bc, Hid (bc = w.heap.size + 1) := ⟨_, rfl⟩
 have hfo : Fo w0 N w1 k s bo bc o s.cr s.cn s.cf := ⟨h.below hb1, by rw [HBO.out]; exact r0, by rw [HBC.out]; exact r1, by rw [HBO.out]; exact h.hi, by rw [HBC.out]; exact Nat.le_trans h.hi (Nat.le_succ _)⟩
 have HFO := hid hfo
 have HOK := hid h.ok
 have HO := hid ho
 have HDA := hid hfo.k.dump
 unfold Opv.cells at HW1
 unfold Opv.cells
 clear h r0 r1 hb1 hfo ho
 go_enter Tryz.func14, Tryz.ntmps14
 go_upto_region 1 with fail
 rw [<- HW1.out, <- HBC.out, <- HBO.out]
 clear HW1 HBO HBC
 go_wp2_with fail
 refine HDA.out.mono ?_
 rintro _ w2 ⟨_, rfl, hd2⟩
 obtain ⟨x1, y1, z1, A, B, C, rfl, hl3, o1, o2, o3, h1, hb2⟩ := dmp_db hd2
 have HL3 := hid hl3
 have H1 := hid h1
 have hN1 := HFO.out.k.hi
 have HX2 : Hid (Own kR w2 N x1 A /\ Own kN w2 N y1 B /\ Own kF w2 N z1 C) := ⟨o1.low hN1, o2.low hN1, o3.low hN1⟩
 have HF2 := hid (HFO.out.below hb2)
 clear hd2 hl3 o1 o2 o3 h1 hb2 hN1 HDA HFO
 go_upto_region 2 with (first | (refine wpList_alB rfl 51 tbZ rfl alloc_tb ?_; intro w3 hb3 hs3 hr3) | (refine wpList_stB rfl 51 (.tmp 7) (.tmp 12) rfl w2.heap.size #[x1, y1, z1] rfl rfl _ hr3 (by kernel_rfl) rfl (by simp [H1.out.1, H1.out.2.1, H1.out.2.2]) ?_; intro w4 hbt4 hr4) | fail)
 have hb4 : Below w2.heap.size w2 w4 := ⟨hbt4.os.trans hb3.os, hbt4.tape.trans hb3.tape, hbt4.output.trans hb3.output, Nat.le_trans hb3.size hbt4.size, fun k hk => (hbt4.block k (by omega) (by omega)).trans (hb3.block k hk)⟩
 obtain ⟨bd, HBD⟩ : ∃ bd, Hid (bd = w2.heap.size) := ⟨_, rfl⟩
 rw [<- HBD.out] at hr4 ⊢
 have HF4 := hid (HF2.out.below hb4)
 have HD4 : Hid (Db N w4 bd x1 y1 z1 A B C) := ⟨hr4, by rw [HBD.out]; exact HF2.out.k.hi, HX2.out.1.below hb4, HX2.out.2.1.below hb4, HX2.out.2.2.below hb4⟩
 have HLO := hid HF4.out.op
 clear hb3 hs3 hr3 hbt4 hr4 hb4 HBD HX2 HF2 H1
 go_wp2_with (first | (refine wpList_ld 46 ⟨bo, 0, none⟩ (.tmp 4) rfl rfl HLO.out rfl ?_) | (go_simp; refine wpList_bsO rfl o (.tmp 15) rfl rfl ?_; intro w5 hb5 hr5) | fail)
 refine (HF4.out.k.oneB hb5 hr5 HO.out).mono ?_
 rintro _ w6 ⟨rfl, hk6, hx6⟩
 have HF6 : Hid (Fo w0 N w6 k (oneS s o) bo bc o s.cr s.cn s.cf) := ⟨hk6, (hx6 bo (gsl HF4.out.ro) HF4.out.lo.1).trans HF4.out.ro, (hx6 bc (gsl HF4.out.rc) HF4.out.lo.2).trans HF4.out.rc, HF4.out.lo⟩
 have HD6 := hid (HD4.out.kept hx6)
 have HDA := hid hk6.dump
 obtain ⟨q1, HQ1⟩ : ∃ q1 : Int, Hid (q1 = (((if oneE s o = 0 then 1 else 0 : Nat)) : Int)) := ⟨_, rfl⟩
 obtain ⟨q2, HQ2⟩ : ∃ q2 : Int, Hid (q2 = oneE s o) := ⟨_, rfl⟩
 rw [<- HQ1.out, <- HQ2.out]
 clear hk6 hx6 hb5 hr5 HF4 HD4 HLO
 go_wp2_with fail
 refine HDA.out.mono ?_
 rintro _ w7 ⟨_, rfl, hd7⟩
 obtain ⟨x2, y2, z2, A', B', C', rfl, hl3, o1, o2, o3, h1, hb7⟩ := dmp_db hd7
 have HL4 := hid hl3
 have H1 := hid h1
 have hN1 := HF6.out.k.hi
 have HX7 : Hid (Own kR w7 N x2 A' /\ Own kN w7 N y2 B' /\ Own kF w7 N z2 C') := ⟨o1.low hN1, o2.low hN1, o3.low hN1⟩
 have HF7 := hid (HF6.out.below hb7)
 have HD7 := hid (HD6.out.below hb7)
 clear hd7 hl3 o1 o2 o3 h1 hb7 hN1 HDA HF6 HD6
 go_upto_region 4 with (first | (refine wpList_alB rfl 51 tbZ rfl alloc_tb ?_; intro w8 hb8 hs8 hr8) | (refine wpList_stB rfl 51 (.tmp 10) (.tmp 21) rfl w7.heap.size #[x2, y2, z2] rfl rfl _ hr8 (by kernel_rfl) rfl (by simp [H1.out.1, H1.out.2.1, H1.out.2.2]) ?_; intro w9 hbt9 hr9) | fail)
 have hb9 : Below w7.heap.size w7 w9 := ⟨hbt9.os.trans hb8.os, hbt9.tape.trans hb8.tape, hbt9.output.trans hb8.output, Nat.le_trans hb8.size hbt9.size, fun k hk => (hbt9.block k (by omega) (by omega)).trans (hb8.block k hk)⟩
 obtain ⟨bn, HBN⟩ : ∃ bn, Hid (bn = w7.heap.size) := ⟨_, rfl⟩
 rw [<- HBN.out] at hr9 ⊢
 have HF9 := hid (HF7.out.below hb9)
 have HD9 := hid (HD7.out.below hb9)
 have HE9 : Hid (Db N w9 bn x2 y2 z2 A' B' C') := ⟨hr9, by rw [HBN.out]; exact HF7.out.k.hi, HX7.out.1.below hb9, HX7.out.2.1.below hb9, HX7.out.2.2.below hb9⟩
 have HLO := hid HF9.out.op
 have HOK' := hid (HOK.out.one HO.out)
 have HCP : Hid ((oneS s o).cr = s.cr /\ (oneS s o).cn = s.cn /\ (oneS s o).cf = s.cf) := one_caps s o
 have hln := ls3_len HOK.out HL3.out
 have hln' := ls3_len HOK'.out HL4.out
 have HLA : Hid ((A.length <= 256 /\ B.length <= 256 /\ C.length <= 256) /\ (A'.length <= s.cr /\ s.cr <= 256) /\ (B'.length <= s.cn /\ s.cn <= 256) /\ (C'.length <= s.cf /\ s.cf <= 256)) := by
  have a1 := HOK.out.rl; have a2 := HOK.out.nl; have a3 := HOK.out.fl
  have b1 := HOK'.out.rl; have b2 := HOK'.out.nl; have b3 := HOK'.out.fl
  rw [HCP.out.1] at b1
  rw [HCP.out.2.1] at b2
  rw [HCP.out.2.2] at b3
  exact ⟨⟨by omega, by omega, by omega⟩, ⟨by omega, by omega⟩, ⟨by omega, by omega⟩, ⟨by omega, by omega⟩⟩
 have HMA := hid (may_any w9 o HO.out)
 clear hb8 hs8 hr8 hbt9 hr9 hb9 HBN HX7 HF7 HD7 H1 hln hln'
 go_wp2_with (first | (refine wpList_ld 46 ⟨bo, 0, none⟩ (.tmp 4) rfl rfl HLO.out rfl ?_) | fail)
 refine HMA.out.mono ?_
 rintro _ w10 ⟨rfl, hb10⟩
 have HF10 := hid (HF9.out.below hb10)
 have HD10 := hid (HD9.out.below hb10)
 have HE10 := hid (HE9.out.below hb10)
 clear hb10 HMA HF9 HD9 HE9 HLO
 cases hmay : mayB o with
 | false =>
  obtain ⟨e1, e2⟩ := may_no (s := s) hmay
  have hq1 : q1 = 0 := by rw [HQ1.out, e1]; rfl
  have hq2 : q2 = 93 := HQ2.out.trans e1
  rw [hq1, hq2]
  have hl4 := HL4.out
  rw [e2] at hl4
  have HEE := hid (HE10.out.same s hl4 HL3.out)
  have HDS := hid (gd_dumps HD10.out.gd HEE.out.gd HLA.out.1.1 HLA.out.1.2.1 HLA.out.1.2.2)
  have HLD1 := hid HD10.out.load
  have HLD2 := hid HE10.out.load
  clear hq1 hq2 HQ1 HQ2 hl4 HEE hmay e1 e2
  go_wp2_with (first | (refine wpList_ld 51 ⟨bd, 0, none⟩ (.tmp 7) rfl rfl HLD1.out rfl ?_) | (refine wpList_ld 51 ⟨bn, 0, none⟩ (.tmp 10) rfl rfl HLD2.out rfl ?_) | fail)
  refine HDS.out.mono ?_
  rintro _ w11 ⟨rfl, hb11⟩
  have HKE := hid (HF10.out.below hb11).k
  clear hb11 HDS HLD1 HLD2
  go_wp2_with fail
  go_ret
  exact ⟨rfl, HKE.out⟩
 | true =>
  have HMY := hid hmay
  have HFU := hid (full_any w10 x1 y1 z1 s.cr s.cn s.cf o (HD10.out.x.low (Nat.zero_le _)) (HD10.out.y.low (Nat.zero_le _)) (HD10.out.z.low (Nat.zero_le _)) HLA.out.1.1 HLA.out.1.2.1 HLA.out.1.2.2)
  have HLO := hid HF10.out.op
  have HLC := hid HF10.out.cap
  have HLD1 := hid HD10.out.load
  clear hmay
  go_wp2_with (first | (refine wpList_ld 46 ⟨bo, 0, none⟩ (.tmp 4) rfl rfl HLO.out rfl ?_) | (refine wpList_ld 23 ⟨bc, 0, none⟩ (.tmp 5) rfl rfl HLC.out rfl ?_) | (refine wpList_ld 51 ⟨bd, 0, none⟩ (.tmp 7) rfl rfl HLD1.out rfl ?_) | fail)
  refine HFU.out.mono ?_
  rintro _ w11 ⟨rfl, hb11⟩
  have HF11 := hid (HF10.out.below hb11)
  have HD11 := hid (HD10.out.below hb11)
  have HE11 := hid (HE10.out.below hb11)
  clear hb11 HFU HF10 HD10 HE10 HLO HLC HLD1
  cases hfull : fullB A B C s.cr s.cn s.cf o with
  | true =>
   obtain ⟨e1, e2⟩ := full_yes HOK.out HL3.out HMY.out hfull
   have hq1 : q1 = 0 := by rw [HQ1.out, e1]; rfl
   have hq2 : q2 = 4 := HQ2.out.trans e1
   rw [hq1, hq2]
   have hl4 := HL4.out
   rw [e2] at hl4
   have HEE := hid (HE11.out.same s hl4 HL3.out)
   have HDS := hid (gd_dumps HD11.out.gd HEE.out.gd HLA.out.1.1 HLA.out.1.2.1 HLA.out.1.2.2)
   have HLD1 := hid HD11.out.load
   have HLD2 := hid HE11.out.load
   clear hq1 hq2 HQ1 HQ2 hl4 HEE hfull e1 e2
   go_wp2_with (first | (refine wpList_ld 51 ⟨bd, 0, none⟩ (.tmp 7) rfl rfl HLD1.out rfl ?_) | (refine wpList_ld 51 ⟨bn, 0, none⟩ (.tmp 10) rfl rfl HLD2.out rfl ?_) | fail)
   refine HDS.out.mono ?_
   rintro _ w12 ⟨rfl, hb12⟩
   have HKE := hid (HF11.out.below hb12).k
   clear hb12 HDS HLD1 HLD2
   go_wp2_with fail
   go_ret
   exact ⟨rfl, HKE.out⟩
  | false =>
   have e1 := full_no HOK.out HL3.out HMY.out hfull
   have hq1 : q1 = 1 := by rw [HQ1.out, e1]; rfl
   have hq2 : q2 = 0 := HQ2.out.trans e1
   rw [hq1, hq2]
   obtain ⟨hhas, f1, f2, f3⟩ := one_done HOK.out HO.out e1 HL3.out HL4.out
   have HHS := hid hhas
   have HFI : Hid (A'.filter (fR o) = A.filter (fR o) /\ B'.filter (fN o) = B.filter (fN o) /\ C'.filter (fF o) = C.filter (fF o)) := ⟨f1, f2, f3⟩
   clear hq1 hq2 HQ1 HQ2 hfull e1 hhas f1 f2 f3
   go_upto_region 8 with fail
   have HLO : Hid (∀ u : World, Below w11.heap.size w11 u -> (Instr.loadAt 46 (.pointer (some ⟨bo, 0, none⟩))).run Tryz.prog u = .ok (.agg o.cells) u) := fun u hu => (HF11.out.below hu).op
   have HLC : Hid (∀ u : World, Below w11.heap.size w11 u -> (Instr.loadAt 23 (.pointer (some ⟨bc, 0, none⟩))).run Tryz.prog u = .ok (.agg #[.int .i64 (s.cr : Int), .int .i64 (s.cn : Int), .int .i64 (s.cf : Int)]) u) := fun u hu => (HF11.out.below hu).cap
   have HL1 : Hid (∀ u : World, Below w11.heap.size w11 u -> (Instr.loadAt 51 (.pointer (some ⟨bd, 0, none⟩))).run Tryz.prog u = .ok (.agg #[x1, y1, z1]) u) := fun u hu => (HD11.out.below hu).load
   have HL2 : Hid (∀ u : World, Below w11.heap.size w11 u -> (Instr.loadAt 51 (.pointer (some ⟨bn, 0, none⟩))).run Tryz.prog u = .ok (.agg #[x2, y2, z2]) u) := fun u hu => (HE11.out.below hu).load
   have HCH : Hid (∀ u : World, Below w11.heap.size w11 u -> Calls Tryz.prog 32 #[.agg #[x2, y2, z2], .agg o.cells] u fun e u' => e = .returned (.bool true) /\ Below u.heap.size u u') := fun u hu => by
    have hd := HE11.out.below hu
    exact has_true u x2 y2 z2 o (hd.x.low (Nat.zero_le _)) (hd.y.low (Nat.zero_le _)) (hd.z.low (Nat.zero_le _)) (Nat.le_trans HLA.out.2.1.1 HLA.out.2.1.2) (Nat.le_trans HLA.out.2.2.1.1 HLA.out.2.2.1.2) (Nat.le_trans HLA.out.2.2.2.1 HLA.out.2.2.2.2) HHS.out
   have HW1 : Hid (∀ u : World, Below w11.heap.size w11 u -> Calls Tryz.prog 33 #[.agg #[x1, y1, z1], .agg o.cells] u fun e u' => ∃ v, e = .returned v /\ Gd (A.filter (fR o)) (B.filter (fN o)) (C.filter (fF o)) v u' /\ Below u.heap.size u u') := fun u hu => by
    have hd := HD11.out.below hu
    exact without_any u x1 y1 z1 o (hd.x.low (Nat.zero_le _)) (hd.y.low (Nat.zero_le _)) (hd.z.low (Nat.zero_le _)) HLA.out.1.1 HLA.out.1.2.1 HLA.out.1.2.2
   have HW2 : Hid (∀ u : World, Below w11.heap.size w11 u -> Calls Tryz.prog 33 #[.agg #[x2, y2, z2], .agg o.cells] u fun e u' => ∃ v, e = .returned v /\ Gd (A.filter (fR o)) (B.filter (fN o)) (C.filter (fF o)) v u' /\ Below u.heap.size u u') := fun u hu => by
    have hd := HE11.out.below hu
    rw [<- HFI.out.1, <- HFI.out.2.1, <- HFI.out.2.2]
    exact without_any u x2 y2 z2 o (hd.x.low (Nat.zero_le _)) (hd.y.low (Nat.zero_le _)) (hd.z.low (Nat.zero_le _)) (Nat.le_trans HLA.out.2.1.1 HLA.out.2.1.2) (Nat.le_trans HLA.out.2.2.1.1 HLA.out.2.2.1.2) (Nat.le_trans HLA.out.2.2.2.1 HLA.out.2.2.2.2)
   have HRI : Hid (∀ u : World, Below w11.heap.size w11 u -> Calls Tryz.prog 34 #[.agg #[x2, y2, z2], .agg #[.int .i64 (s.cr : Int), .int .i64 (s.cn : Int), .int .i64 (s.cf : Int)]] u fun e u' => e = .returned (.bool true) /\ Below u.heap.size u u') := fun u hu => by
    have hd := HE11.out.below hu
    exact rising_true u x2 y2 z2 s.cr s.cn s.cf (hd.x.low (Nat.zero_le _)) (hd.y.low (Nat.zero_le _)) (hd.z.low (Nat.zero_le _)) HLA.out.2.1 HLA.out.2.2.1 HLA.out.2.2.2 HL4.out.r.1 HL4.out.n.1 HL4.out.f.1 (fun v hv => HOK'.out.rk v ((HL4.out.r.2 v).1 hv)) (fun v hv => HOK'.out.fk v ((HL4.out.f.2 v).1 hv))
   have HFL : Hid ((A.filter (fR o)).length <= 256 /\ (B.filter (fN o)).length <= 256 /\ (C.filter (fF o)).length <= 256) := ⟨Nat.le_trans (List.length_filter_le _ _) HLA.out.1.1, Nat.le_trans (List.length_filter_le _ _) HLA.out.1.2.1, Nat.le_trans (List.length_filter_le _ _) HLA.out.1.2.2⟩
   refine NO.wp_region_guarded' 25 (fun i => 51 + i) (FWQ [.int .i64 1, .bool true, .bool true, .int .i64 0, .bool true, .bool true, .bool true, .agg #[x2, y2, z2], .agg o.cells, .bool true, .bool true, .bool true, .agg #[x1, y1, z1], .agg o.cells, undef, .agg #[x2, y2, z2], .agg o.cells, undef, .bool true, .bool true, .bool true, .agg #[x2, y2, z2], .agg #[.int .i64 (s.cr : Int), .int .i64 (s.cn : Int), .int .i64 (s.cf : Int)], .bool true, .bool true] (Gd (A.filter (fR o)) (B.filter (fN o)) (C.filter (fF o)))) (fun u => Below w11.heap.size w11 u) (fun _ u u' => Below u.heap.size u u') (by kernel_rfl) (by kernel_rfl) ⟨rfl, rfl, rfl, nL, fun _ _ => rfl⟩ (fun i _ v u u' _ hf _ hr => FWQ.keeps (fun _ _ _ h hb => h.below hb) hf hr) ?_ ?_
   ·simp only [List.take_succ_cons, List.take_zero, NO.stepsG]
    refine ⟨?_, ?_, ?_, ?_, ?_, ?_, ?_, ?_, ?_, ?_, ?_, ?_, ?_, ?_, ?_, ?_, ?_, ?_, ?_, ?_, ?_, ?_, ?_, ?_, ?_, trivial⟩
    ·intro a u vs hb hold hdep
     exact NO.opAt_plain rfl (wp_val (ex_move (.tmp 8) _ rfl (hold 8 (fun j hj => low (by decide)))) ⟨_, rfl, fw_mk (by decide) (by decide) rfl, hb, bR⟩)
    ·intro a u vs hb hold hdep
     exact NO.opAt_plain rfl (wp_val (exq_eqC (.tmp 51) 1 rfl (fw_at (hdep ⟨0, .data⟩ (by simp) rfl (by decide)) (by decide) (by decide) rfl)) ⟨_, rfl, fw_mk (by decide) (by decide) rfl, hb, bR⟩)
    ·intro a u vs hb hold hdep
     exact NO.opAt_plain rfl (wp_val (ex_move (.tmp 52) _ rfl (fw_at (hdep ⟨1, .data⟩ (by simp) rfl (by decide)) (by decide) (by decide) rfl)) ⟨_, rfl, fw_mk (by decide) (by decide) rfl, hb, bR⟩)
    ·intro a u vs hb hold hdep
     exact NO.opAt_go (j := 2) (t := 53) (b := true) rfl rfl (fw_at (hdep ⟨2, .guard⟩ (by simp) rfl (by decide)) (by decide) (by decide) rfl) (wp_val (ex_move (.tmp 9) _ rfl (hold 9 (fun j hj => low (by decide)))) ⟨_, rfl, fw_mk (by decide) (by decide) rfl, hb, bR⟩)
    ·intro a u vs hb hold hdep
     exact NO.opAt_go (j := 2) (t := 53) (b := true) rfl rfl (fw_at (hdep ⟨2, .guard⟩ (by simp) rfl (by decide)) (by decide) (by decide) rfl) (wp_val (exq_eql0 (.tmp 54) rfl (fw_at (hdep ⟨3, .data⟩ (by simp) rfl (by decide)) (by decide) (by decide) rfl)) ⟨_, rfl, fw_mk (by decide) (by decide) rfl, hb, bR⟩)
    ·intro a u vs hb hold hdep
     exact NO.opAt_plain rfl (wp_val (exq_pickT (.tmp 53) (.tmp 55) _ rfl (fw_at (hdep ⟨2, .data⟩ (by simp) rfl (by decide)) (by decide) (by decide) rfl) (fw_at (hdep ⟨4, .data⟩ (by simp) rfl (by decide)) (by decide) (by decide) rfl)) ⟨_, rfl, fw_mk (by decide) (by decide) rfl, hb, bR⟩)
    ·intro a u vs hb hold hdep
     exact NO.opAt_plain rfl (wp_val (ex_move (.tmp 56) _ rfl (fw_at (hdep ⟨5, .data⟩ (by simp) rfl (by decide)) (by decide) (by decide) rfl)) ⟨_, rfl, fw_mk (by decide) (by decide) rfl, hb, bR⟩)
    ·intro a u vs hb hold hdep
     exact NO.opAt_go (j := 6) (t := 57) (b := true) rfl rfl (fw_at (hdep ⟨6, .guard⟩ (by simp) rfl (by decide)) (by decide) (by decide) rfl) (wp_val (ex_load _ ⟨bn, 0, none⟩ (.tmp 10) _ rfl (hold 10 (fun j hj => low (by decide))) (HL2.out u hb)) ⟨_, rfl, fw_mk (by decide) (by decide) rfl, hb, bR⟩)
    ·intro a u vs hb hold hdep
     exact NO.opAt_go (j := 6) (t := 57) (b := true) rfl rfl (fw_at (hdep ⟨6, .guard⟩ (by simp) rfl (by decide)) (by decide) (by decide) rfl) (wp_val (ex_load _ ⟨bo, 0, none⟩ (.tmp 4) _ rfl (hold 4 (fun j hj => low (by decide))) (HLO.out u hb)) ⟨_, rfl, fw_mk (by decide) (by decide) rfl, hb, bR⟩)
    ·intro a u vs hb hold hdep
     have e0 : a.eval (.tmp 58) = .agg #[x2, y2, z2] := (fw_at (hdep ⟨7, .data⟩ (by simp) rfl (by decide)) (by decide) (by decide) rfl)
     have e1 : a.eval (.tmp 59) = .agg o.cells := (fw_at (hdep ⟨8, .data⟩ (by simp) rfl (by decide)) (by decide) (by decide) rfl)
     refine NO.opAt_go (j := 6) (t := 57) (b := true) rfl rfl (fw_at (hdep ⟨6, .guard⟩ (by simp) rfl (by decide)) (by decide) (by decide) rfl) ?_
     refine wp_call 32 _ _ rfl (enters_of Tryz.func32 (by kernel_rfl) rfl) #[.agg #[x2, y2, z2], .agg o.cells] (by simp only [List.map_toArray, List.map_cons, List.map_nil, e0, e1]) ?_
     refine (HCH.out u hb).mono ?_
     rintro _ u' ⟨rfl, hb'⟩
     exact ⟨_, rfl, _, rfl, fw_mk (by decide) (by decide) rfl, hb.trans (hb'.mono hb.size), hb'⟩
    ·intro a u vs hb hold hdep
     exact NO.opAt_plain rfl (wp_val (exq_pickT (.tmp 57) (.tmp 60) _ rfl (fw_at (hdep ⟨6, .data⟩ (by simp) rfl (by decide)) (by decide) (by decide) rfl) (fw_at (hdep ⟨9, .data⟩ (by simp) rfl (by decide)) (by decide) (by decide) rfl)) ⟨_, rfl, fw_mk (by decide) (by decide) rfl, hb, bR⟩)
    ·intro a u vs hb hold hdep
     exact NO.opAt_plain rfl (wp_val (ex_move (.tmp 61) _ rfl (fw_at (hdep ⟨10, .data⟩ (by simp) rfl (by decide)) (by decide) (by decide) rfl)) ⟨_, rfl, fw_mk (by decide) (by decide) rfl, hb, bR⟩)
    ·intro a u vs hb hold hdep
     exact NO.opAt_go (j := 11) (t := 62) (b := true) rfl rfl (fw_at (hdep ⟨11, .guard⟩ (by simp) rfl (by decide)) (by decide) (by decide) rfl) (wp_val (ex_load _ ⟨bd, 0, none⟩ (.tmp 7) _ rfl (hold 7 (fun j hj => low (by decide))) (HL1.out u hb)) ⟨_, rfl, fw_mk (by decide) (by decide) rfl, hb, bR⟩)
    ·intro a u vs hb hold hdep
     exact NO.opAt_go (j := 11) (t := 62) (b := true) rfl rfl (fw_at (hdep ⟨11, .guard⟩ (by simp) rfl (by decide)) (by decide) (by decide) rfl) (wp_val (ex_load _ ⟨bo, 0, none⟩ (.tmp 4) _ rfl (hold 4 (fun j hj => low (by decide))) (HLO.out u hb)) ⟨_, rfl, fw_mk (by decide) (by decide) rfl, hb, bR⟩)
    ·intro a u vs hb hold hdep
     have e0 : a.eval (.tmp 63) = .agg #[x1, y1, z1] := (fw_at (hdep ⟨12, .data⟩ (by simp) rfl (by decide)) (by decide) (by decide) rfl)
     have e1 : a.eval (.tmp 64) = .agg o.cells := (fw_at (hdep ⟨13, .data⟩ (by simp) rfl (by decide)) (by decide) (by decide) rfl)
     refine NO.opAt_go (j := 11) (t := 62) (b := true) rfl rfl (fw_at (hdep ⟨11, .guard⟩ (by simp) rfl (by decide)) (by decide) (by decide) rfl) ?_
     refine wp_call 33 _ _ rfl (enters_of Tryz.func33 (by kernel_rfl) rfl) #[.agg #[x1, y1, z1], .agg o.cells] (by simp only [List.map_toArray, List.map_cons, List.map_nil, e0, e1]) ?_
     refine (HW1.out u hb).mono ?_
     rintro _ u' ⟨v, rfl, hg, hb'⟩
     exact ⟨_, rfl, _, rfl, ⟨fun _ => hg, fun h1 h2 => absurd rfl h1⟩, hb.trans (hb'.mono hb.size), hb'⟩
    ·intro a u vs hb hold hdep
     exact NO.opAt_go (j := 11) (t := 62) (b := true) rfl rfl (fw_at (hdep ⟨11, .guard⟩ (by simp) rfl (by decide)) (by decide) (by decide) rfl) (wp_val (ex_load _ ⟨bn, 0, none⟩ (.tmp 10) _ rfl (hold 10 (fun j hj => low (by decide))) (HL2.out u hb)) ⟨_, rfl, fw_mk (by decide) (by decide) rfl, hb, bR⟩)
    ·intro a u vs hb hold hdep
     exact NO.opAt_go (j := 11) (t := 62) (b := true) rfl rfl (fw_at (hdep ⟨11, .guard⟩ (by simp) rfl (by decide)) (by decide) (by decide) rfl) (wp_val (ex_load _ ⟨bo, 0, none⟩ (.tmp 4) _ rfl (hold 4 (fun j hj => low (by decide))) (HLO.out u hb)) ⟨_, rfl, fw_mk (by decide) (by decide) rfl, hb, bR⟩)
    ·intro a u vs hb hold hdep
     have e0 : a.eval (.tmp 66) = .agg #[x2, y2, z2] := (fw_at (hdep ⟨15, .data⟩ (by simp) rfl (by decide)) (by decide) (by decide) rfl)
     have e1 : a.eval (.tmp 67) = .agg o.cells := (fw_at (hdep ⟨16, .data⟩ (by simp) rfl (by decide)) (by decide) (by decide) rfl)
     refine NO.opAt_go (j := 11) (t := 62) (b := true) rfl rfl (fw_at (hdep ⟨11, .guard⟩ (by simp) rfl (by decide)) (by decide) (by decide) rfl) ?_
     refine wp_call 33 _ _ rfl (enters_of Tryz.func33 (by kernel_rfl) rfl) #[.agg #[x2, y2, z2], .agg o.cells] (by simp only [List.map_toArray, List.map_cons, List.map_nil, e0, e1]) ?_
     refine (HW2.out u hb).mono ?_
     rintro _ u' ⟨v, rfl, hg, hb'⟩
     exact ⟨_, rfl, _, rfl, ⟨fun _ => hg, fun h1 h2 => absurd rfl h2⟩, hb.trans (hb'.mono hb.size), hb'⟩
    ·intro a u vs hb hold hdep
     have h14 := (hdep ⟨14, .data⟩ (by simp) rfl (by decide))
     have h17 := (hdep ⟨17, .data⟩ (by simp) rfl (by decide))
     have e14 : a.eval (.tmp 65) = vs 14 := h14.1
     have e17 : a.eval (.tmp 68) = vs 17 := h17.1
     have g14 := h14.2.1 (.inl rfl)
     have g17 := h17.2.1 (.inr rfl)
     refine NO.opAt_go (j := 11) (t := 62) (b := true) rfl rfl (fw_at (hdep ⟨11, .guard⟩ (by simp) rfl (by decide)) (by decide) (by decide) rfl) ?_
     refine wp_call 10 _ _ rfl (enters_of Tryz.func10 (by kernel_rfl) rfl) #[vs 14, vs 17] (by simp only [List.map_toArray, List.map_cons, List.map_nil, e14, e17]) ?_
     refine (gd_dumps g14 g17 HFL.out.1 HFL.out.2.1 HFL.out.2.2).mono ?_
     rintro _ u' ⟨rfl, hb'⟩
     exact ⟨_, rfl, _, rfl, fw_mk (by decide) (by decide) rfl, hb.trans (hb'.mono hb.size), hb'⟩
    ·intro a u vs hb hold hdep
     exact NO.opAt_plain rfl (wp_val (exq_pickT (.tmp 62) (.tmp 69) _ rfl (fw_at (hdep ⟨11, .data⟩ (by simp) rfl (by decide)) (by decide) (by decide) rfl) (fw_at (hdep ⟨18, .data⟩ (by simp) rfl (by decide)) (by decide) (by decide) rfl)) ⟨_, rfl, fw_mk (by decide) (by decide) rfl, hb, bR⟩)
    ·intro a u vs hb hold hdep
     exact NO.opAt_plain rfl (wp_val (ex_move (.tmp 70) _ rfl (fw_at (hdep ⟨19, .data⟩ (by simp) rfl (by decide)) (by decide) (by decide) rfl)) ⟨_, rfl, fw_mk (by decide) (by decide) rfl, hb, bR⟩)
    ·intro a u vs hb hold hdep
     exact NO.opAt_go (j := 20) (t := 71) (b := true) rfl rfl (fw_at (hdep ⟨20, .guard⟩ (by simp) rfl (by decide)) (by decide) (by decide) rfl) (wp_val (ex_load _ ⟨bn, 0, none⟩ (.tmp 10) _ rfl (hold 10 (fun j hj => low (by decide))) (HL2.out u hb)) ⟨_, rfl, fw_mk (by decide) (by decide) rfl, hb, bR⟩)
    ·intro a u vs hb hold hdep
     exact NO.opAt_go (j := 20) (t := 71) (b := true) rfl rfl (fw_at (hdep ⟨20, .guard⟩ (by simp) rfl (by decide)) (by decide) (by decide) rfl) (wp_val (ex_load _ ⟨bc, 0, none⟩ (.tmp 5) _ rfl (hold 5 (fun j hj => low (by decide))) (HLC.out u hb)) ⟨_, rfl, fw_mk (by decide) (by decide) rfl, hb, bR⟩)
    ·intro a u vs hb hold hdep
     have e0 : a.eval (.tmp 72) = .agg #[x2, y2, z2] := (fw_at (hdep ⟨21, .data⟩ (by simp) rfl (by decide)) (by decide) (by decide) rfl)
     have e1 : a.eval (.tmp 73) = .agg #[.int .i64 (s.cr : Int), .int .i64 (s.cn : Int), .int .i64 (s.cf : Int)] := (fw_at (hdep ⟨22, .data⟩ (by simp) rfl (by decide)) (by decide) (by decide) rfl)
     refine NO.opAt_go (j := 20) (t := 71) (b := true) rfl rfl (fw_at (hdep ⟨20, .guard⟩ (by simp) rfl (by decide)) (by decide) (by decide) rfl) ?_
     refine wp_call 34 _ _ rfl (enters_of Tryz.func34 (by kernel_rfl) rfl) #[.agg #[x2, y2, z2], .agg #[.int .i64 (s.cr : Int), .int .i64 (s.cn : Int), .int .i64 (s.cf : Int)]] (by simp only [List.map_toArray, List.map_cons, List.map_nil, e0, e1]) ?_
     refine (HRI.out u hb).mono ?_
     rintro _ u' ⟨rfl, hb'⟩
     exact ⟨_, rfl, _, rfl, fw_mk (by decide) (by decide) rfl, hb.trans (hb'.mono hb.size), hb'⟩
    ·intro a u vs hb hold hdep
     exact NO.opAt_plain rfl (wp_val (exq_pickT (.tmp 71) (.tmp 74) _ rfl (fw_at (hdep ⟨20, .data⟩ (by simp) rfl (by decide)) (by decide) (by decide) rfl) (fw_at (hdep ⟨23, .data⟩ (by simp) rfl (by decide)) (by decide) (by decide) rfl)) ⟨_, rfl, fw_mk (by decide) (by decide) rfl, hb, bR⟩)
   intro vs u hb hF
   have e0 : vs 0 = .int .i64 1 := (hF 0 (by decide)).2 (by decide) (by decide) _ rfl
   have e1 : vs 1 = .bool true := (hF 1 (by decide)).2 (by decide) (by decide) _ rfl
   have e2 : vs 2 = .bool true := (hF 2 (by decide)).2 (by decide) (by decide) _ rfl
   have e3 : vs 3 = .int .i64 0 := (hF 3 (by decide)).2 (by decide) (by decide) _ rfl
   have e4 : vs 4 = .bool true := (hF 4 (by decide)).2 (by decide) (by decide) _ rfl
   have e5 : vs 5 = .bool true := (hF 5 (by decide)).2 (by decide) (by decide) _ rfl
   have e6 : vs 6 = .bool true := (hF 6 (by decide)).2 (by decide) (by decide) _ rfl
   have e7 : vs 7 = .agg #[x2, y2, z2] := (hF 7 (by decide)).2 (by decide) (by decide) _ rfl
   have e8 : vs 8 = .agg o.cells := (hF 8 (by decide)).2 (by decide) (by decide) _ rfl
   have e9 : vs 9 = .bool true := (hF 9 (by decide)).2 (by decide) (by decide) _ rfl
   have e10 : vs 10 = .bool true := (hF 10 (by decide)).2 (by decide) (by decide) _ rfl
   have e11 : vs 11 = .bool true := (hF 11 (by decide)).2 (by decide) (by decide) _ rfl
   have e12 : vs 12 = .agg #[x1, y1, z1] := (hF 12 (by decide)).2 (by decide) (by decide) _ rfl
   have e13 : vs 13 = .agg o.cells := (hF 13 (by decide)).2 (by decide) (by decide) _ rfl
   have e15 : vs 15 = .agg #[x2, y2, z2] := (hF 15 (by decide)).2 (by decide) (by decide) _ rfl
   have e16 : vs 16 = .agg o.cells := (hF 16 (by decide)).2 (by decide) (by decide) _ rfl
   have e18 : vs 18 = .bool true := (hF 18 (by decide)).2 (by decide) (by decide) _ rfl
   have e19 : vs 19 = .bool true := (hF 19 (by decide)).2 (by decide) (by decide) _ rfl
   have e20 : vs 20 = .bool true := (hF 20 (by decide)).2 (by decide) (by decide) _ rfl
   have e21 : vs 21 = .agg #[x2, y2, z2] := (hF 21 (by decide)).2 (by decide) (by decide) _ rfl
   have e22 : vs 22 = .agg #[.int .i64 (s.cr : Int), .int .i64 (s.cn : Int), .int .i64 (s.cf : Int)] := (hF 22 (by decide)).2 (by decide) (by decide) _ rfl
   have e23 : vs 23 = .bool true := (hF 23 (by decide)).2 (by decide) (by decide) _ rfl
   have e24 : vs 24 = .bool true := (hF 24 (by decide)).2 (by decide) (by decide) _ rfl
   clear hF
   simp only [List.drop_succ_cons, List.drop_zero, _root_.Go.Proofs.YtpdnnikkaojnkaaGreat.N.puts, List.range, List.range.loop, List.foldr, if_true, e0, e1, e2, e3, e4, e5, e6, e7, e8, e9, e10, e11, e12, e13, e15, e16, e18, e19, e20, e21, e22, e23, e24, Act.put, List.setIfInBounds_toArray, List.set_cons_zero, List.set_cons_succ]
   clear e0 e1 e2 e3 e4 e5 e6 e7 e8 e9 e10 e11 e12 e13 e15 e16 e18 e19 e20 e21 e22 e23 e24
   generalize vs 14 = v14 at *
   generalize vs 17 = v17 at *
   have HKE := hid (HF11.out.below hb).k
   clear hb HF11 HD11 HE11 HLO HLC HL1 HL2 HCH HW1 HW2 HRI
   go_wp2_with fail
   go_ret
   exact ⟨rfl, HKE.out⟩
end Go.Proofs.YtpdnnikkaojnkaaGreat.Rt
