import Derived.Test.YtpdnnikkaojnkaaGreatYLK
namespace Go.Proofs.YtpdnnikkaojnkaaGreat.Rt
open Go.Proofs.YtpdnnikkaojnkaaGreat Go.ChangeShapes Go.WideShapes Go.ChangeAt Go.RowKit Go.Maps Tri N
set_option maxHeartbeats 8000000
set_option maxRecDepth 100000
theorem eqH (s : Ks) (r : Option Vt) (u : World) : (Op.equalIn 10000 56 (.agg (hopR s r).1) (.agg (hopR s r).1)).run Tryz.prog u = .ok true u := by
 obtain ⟨e, b, m0, m1, m2, m3, m4, m5, vi, d, x, n, h, -⟩ := eqHop s r
 rw [h]
 have h6 := eq6i m0 m1 m2 m3 m4 m5
 simp [go_sem, h6]
theorem hopS (s : Ks) (r : Option Vt) : (hopR s r).1.size = 11 /\ (hopR s r).1.all (·.oneCell') = true := by
 obtain ⟨e, b, m0, m1, m2, m3, m4, m5, vi, d, x, n, h, -⟩ := eqHop s r
 rw [h]
 exact ⟨rfl, by simp [Value.oneCell']⟩
theorem srt_le {α κ : Type} {key : α -> κ} {num : α -> Nat} {A L : List α} (hn : Nod key L) (hs : SrtK num A L) {m : Nat} (hl : L.length <= m) : A.length <= m := by
 have h1 : L.Nodup := (List.pairwise_map.1 hn).imp fun h e => h (by rw [e])
 rw [hs.len h1]; exact hl
theorem plays_any {K X : Nat -> Prop} {b : Bks} {m : Nat} {v : Vs} {s : Ks} (w : World) (k : Int) {a : Option Addr} {n : Nat} (c : Nat) {L : List Opv} (d : Nat) (h : Pr w X b m v s) (hs : SeesOp K w a n L) (hK : ∀ c, K c -> ¬ fpP b m v c) (hL : ∀ o ∈ L, o.Ok) (hn : n <= 9223372036854775807) (hd : d < 4294967296) :
  Calls Tryz.prog 19 #[.pointer (some ⟨b.kb, 0, none⟩), .pointer (some ⟨m, 0, none⟩), .agg #[.int .i64 k, .slice a n c, .int .u32 (d : Int)]] w fun e w' => e = .returned (.bool true) /\ Pd w w' X b m v (plS s k L) := by
 obtain ⟨w1, HW1⟩ : ∃ w1, Hid (w1 = w.alloc (.cells #[.int .i64 k, .slice a n c, .int .u32 (d : Int)] 77)) := ⟨_, rfl⟩
 have hb1 : Below w.heap.size w w1 := by rw [HW1.out]; exact bR.alloc nL _
 have r1 : w1.heap[w.heap.size]? = some (.cells #[.int .i64 k, .slice a n c, .int .u32 (d : Int)] 77) := by rw [HW1.out]; exact heap_alloc_new w _
 have c0 : w1.cell? ⟨w.heap.size, 0, none⟩ = some (.int .i64 k) := crw r1 rfl
 have c1 : w1.cell? ⟨w.heap.size, 1, none⟩ = some (.slice a n c) := crw r1 rfl
 have c2 : w1.cell? ⟨w.heap.size, 2, none⟩ = some (.int .u32 (d : Int)) := crw r1 rfl
 have HP := hid (h.below hb1)
 have HS := hid (hs.below hb1)
 have HB1 := hid hb1
 have HR1 := hid r1
 have HL := hid hL
 have HK := hid hK
 have HD := hid hd
 have HZX : Hid (∀ x, X x -> x < w.heap.size) := h.k.lt
 have HZ1 : Hid (w.heap.size < w1.heap.size) := (gsl r1)
 clear h hs hb1 r1 hL hK hd
 by_cases k1 : k = 1
 ·subst k1
  have HKP : Hid (∀ c, K c -> c ≠ b.tb /\ c ≠ b.bm /\ c ≠ b.fm) := fun c hc => ⟨fun e => HK.out c hc (.inl (by rw [e]; unfold fpK; simp)), fun e => HK.out c hc (.inl (by rw [e]; unfold fpK; simp)), fun e => HK.out c hc (.inl (by rw [e]; unfold fpK; simp))⟩
  have HC := hid (do_any w1 c HP.out.k HS.out HKP.out HL.out hn)
  obtain ⟨dn, HDN⟩ : ∃ dn, Hid (dn = doN s L) := ⟨_, rfl⟩
  obtain ⟨de, HDE⟩ : ∃ de, Hid (de = doE s L) := ⟨_, rfl⟩
  rw [<- HDN.out, <- HDE.out] at HC
  go_enter Tryz.func19, Tryz.ntmps19
  go_upto_region 1 with fail
  rw [<- HW1.out]
  clear HW1
  go_wp2_with fail
  refine HC.out.mono ?_
  rintro _ w2 ⟨rfl, hk2, hc2⟩
  have hcK : Chg (fpK b) w1 w2 := hc2.mono fun c e => by unfold fpK; rcases e with e | e | e <;> simp [e]
  have hr2 : Rf w2 m v s := HP.out.r.keeps hcK.keeps fun c e => HP.out.apart e
  have hs2 := chg_ops HS.out HKP.out hc2
  have HRC := hid (doR_any w2 c hr2 hs2 (fun c hc e => HK.out c hc (.inr e)) HL.out hn)
  rw [<- HDN.out, <- HDE.out] at HRC
  have hno : ∀ x, fpK b x -> x ≠ w.heap.size := fun x hx e => by have := HZX.out x (HP.out.k.fpx hx); omega
  have rr : w2.heap[w.heap.size]? = some (.cells #[.int .i64 1, .slice a n c, .int .u32 (d : Int)] 77) := (hcK.block _ HZ1.out fun e => hno _ e rfl).trans HR1.out
  have d1 : w2.cell? ⟨w.heap.size, 1, none⟩ = some (.slice a n c) := crw rr rfl
  have HKK := hid hk2
  have HCK := hid hcK
  clear hk2 hc2 hcK hr2 hs2 hno rr HC c0 c1 c2
  go_wp2_with fail
  refine HRC.out.mono ?_
  rintro _ w3 ⟨rfl, v3, ht3⟩
  have HFIN : Hid (Pd w w3 X b m v (plS s 1 L)) := by
   have e : plS s 1 L = doS s L := rfl
   rw [e]
   exact (Pd.both HP.out HKK.out rfl HCK.out (fun c e => .inl e) (fun c e => e) (fun c e => .inl e) fun _ => ht3).behind HB1.out
  clear ht3 HRC d1
  go_wp2_with fail
  go_ret
  exact ⟨rfl, HFIN.out⟩
 ·by_cases k2 : k = 2
  ·subst k2
   have HPS : Hid (plS s 2 L = s) := rfl
   have HC := hid (resolve_any w1 d HP.out.k)
   clear k1
   go_enter Tryz.func19, Tryz.ntmps19
   go_upto_region 1 with fail
   rw [<- HW1.out]
   clear HW1
   go_upto_region 7 with fail
   go_wp2_with fail
   refine HC.out.mono ?_
   rintro _ w2 ⟨r, hlr, rfl, hb2⟩
   obtain ⟨hs11, hone⟩ := hopS s r
   obtain ⟨hz, HHZ⟩ : ∃ hz, Hid (hz = (hopR s r).1) := ⟨_, rfl⟩
   obtain ⟨he, HHE⟩ : ∃ he, Hid (he = (hopR s r).2) := ⟨_, rfl⟩
   have HEQ : ∀ u : World, (Op.equalIn 10000 56 (.agg hz) (.agg hz)).run Tryz.prog u = .ok true u := fun u => by rw [HHZ.out]; exact eqH s r u
   rw [<- HHZ.out] at hs11 hone
   have HS11 := hid hs11
   have HONE := hid hone
   have HINF : Hid ((Tryz.prog.info? 56).map (·.size) = some hz.size) := by unfold Hid; rw [HS11.out]; kernel_rfl
   have HLR := hid hlr
   have HP2 := hid (HP.out.below hb2)
   have HB2 : Hid (Below w1.heap.size w1 w2) := hb2
   have HR2 : Hid (w2.heap[w.heap.size]? = some (.cells #[.int .i64 2, .slice a n c, .int .u32 (d : Int)] 77)) := below_keeps hb2 HR1.out HZ1.out
   rw [<- HHZ.out, <- HHE.out]
   clear hb2 hlr hs11 hone HC c0 c1 c2
   have HEQH := hid HEQ
   clear HEQ
   go_upto_region 8 with (first | (refine wpList_alB rfl 56 hopZ rfl alloc_hop ?_; intro w3 hb3 hs3 hr3) | (refine wpList_stB rfl 56 (.tmp 11) (.tmp 48) rfl w2.heap.size hz rfl rfl hopZ hr3 HINF.out (by rw [HS11.out]; rfl) HONE.out ?_; intro w4 hbt hr4) | fail)
   have hb4 : Below w2.heap.size w2 w4 := ⟨hbt.os.trans hb3.os, hbt.tape.trans hb3.tape, hbt.output.trans hb3.output, Nat.le_trans hb3.size hbt.size, fun k hk => (hbt.block k (by omega) (by omega)).trans (hb3.block k hk)⟩
   have HP4 := hid (HP2.out.below hb4)
   have HB4 : Hid (Below w1.heap.size w1 w4) := HB2.out.trans (hb4.mono HB2.out.size)
   have r4 := below_keeps hb4 HR2.out (gsl HR2.out)
   have e2 : w4.cell? ⟨w.heap.size, 2, none⟩ = some (.int .u32 (d : Int)) := crw r4 rfl
   have HH4 : Hid (w4.heap[w2.heap.size]? = some (.cells hz 56)) := hr4
   have HRC := hid (resolveR_any w4 d HP4.out.r HD.out)
   clear hb4 hbt hr4 hb3 hs3 hr3 r4 HP2 HR2 HB2
   go_wp2_with fail
   refine HRC.out.mono ?_
   rintro _ w5 ⟨r', hlr', rfl, hb5⟩
   obtain rfl : r' = r := LR.one HP.out.k.ok.rn HP.out.k.ok.rk hlr' HLR.out
   have HP5 := hid (HP4.out.below hb5)
   have HB5 : Hid (Below w1.heap.size w1 w5) := HB4.out.trans (hb5.mono HB4.out.size)
   have HH5 : Hid (w5.heap[w2.heap.size]? = some (.cells hz 56)) := below_keeps hb5 HH4.out (gsl HH4.out)
   rw [<- HHZ.out, <- HHE.out]
   clear hb5 hlr' HRC e2 HP4 HB4 HH4
   go_upto_region 9 with (first | (refine wpList_alB rfl 56 hopZ rfl alloc_hop ?_; intro w6 hb6 hs6 hr6) | (refine wpList_stB rfl 56 (.tmp 13) (.tmp 55) rfl w5.heap.size hz rfl rfl hopZ hr6 HINF.out (by rw [HS11.out]; rfl) HONE.out ?_; intro w7 hbt hr7) | fail)
   have hb7 : Below w5.heap.size w5 w7 := ⟨hbt.os.trans hb6.os, hbt.tape.trans hb6.tape, hbt.output.trans hb6.output, Nat.le_trans hb6.size hbt.size, fun k hk => (hbt.block k (by omega) (by omega)).trans (hb6.block k hk)⟩
   have hh7 := below_keeps hb7 HH5.out (gsl HH5.out)
   have HLD1 : Hid ((Instr.loadAt 56 (.pointer (some ⟨w2.heap.size, 0, none⟩))).run Tryz.prog w7 = .ok (.agg hz) w7) := box_load hh7 Tryz.underlying56 rfl HINF.out
   have HLD2 : Hid ((Instr.loadAt 56 (.pointer (some ⟨w5.heap.size, 0, none⟩))).run Tryz.prog w7 = .ok (.agg hz) w7) := box_load hr7 Tryz.underlying56 rfl HINF.out
   have HFIN : Hid (Pd w w7 X b m v (plS s 2 L)) := by
    rw [HPS.out]
    exact (Pd.same HP.out (HB5.out.trans (hb7.mono HB5.out.size))).behind HB1.out
   have heq := HEQH.out
   clear hb7 hbt hr7 hb6 hs6 hr6 hh7 HP5 HB5 HH5
   go_wp2_with (first | (refine wpList_ld 56 ⟨w2.heap.size, 0, none⟩ (.tmp 11) rfl rfl HLD1.out rfl ?_) | (refine wpList_ld 56 ⟨w5.heap.size, 0, none⟩ (.tmp 13) rfl rfl HLD2.out rfl ?_) | fail)
   go_ret
   exact ⟨rfl, HFIN.out⟩
  ·by_cases k3 : k = 3
   ·subst k3
    have HC := hid (dump_any w1 HP.out.k)
    clear k1 k2
    go_enter Tryz.func19, Tryz.ntmps19
    go_upto_region 1 with fail
    rw [<- HW1.out]
    clear HW1
    go_upto_region 11 with fail
    go_wp2_with fail
    refine HC.out.mono ?_
    rintro _ w2 ⟨_, rfl, x1, y1, z1, rfl, ⟨A1, o1, s1⟩, ⟨A2, o2, s2⟩, ⟨A3, o3, s3⟩, hb2⟩
    have HO1 := hid o1
    have HO2 := hid o2
    have HO3 := hid o3
    have HSS := hid (And.intro s1 (And.intro s2 s3))
    have HP2 := hid (HP.out.below hb2)
    have HB2 : Hid (Below w1.heap.size w1 w2) := hb2
    have HRC := hid (dumpR_any w2 HP2.out.r)
    clear o1 o2 o3 s1 s2 s3 hb2 HC c0 c1 c2
    go_wp2_with fail
    refine HRC.out.mono ?_
    rintro _ w3 ⟨_, rfl, x2, y2, z2, rfl, ⟨C1, p1, t1⟩, ⟨C2, p2, t2⟩, ⟨C3, p3, t3⟩, hb3⟩
    obtain rfl : C1 = A1 := srtK_eq t1 HSS.out.1
    obtain rfl : C2 = A2 := srtK_eq t2 HSS.out.2.1
    obtain rfl : C3 = A3 := srtK_eq t3 HSS.out.2.2
    have hok := HP.out.k.ok
    have HDC := hid (dumps_any w3 x1 y1 z1 x2 y2 z2 C1 C2 C3 ((own_R.2 (owns_below HO1.out hb3)).low (Nat.zero_le _)) ((own_R.2 p1).low (Nat.zero_le _)) ((own_N.2 (owns_below HO2.out hb3)).low (Nat.zero_le _)) ((own_N.2 p2).low (Nat.zero_le _)) ((own_F.2 (owns_below HO3.out hb3)).low (Nat.zero_le _)) ((own_F.2 p3).low (Nat.zero_le _)) (srt_le hok.rn t1 (Nat.le_trans hok.rl.1 hok.rl.2)) (srt_le hok.nn t2 (Nat.le_trans hok.nl.1 hok.nl.2)) (srt_le hok.fn t3 (Nat.le_trans hok.fl.1 hok.fl.2)))
    have HB3 : Hid (Below w1.heap.size w1 w3) := HB2.out.trans (hb3.mono HB2.out.size)
    clear p1 p2 p3 t1 t2 t3 hb3 hok HRC HO1 HO2 HO3 HSS HP2 HB2
    go_wp2_with fail
    refine HDC.out.mono ?_
    rintro _ w4 ⟨rfl, hb4⟩
    have HFIN : Hid (Pd w w4 X b m v (plS s 3 L)) := (Pd.same HP.out (HB3.out.trans (hb4.mono HB3.out.size))).behind HB1.out
    clear hb4 HDC
    go_wp2_with fail
    go_ret
    exact ⟨rfl, HFIN.out⟩
   ·by_cases k4 : k = 4
    ·subst k4
     have HC := hid (flush_any w1 HP.out.k)
     clear k1 k2 k3
     go_enter Tryz.func19, Tryz.ntmps19
     go_upto_region 1 with fail
     rw [<- HW1.out]
     clear HW1
     go_upto_region 13 with fail
     go_wp2_with fail
     refine HC.out.mono ?_
     rintro _ w2 ⟨rfl, hk2, hc2⟩
     have hcK : Chg (fpK b) w1 w2 := hc2.mono fun c e => by unfold fpK; rcases e with e | e | e <;> simp [e]
     have hr2 : Rf w2 m v s := HP.out.r.keeps hcK.keeps fun c e => HP.out.apart e
     have HRC := hid (flushRf_any w2 hr2)
     have HKK := hid hk2
     have HCK := hid hcK
     clear hk2 hc2 hcK hr2 HC c0 c1 c2
     go_wp2_with fail
     refine HRC.out.mono ?_
     rintro _ w3 ⟨rfl, v3, ht3⟩
     have HFIN : Hid (Pd w w3 X b m v (plS s 4 L)) := by
      refine (Pd.both HP.out HKK.out rfl HCK.out (fun c e => ?_) (fun c e => .inl e) (fun c e => e.imp id fun e => by omega) fun _ => ht3).behind HB1.out
      unfold fpK at e ⊢
      simp only [List.mem_cons, List.not_mem_nil, or_false] at e ⊢
      rcases e with e | e | e | e | e | e | e
      ·exact .inl (.inl e)
      ·exact .inl (.inr (.inl e))
      ·exact .inr (by omega)
      ·exact .inl (.inr (.inr (.inr (.inl e))))
      ·exact .inl (.inr (.inr (.inr (.inr (.inl e)))))
      ·exact .inl (.inr (.inr (.inr (.inr (.inr (.inl e))))))
      ·exact .inl (.inr (.inr (.inr (.inr (.inr (.inr e))))))
     clear ht3 HRC
     go_wp2_with fail
     go_ret
     exact ⟨rfl, HFIN.out⟩
    ·have HFIN : Hid (Pd w w1 X b m v (plS s k L)) := by
      have e : plS s k L = s := by unfold plS; rw [if_neg k1, if_neg k4]
      rw [e]
      exact (Pd.same HP.out bR).behind HB1.out
     go_enter Tryz.func19, Tryz.ntmps19
     go_upto_region 1 with fail
     rw [<- HW1.out]
     clear HW1
     go_wp2_with fail
     go_ret
     exact ⟨rfl, HFIN.out⟩
end Go.Proofs.YtpdnnikkaojnkaaGreat.Rt
