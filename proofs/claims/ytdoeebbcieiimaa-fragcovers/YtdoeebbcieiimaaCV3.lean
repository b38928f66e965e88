import Derived.Test.YtdoeebbcieiimaaCV2
namespace Go.Proofs.Ytdoeebbcieiimaa
open Go.ChangeShapes Go.WideShapes Go.ChangeAt Go.RowKit
set_option maxHeartbeats 8000000
set_option maxRecDepth 100000

theorem splitL_nodf {h : Hd} {B : List Nat} {m : Nat} (hm : 68 ≤ m) (he : refE h B.length = 0) (hd : h.df = false) : splitL h B (m : Int) = (cutL (M.copied h.opts).1 m B.length h B, 0) := by
  by_cases hf : 20 + h.opts.length + B.length ≤ m
  · rw [splitL_one (by omega) he (by simpa using hf), cutL_fits hf]
  · rw [splitL_cut (by omega) he (by simpa using hf) hd]; simp

theorem cutL_pos {later : List Nat} {mtu : Nat} (f : Nat) (h : Hd) (B : List Nat) : 1 ≤ (cutL later mtu f h B).length := by
  cases f with
  | zero => simp [cutL]
  | succ k => rw [cutL]; split <;> simp

theorem cutL_one {later : List Nat} {mtu : Nat} {h : Hd} {B : List Nat} (hm : 68 ≤ mtu) (ho : h.opts.length ≤ 40) : (cutL later mtu B.length h B).length = 1 ↔ 20 + h.opts.length + B.length ≤ mtu := by
  constructor
  · intro h1
    by_cases hf : 20 + h.opts.length + B.length ≤ mtu
    · exact hf
    · rw [cutL_more hf (Nat.le_refl _) hm ho, List.length_cons] at h1
      have := cutL_pos (later := later) (mtu := mtu) (B.length - 1) (nextH h (rmOf h mtu) later) (B.drop (rmOf h mtu))
      omega
  · intro hf
    rw [cutL_fits hf]; rfl

theorem mt_not {a b : Prop} (h : a ↔ b) (hn : ¬ a) : ¬ b := fun hb => hn (h.2 hb)

def whD (o id : Nat) : Hd := { wh o id with df := true }

theorem covers_walk (v : Value) (L : List Nat) (o id : Nat) (m : Int) (w : World) (hv : SeesB w v L) (ho : o < 256) (hi : id < 65536) (hm1 : -9223372036854775808 ≤ m) (hm2 : m ≤ 9223372036854775807) :
    Calls Try.prog 3 #[v, .int .u8 (o : Int), .int .u16 (id : Int), .int .i64 m] w fun e w' => e = .returned (.bool true) ∧ Below w.heap.size w w' := by
  have HWH := hid (whole_any v L o id w hv ho hi)
  have HOK := hid (wh_ok ho hi)
  have HAR : Hid (M.area (wh o id).opts = true) := optL_area _
  have HBL : Hid ((L.take 3000).length ≤ 3000) := by unfold Hid; rw [List.length_take]; omega
  have HBB : Hid (∀ x ∈ L.take 3000, x < 256) := fun x hx => hv.bytes x (List.mem_of_mem_take hx)
  obtain ⟨B, hB⟩ : ∃ B, B = L.take 3000 := ⟨_, rfl⟩
  rw [← hB] at HWH HBL HBB
  obtain ⟨av, n, cv, rfl, _, _, _⟩ := hv.shape
  clear hv hB
  go_enter Try.func3, Try.ntmps3
  go_wp2_with fail
  refine HWH.out.mono ?_
  rintro _ w1 ⟨vo, vb, rfl, ho1, hob1, hb1⟩
  obtain ⟨ao, co, rfl⟩ := ho1.shape
  obtain ⟨ab, cb, rfl⟩ := hob1.shape
  have HB1 := hid hb1
  have HSO1 : Hid (SeesB w1 (.slice ao (wh o id).opts.length co) (wh o id).opts) := ho1.sees (optL_bytes _)
  have HSB1 : Hid (SeesB w1 (.slice ab B.length cb) B) := hob1.sees HBB.out
  have HZ : Hid ((w1.alloc (.cells Z29 29)).heap[w1.heap.size]? = some (.cells Z29 29)) := heap_alloc_new w1 _
  obtain ⟨nb, hnb⟩ : ∃ nb, nb = B.length := ⟨_, rfl⟩
  have HNB := hid hnb
  have hnb3 : nb ≤ 3000 := by have := HBL.out; omega
  obtain ⟨no, hno⟩ : ∃ no, no = (wh o id).opts.length := ⟨_, rfl⟩
  have HNO := hid hno
  have hno40 : no ≤ 40 := by have := (area_len HAR.out).1; omega
  rw [← hnb] at HSB1 ⊢
  rw [← hno] at HSO1 ⊢
  obtain ⟨cp, hcp⟩ : ∃ cp, cp = pkCells (wh o id) (.slice ao no co) (.slice ab nb cb) := ⟨_, rfl⟩
  have HCP := hid hcp
  have HALL : Hid (cp.all (·.oneCell') = true) := by unfold Hid; rw [hcp]; exact all_pk _ _ _ _ _ _ _
  have HSZ : Hid (cp.size = 11) := by unfold Hid; rw [hcp]; rfl
  rw [← hcp]
  clear ho1 hob1 hb1 hnb hno hcp HWH
  go_wp2_with (first | (refine wpList_st rfl 29 (.tmp 9) (.tmp 24) rfl w1.heap.size cp rfl rfl 29 Z29 HZ.out (by rw [HSZ.out]; exact sz29) (by rw [HSZ.out]; rfl) HALL.out ?_) | fail)
  intro w2 hk2 hbut2
  rw [HCP.out] at hk2
  have HB2 : Hid (Below w1.heap.size w1 w2) := hbut2.below ((Below.refl _ _).alloc (Nat.le_refl _) _) (by simp) (Nat.le_refl _)
  obtain ⟨pb, hpb⟩ : ∃ pb, pb = w1.heap.size := ⟨_, rfl⟩
  have HS2 : Hid (pb + 1 ≤ w2.heap.size) := by have := hbut2.size; unfold Hid; rw [hpb]; simpa using this
  rw [← hpb] at hk2 ⊢
  have HPB := hid hpb
  have HK2 := hid hk2
  have HBW2 : Hid (Below w.heap.size w w2) := HB1.out.trans (HB2.out.mono HB1.out.size)
  have HPL : Hid (∀ u, Below w2.heap.size w2 u → u.heap[pb]? = some (.cells (pkCells (wh o id) (.slice ao no co) (.slice ab nb cb)) 29)) := fun u hu => below_keeps hu HK2.out (by have := HS2.out; omega)
  clear hk2 hbut2 HZ HALL HSZ hpb
  go_upto_if 26 with fail
  go_cut [3] from 21 (fun t wx => ∃ x, x = wx ∧ (∃ Mm : Nat, t = .int .i64 (Mm : Int) ∧ Mm ≤ 9223372036854775807) ∧ x = w2)
  case first =>
    by_cases hneg : m < 0
    · obtain ⟨Mm, hM⟩ : ∃ Mm : Nat, -1 - m = (Mm : Int) := ⟨(-1 - m).toNat, by omega⟩
      have HM := hid hM
      have hM1 : Mm ≤ 9223372036854775807 := by omega
      clear hM
      go_wp2_with fail
      go_meet
      case rel => exact ⟨_, rfl, ⟨Mm, by rw [← HM.out], hM1⟩, rfl⟩
    · obtain ⟨Mm, hM⟩ : ∃ Mm : Nat, m = (Mm : Int) := ⟨m.toNat, by omega⟩
      have HM := hid hM
      have hM1 : Mm ≤ 9223372036854775807 := by omega
      clear hM
      go_wp2_with fail
      go_meet
      case rel => exact ⟨_, rfl, ⟨Mm, by rw [HM.out], hM1⟩, rfl⟩
  case rest =>
  obtain ⟨x, rfl, ⟨Mm, rfl, hM⟩, rfl⟩ := hcut
  obtain ⟨mt, hmt⟩ : ∃ mt, mt = 68 + Mm % 1500 := ⟨_, rfl⟩
  have HMT : Hid (68 + (Mm : Int) % 1500 = (mt : Int)) := by unfold Hid; omega
  have hm68 : 68 ≤ mt := by omega
  have hm15 : mt ≤ 1567 := by omega
  clear hmt
  go_upto_region 5 with fail
  rw [HMT.out]
  have HREF : Hid (refE (wh o id) B.length = 0) := by
    have := part_may (h0 := wh o id) (k := 0) (n := B.length) (mf := false) HAR.out rfl (by omega) (by have := HBL.out; omega) (fun h => by cases h)
    rw [show partH (wh o id) 0 (wh o id).opts false = wh o id from partH_zero (wh o id)] at this
    exact this
  obtain ⟨later, hlat⟩ : ∃ later, later = (M.copied (wh o id).opts).1 := ⟨_, rfl⟩
  have HLA : Hid (M.area later = true) := by unfold Hid; rw [hlat]; exact (later_area HAR.out).1
  obtain ⟨Lp, hLp⟩ : ∃ Lp, Lp = cutL later mt B.length (wh o id) B := ⟨_, rfl⟩
  have HSP := hid (split_code (wh o id) _ _ B (mt : Int) x HOK.out (HSO1.out.below HB2.out) (HSB1.out.below HB2.out) (by have := HNO.out; omega) (by have := HBL.out; omega) (by omega) (by omega))
  rw [splitL_nodf hm68 HREF.out rfl, ← hlat, ← hLp] at HSP
  have HLE := hid hLp
  have HLT := hid hlat
  have HL2 := hid (pk_load (HPL.out _ (Below.refl _ _)))
  rw [← HCP.out] at HL2 HSP
  have HCV0 : Hid (CvS (wh o id) B later mt Lp 0 0 (wh o id).opts) := CvS.start hLp HAR.out rfl
  have HPOS : Hid (1 ≤ Lp.length ∧ Lp.length ≤ 3001) := by
    have h1 := cutL_pos (later := later) (mtu := mt) B.length (wh o id) B
    have h2 := cutL_len (later := later) (mtu := mt) B.length (wh o id) B
    rw [← hLp] at h1 h2
    exact ⟨h1, by have := HBL.out; omega⟩
  clear hlat hLp
  go_wp2_with (first | (refine wpList_ld 29 ⟨pb, 0, none⟩ (.tmp 9) rfl rfl HL2.out rfl ?_) | fail)
  refine HSP.out.mono ?_
  rintro _ w3 ⟨v3, rfl, hp3, hb3⟩
  obtain ⟨nl, hnl⟩ : ∃ nl, nl = Lp.length := ⟨_, rfl⟩
  obtain ⟨a3, c3, rfl, _, _⟩ := hp3.shape
  rw [← hnl] at hp3 ⊢
  have HP3 := hid hp3
  have HB3 := hid hb3
  have HNL := hid hnl
  have hnl1 : 1 ≤ nl := by have := HPOS.out.1; omega
  have hnl2 : nl ≤ 3001 := by have := HPOS.out.2; omega
  have hq0 : ((nl : Int) == 0) = false := by simp; omega
  have HB23 : Hid (Below x.heap.size x w3) := HB3.out
  have HBW3 : Hid (Below w.heap.size w w3) := HBW2.out.trans (HB23.out.mono HBW2.out.size)
  have HB13 : Hid (Below w1.heap.size w1 w3) := HB2.out.trans (HB23.out.mono HB2.out.size)
  have HPL3 : Hid (∀ u, Below w3.heap.size w3 u → u.heap[pb]? = some (.cells (pkCells (wh o id) (.slice ao no co) (.slice ab nb cb)) 29)) := fun u hu => HPL.out u (HB23.out.trans (hu.mono HB23.out.size))
  clear hp3 hb3 hnl HL2 HSP
  go_wp2_with fail
  go_loopw [12, 13] (fun t i wv => ∃ (k j : Nat) (O : List Nat) (wr : World), wr = wv ∧ t = .int .i64 (k : Int) ∧ i = .int .i64 (j : Int) ∧ j ≤ nl ∧ k ≤ nb ∧ Hid (CvS (wh o id) B later mt Lp j k O) ∧ Hid (Below w3.heap.size w3 wr)) (fun _ i _ => nl - (intOf i).toNat)
  case atStart => exact ⟨0, 0, _, _, rfl, rfl, rfl, by omega, by omega, HCV0, Below.refl _ _⟩
  case round =>
    obtain ⟨k, j, O, wr, rfl, rfl, rfl, hj, hk, HCV, HB⟩ := hrel
    by_cases hlt : j < nl
    · obtain ⟨g, p, vq, vr, rfl, hg, hx, HPJ⟩ := (HP3.out.below HB.out).at j hlt
      obtain ⟨q1, q2, q3, q4⟩ := HCV.out.step (by have := HNL.out; omega) hm68 HLA.out
      have HQ3 := hid q3
      have hj1 : (0 : Int) ≤ (j : Int) := by omega
      have hj2 : (j : Int) < (nl : Int) := by omega
      have hol := (area_len q1).1
      have HLD := hid (hx _ (Below.refl _ _)).1
      have HSQ := hid (hx _ (Below.refl _ _)).2.1
      have HSR := hid (hx _ (Below.refl _ _)).2.2
      clear hx q3
      rcases q4 with ⟨hfit, hp, hlen, hcv⟩ | ⟨hfit, nn, t1, t2, t3, t4, t5, hp, hlen, hcv⟩
      · obtain rfl : p = (partH (wh o id) k O false, B.drop k) := by have := HPJ.out; rw [hp] at this; exact (Option.some.inj this).symm
        simp only at HLD HSQ HSR
        obtain ⟨nq, hnq⟩ : ∃ nq, nq = (B.drop k).length := ⟨_, rfl⟩
        have hnqe : nq = nb - k := by rw [hnq, List.length_drop, ← HNB.out]
        have hql : ((j : Int) == (nl : Int) - 1) = true := by have := HNL.out; simp; omega
        have HRQ : Hid (refE (partH (wh o id) k O false) nq = 0) := part_may q1 rfl q2 (by omega) (fun h => by cases h)
        have HCVN : Hid (CvS (wh o id) B later mt Lp (j + 1) (k + nq) O) := by rw [show k + nq = B.length by have := HNB.out; omega]; exact hcv
        obtain ⟨noq, hnoq⟩ : ∃ noq, noq = O.length := ⟨_, rfl⟩
        have hsz1 : 20 + noq + nq ≤ mt := by rw [← HNB.out] at hfit; omega
        have hqs : ((mt : Int) < 20 + (noq : Int) + (nq : Int)) = False := by simp; omega
        have HBQ : Hid (B.drop k = (B.take (k + nq)).drop k) := by unfold Hid; rw [List.take_of_length_le (by have := HNB.out; omega)]
        have hkn : k + nq ≤ nb := by omega
        have hnq3 : nq ≤ 3000 := by omega
        have HNQE := hid hnqe
        clear hnqe
        obtain ⟨aq, nq1, cq, rfl, HNQ1, hz1, hz2⟩ := HSQ.out.shape
        obtain ⟨ar, nr1, cr, rfl, HNR1, hz3, hz4⟩ := HSR.out.shape
        obtain rfl : nq1 = noq := by have := HNQ1.out; rw [hnoq]; exact this
        obtain rfl : nr1 = nq := by have := HNR1.out; rw [hnq]; exact this
        have HNQ := hid hnq
        have HNOQ := hid hnoq
        obtain ⟨aM, HSM, hcutM⟩ := HSB1.out.mid k (k + nr1) (k : Int) ((k : Int) + (nr1 : Int)) rfl (by omega) (by omega) hkn
        simp only [Nat.add_sub_cancel_left] at HSM hcutM
        have HQ1 := hid q1
        have HQ2 := hid q2
        obtain ⟨qc, hqc⟩ : ∃ qc, qc = pkCells (partH (wh o id) k O false) (.slice aq nq1 cq) (.slice ar nr1 cr) := ⟨_, rfl⟩
        rw [← hqc] at HLD
        have HQC := hid hqc
        have HALQ : Hid (qc.all (·.oneCell') = true) := by unfold Hid; rw [hqc]; exact all_pk _ _ _ _ _ _ _
        have HSZQ : Hid (qc.size = 11) := by unfold Hid; rw [hqc]; rfl
        have HZQ : Hid ((wr.alloc (.cells Z29 29)).heap[wr.heap.size]? = some (.cells Z29 29)) := heap_alloc_new wr _
        clear hqc hnq hnoq q1 q2 hp hcv hfit hlen
        go_wp2_with (first | (refine wpList_ld 29 ⟨g, j * 11, none⟩ (.tmp 53) rfl rfl HLD.out rfl ?_) | (refine wpList_st rfl 29 (.tmp 14) (.tmp 54) rfl wr.heap.size qc rfl rfl 29 Z29 HZQ.out (by rw [HSZQ.out]; exact sz29) (by rw [HSZQ.out]; rfl) HALQ.out ?_) | fail)
        intro w5 hk5 hbut5
        rw [HQC.out] at hk5
        have HB5 : Hid (Below wr.heap.size wr w5) := hbut5.below ((Below.refl _ _).alloc (Nat.le_refl _) _) (by simp) (Nat.le_refl _)
        obtain ⟨qb, hqb⟩ : ∃ qb, qb = wr.heap.size := ⟨_, rfl⟩
        have HS5 : Hid (qb + 1 ≤ w5.heap.size) := by have := hbut5.size; unfold Hid; rw [hqb]; simpa using this
        rw [← hqb] at hk5 ⊢
        have HQB := hid hqb
        have HQL : Hid (∀ u, Below w5.heap.size w5 u → u.heap[qb]? = some (.cells (pkCells (partH (wh o id) k O false) (.slice aq nq1 cq) (.slice ar nr1 cr)) 29)) := fun u hu => below_keeps hu hk5 (by have := HS5.out; omega)
        have HB35 : Hid (Below w3.heap.size w3 w5) := HB.out.trans (HB5.out.mono HB.out.size)
        have HBW5 : Hid (Below w.heap.size w w5) := HBW3.out.trans (HB35.out.mono HBW3.out.size)
        have HP5 : Hid (∀ u, Below w5.heap.size w5 u → u.heap[pb]? = some (.cells (pkCells (wh o id) (.slice ao no co) (.slice ab nb cb)) 29)) := fun u hu => HPL3.out u (HB35.out.trans (hu.mono HB35.out.size))
        have HSO5 : Hid (∀ u, Below w5.heap.size w5 u → SeesB u (.slice ao no co) (wh o id).opts) := fun u hu => (HSO1.out.below HB13.out).below (HB35.out.trans (hu.mono HB35.out.size))
        have HSM5 : Hid (∀ u, Below w5.heap.size w5 u → SeesB u (.slice aM nr1 (cb - k)) ((B.take (k + nr1)).drop k)) := fun u hu => (HSM.out.below HB13.out).below (HB35.out.trans (hu.mono HB35.out.size))
        have HSQ5 : Hid (∀ u, Below w5.heap.size w5 u → SeesB u (.slice aq nq1 cq) O ∧ SeesB u (.slice ar nr1 cr) (B.drop k)) := fun u hu => ⟨(HSQ.out.below HB5.out).below hu, (HSR.out.below HB5.out).below hu⟩
        have e4 : w5.cell? ⟨qb, 4, none⟩ = some (.int .i64 (k : Int)) := by
          have := pk_at (HQL.out _ (Below.refl _ _)) 4 (by omega)
          rw [this]
          show some (Value.int .i64 (0 + (k : Int))) = _
          rw [Int.zero_add]
        have e3 : w5.cell? ⟨qb, 3, none⟩ = some (.bool false) := pk_at (HQL.out _ (Below.refl _ _)) 3 (by omega)
        have e9 : w5.cell? ⟨qb, 9, none⟩ = some (.slice aq nq1 cq) := pk_at (HQL.out _ (Below.refl _ _)) 9 (by omega)
        have e10 : w5.cell? ⟨qb, 10, none⟩ = some (.slice ar nr1 cr) := pk_at (HQL.out _ (Below.refl _ _)) 10 (by omega)
        have f10 : ∀ u : Beh w5, u.wd.cell? ⟨qb, 10, none⟩ = some (.slice ar nr1 cr) := fun u => pk_at (HQL.out _ u.ok) 10 (by omega)
        have g10 : ∀ u : Beh w5, u.wd.cell? ⟨pb, 10, none⟩ = some (.slice ab nb cb) := fun u => pk_at (HP5.out _ u.ok) 10 (by omega)
        have HE11 : Hid (∀ u : Beh w5, Calls Try.prog 11 #[.slice ar nr1 cr, .slice aM nr1 (cb - k)] u.wd fun e w' => e = .returned (.bool true) ∧ ∃ u' : Beh w5, w' = u'.wd) := fun u => Calls.beh (by
          have := same_any _ _ _ _ u.wd (HSQ5.out _ u.ok).2 (HSM5.out _ u.ok)
          rw [decide_eq_true HBQ.out] at this
          exact this)
        have hqg : decide ((nb : Int) < (k : Int) + (nr1 : Int)) = false := by simp; omega
        clear hk5 hbut5 hqb HLD HZQ HALQ HSZQ
        go_upto_region 17 with fail
        clear e3 e4 e9 e10
        refine wp_region_beh (by kernel_rfl) (by kernel_rfl) ?_
        repeat (go_big_quiet_step (first | (go_at_call 11; exact HE11.out _) | fail))
        refine wpQuiet_nil ?_
        rintro _ ⟨u, rfl⟩
        have HU := hid u.ok
        have HL6 := hid (pk_load (HQL.out _ u.ok))
        have HBC := hid (build_code (partH (wh o id) k O false) _ _ (B.drop k) u.wd (by
          have h1 := HOK.out
          exact ⟨h1.tos, h1.id, ⟨by show _ ≤ (0 : Int) + (k : Int); omega, by show (0 : Int) + (k : Int) ≤ _; omega⟩, h1.ttl, h1.proto, h1.src, h1.dst⟩) (HSQ5.out _ u.ok).1 (HSQ5.out _ u.ok).2 (by show O.length ≤ _; have := HNOQ.out; omega) (by have := HNQ.out; omega))
        rw [← HNQ.out, HRQ.out] at HBC
        obtain ⟨qc2, hqc2⟩ : ∃ qc2, qc2 = pkCells (partH (wh o id) k O false) (.slice aq nq1 cq) (.slice ar nr1 cr) := ⟨_, rfl⟩
        rw [← hqc2] at HL6 HBC
        clear hqc2 f10 g10
        go_wp2_with (first | (refine wpList_ld 29 ⟨qb, 0, none⟩ (.tmp 14) rfl rfl HL6.out rfl ?_) | fail)
        refine HBC.out.mono ?_
        rintro _ w7 ⟨a7, n7, c7, rfl, _, hb7⟩
        have HB7 : Hid (Below w5.heap.size w5 w7) := HU.out.trans (hb7.mono HU.out.size)
        have k7 := HQL.out _ HB7.out
        have l7 := HP5.out _ HB7.out
        have e0 : w7.cell? ⟨qb, 0, none⟩ = some (.int .u8 (o : Int)) := pk_at k7 0 (by omega)
        have e1 : w7.cell? ⟨qb, 1, none⟩ = some (.int .u16 (id : Int)) := pk_at k7 1 (by omega)
        have e2 : w7.cell? ⟨qb, 2, none⟩ = some (.bool false) := pk_at k7 2 (by omega)
        have e5 : w7.cell? ⟨qb, 5, none⟩ = some (.int .u8 200) := pk_at k7 5 (by omega)
        have e6 : w7.cell? ⟨qb, 6, none⟩ = some (.int .u8 17) := pk_at k7 6 (by omega)
        have e7 : w7.cell? ⟨qb, 7, none⟩ = some (.int .u32 167772161) := pk_at k7 7 (by omega)
        have e8 : w7.cell? ⟨qb, 8, none⟩ = some (.int .u32 167772162) := pk_at k7 8 (by omega)
        have e9 : w7.cell? ⟨qb, 9, none⟩ = some (.slice aq nq1 cq) := pk_at k7 9 (by omega)
        have e10 : w7.cell? ⟨qb, 10, none⟩ = some (.slice ar nr1 cr) := pk_at k7 10 (by omega)
        have p7 : w7.cell? ⟨pb, 7, none⟩ = some (.int .u32 167772161) := pk_at l7 7 (by omega)
        have p8 : w7.cell? ⟨pb, 8, none⟩ = some (.int .u32 167772162) := pk_at l7 8 (by omega)
        have p9 : w7.cell? ⟨pb, 9, none⟩ = some (.slice ao no co) := pk_at l7 9 (by omega)
        have HBF : Hid (Below w3.heap.size w3 w7) := HB35.out.trans (HB7.out.mono HB35.out.size)
        clear k7 l7 hb7 HBC HL6
        by_cases hj0 : j = 0
        · subst hj0
          have HEO := hid (same_any _ _ _ _ w7 (HSQ5.out _ HB7.out).1 (HSO5.out _ HB7.out))
          rw [decide_eq_true (HQ3.out rfl)] at HEO
          go_wp2_with fail
          refine HEO.out.mono ?_
          rintro _ w8 ⟨rfl, hb8⟩
          have HB8 : Hid (Below w7.heap.size w7 w8) := hb8
          have e10' : w8.cell? ⟨qb, 10, none⟩ = some (.slice ar nr1 cr) := pk_at (HQL.out _ (HB7.out.trans (HB8.out.mono HB7.out.size))) 10 (by omega)
          clear hb8 e10
          go_wp2_with fail
          go_roundw
          case rel => exact ⟨k + nr1, 0 + 1, O, _, rfl, by go_num, by go_num, by omega, hkn, HCVN, HBF.out.trans (HB8.out.mono HBF.out.size)⟩
          case measure => simp [intOf]; omega
        · have hqj : ((j : Int) == 0) = false := by simp; omega
          go_wp2_with fail
          go_roundw
          case rel => exact ⟨k + nr1, j + 1, O, _, rfl, by go_num, by go_num, by omega, hkn, HCVN, HBF⟩
          case measure => simp [intOf]; omega
      · obtain rfl : p = (partH (wh o id) k O true, (B.take (k + nn)).drop k) := by have := HPJ.out; rw [hp] at this; exact (Option.some.inj this).symm
        simp only at HLD HSQ HSR
        obtain ⟨nq, hnq⟩ : ∃ nq, nq = ((B.take (k + nn)).drop k).length := ⟨_, rfl⟩
        have hnqe : nq = nn := by rw [hnq, List.length_drop, List.length_take, ← HNB.out]; rw [← HNB.out] at t5; omega
        have hql : ((j : Int) == (nl : Int) - 1) = false := by have := HNL.out; simp; omega
        have HRQ : Hid (refE (partH (wh o id) k O true) nq = 0) := part_may q1 rfl q2 (by have := HBL.out; omega) (fun _ => by omega)
        have HCVN : Hid (CvS (wh o id) B later mt Lp (j + 1) (k + nq) later) := by rw [hnqe]; exact hcv
        obtain ⟨noq, hnoq⟩ : ∃ noq, noq = O.length := ⟨_, rfl⟩
        have hsz1 : 20 + noq + nq ≤ mt := by omega
        have hq8 : (20 + (noq : Int) + (nq : Int) + 8 ≤ (mt : Int)) = False := by simp; omega
        have hqm : ((nq : Int) % 8 != 0) = false := by simp; omega
        have hqs : ((mt : Int) < 20 + (noq : Int) + (nq : Int)) = False := by simp; omega
        have HBQ : Hid ((B.take (k + nn)).drop k = (B.take (k + nq)).drop k) := by unfold Hid; rw [hnqe]
        have hkn : k + nq ≤ nb := by rw [hnqe, HNB.out]; exact t5
        have hnq3 : nq ≤ 3000 := by omega
        have HNQE := hid hnqe
        clear hnqe
        obtain ⟨aq, nq1, cq, rfl, HNQ1, hz1, hz2⟩ := HSQ.out.shape
        obtain ⟨ar, nr1, cr, rfl, HNR1, hz3, hz4⟩ := HSR.out.shape
        obtain rfl : nq1 = noq := by have := HNQ1.out; rw [hnoq]; exact this
        obtain rfl : nr1 = nq := by have := HNR1.out; rw [hnq]; exact this
        have HNQ := hid hnq
        have HNOQ := hid hnoq
        obtain ⟨aM, HSM, hcutM⟩ := HSB1.out.mid k (k + nr1) (k : Int) ((k : Int) + (nr1 : Int)) rfl (by omega) (by omega) hkn
        simp only [Nat.add_sub_cancel_left] at HSM hcutM
        have HQ1 := hid q1
        have HQ2 := hid q2
        obtain ⟨qc, hqc⟩ : ∃ qc, qc = pkCells (partH (wh o id) k O true) (.slice aq nq1 cq) (.slice ar nr1 cr) := ⟨_, rfl⟩
        rw [← hqc] at HLD
        have HQC := hid hqc
        have HALQ : Hid (qc.all (·.oneCell') = true) := by unfold Hid; rw [hqc]; exact all_pk _ _ _ _ _ _ _
        have HSZQ : Hid (qc.size = 11) := by unfold Hid; rw [hqc]; rfl
        have HZQ : Hid ((wr.alloc (.cells Z29 29)).heap[wr.heap.size]? = some (.cells Z29 29)) := heap_alloc_new wr _
        clear hqc hnq hnoq q1 q2 hp hcv hfit hlen t1 t2 t3 t4 t5
        go_wp2_with (first | (refine wpList_ld 29 ⟨g, j * 11, none⟩ (.tmp 53) rfl rfl HLD.out rfl ?_) | (refine wpList_st rfl 29 (.tmp 14) (.tmp 54) rfl wr.heap.size qc rfl rfl 29 Z29 HZQ.out (by rw [HSZQ.out]; exact sz29) (by rw [HSZQ.out]; rfl) HALQ.out ?_) | fail)
        intro w5 hk5 hbut5
        rw [HQC.out] at hk5
        have HB5 : Hid (Below wr.heap.size wr w5) := hbut5.below ((Below.refl _ _).alloc (Nat.le_refl _) _) (by simp) (Nat.le_refl _)
        obtain ⟨qb, hqb⟩ : ∃ qb, qb = wr.heap.size := ⟨_, rfl⟩
        have HS5 : Hid (qb + 1 ≤ w5.heap.size) := by have := hbut5.size; unfold Hid; rw [hqb]; simpa using this
        rw [← hqb] at hk5 ⊢
        have HQB := hid hqb
        have HQL : Hid (∀ u, Below w5.heap.size w5 u → u.heap[qb]? = some (.cells (pkCells (partH (wh o id) k O true) (.slice aq nq1 cq) (.slice ar nr1 cr)) 29)) := fun u hu => below_keeps hu hk5 (by have := HS5.out; omega)
        have HB35 : Hid (Below w3.heap.size w3 w5) := HB.out.trans (HB5.out.mono HB.out.size)
        have HBW5 : Hid (Below w.heap.size w w5) := HBW3.out.trans (HB35.out.mono HBW3.out.size)
        have HP5 : Hid (∀ u, Below w5.heap.size w5 u → u.heap[pb]? = some (.cells (pkCells (wh o id) (.slice ao no co) (.slice ab nb cb)) 29)) := fun u hu => HPL3.out u (HB35.out.trans (hu.mono HB35.out.size))
        have HSO5 : Hid (∀ u, Below w5.heap.size w5 u → SeesB u (.slice ao no co) (wh o id).opts) := fun u hu => (HSO1.out.below HB13.out).below (HB35.out.trans (hu.mono HB35.out.size))
        have HSM5 : Hid (∀ u, Below w5.heap.size w5 u → SeesB u (.slice aM nr1 (cb - k)) ((B.take (k + nr1)).drop k)) := fun u hu => (HSM.out.below HB13.out).below (HB35.out.trans (hu.mono HB35.out.size))
        have HSQ5 : Hid (∀ u, Below w5.heap.size w5 u → SeesB u (.slice aq nq1 cq) O ∧ SeesB u (.slice ar nr1 cr) ((B.take (k + nn)).drop k)) := fun u hu => ⟨(HSQ.out.below HB5.out).below hu, (HSR.out.below HB5.out).below hu⟩
        have e4 : w5.cell? ⟨qb, 4, none⟩ = some (.int .i64 (k : Int)) := by
          have := pk_at (HQL.out _ (Below.refl _ _)) 4 (by omega)
          rw [this]
          show some (Value.int .i64 (0 + (k : Int))) = _
          rw [Int.zero_add]
        have e3 : w5.cell? ⟨qb, 3, none⟩ = some (.bool true) := pk_at (HQL.out _ (Below.refl _ _)) 3 (by omega)
        have e9 : w5.cell? ⟨qb, 9, none⟩ = some (.slice aq nq1 cq) := pk_at (HQL.out _ (Below.refl _ _)) 9 (by omega)
        have e10 : w5.cell? ⟨qb, 10, none⟩ = some (.slice ar nr1 cr) := pk_at (HQL.out _ (Below.refl _ _)) 10 (by omega)
        have f10 : ∀ u : Beh w5, u.wd.cell? ⟨qb, 10, none⟩ = some (.slice ar nr1 cr) := fun u => pk_at (HQL.out _ u.ok) 10 (by omega)
        have g10 : ∀ u : Beh w5, u.wd.cell? ⟨pb, 10, none⟩ = some (.slice ab nb cb) := fun u => pk_at (HP5.out _ u.ok) 10 (by omega)
        have HE11 : Hid (∀ u : Beh w5, Calls Try.prog 11 #[.slice ar nr1 cr, .slice aM nr1 (cb - k)] u.wd fun e w' => e = .returned (.bool true) ∧ ∃ u' : Beh w5, w' = u'.wd) := fun u => Calls.beh (by
          have := same_any _ _ _ _ u.wd (HSQ5.out _ u.ok).2 (HSM5.out _ u.ok)
          rw [decide_eq_true HBQ.out] at this
          exact this)
        have hqg : decide ((nb : Int) < (k : Int) + (nr1 : Int)) = false := by simp; omega
        clear hk5 hbut5 hqb HLD HZQ HALQ HSZQ
        go_upto_region 17 with fail
        clear e3 e4 e9 e10
        refine wp_region_beh (by kernel_rfl) (by kernel_rfl) ?_
        repeat (go_big_quiet_step (first | (go_at_call 11; exact HE11.out _) | fail))
        refine wpQuiet_nil ?_
        rintro _ ⟨u, rfl⟩
        have HU := hid u.ok
        have HL6 := hid (pk_load (HQL.out _ u.ok))
        have HBC := hid (build_code (partH (wh o id) k O true) _ _ ((B.take (k + nn)).drop k) u.wd (by
          have h1 := HOK.out
          exact ⟨h1.tos, h1.id, ⟨by show _ ≤ (0 : Int) + (k : Int); omega, by show (0 : Int) + (k : Int) ≤ _; omega⟩, h1.ttl, h1.proto, h1.src, h1.dst⟩) (HSQ5.out _ u.ok).1 (HSQ5.out _ u.ok).2 (by show O.length ≤ _; have := HNOQ.out; omega) (by have := HNQ.out; omega))
        rw [← HNQ.out, HRQ.out] at HBC
        obtain ⟨qc2, hqc2⟩ : ∃ qc2, qc2 = pkCells (partH (wh o id) k O true) (.slice aq nq1 cq) (.slice ar nr1 cr) := ⟨_, rfl⟩
        rw [← hqc2] at HL6 HBC
        clear hqc2 f10 g10
        go_wp2_with (first | (refine wpList_ld 29 ⟨qb, 0, none⟩ (.tmp 14) rfl rfl HL6.out rfl ?_) | fail)
        refine HBC.out.mono ?_
        rintro _ w7 ⟨a7, n7, c7, rfl, _, hb7⟩
        have HB7 : Hid (Below w5.heap.size w5 w7) := HU.out.trans (hb7.mono HU.out.size)
        have k7 := HQL.out _ HB7.out
        have l7 := HP5.out _ HB7.out
        have e0 : w7.cell? ⟨qb, 0, none⟩ = some (.int .u8 (o : Int)) := pk_at k7 0 (by omega)
        have e1 : w7.cell? ⟨qb, 1, none⟩ = some (.int .u16 (id : Int)) := pk_at k7 1 (by omega)
        have e2 : w7.cell? ⟨qb, 2, none⟩ = some (.bool false) := pk_at k7 2 (by omega)
        have e5 : w7.cell? ⟨qb, 5, none⟩ = some (.int .u8 200) := pk_at k7 5 (by omega)
        have e6 : w7.cell? ⟨qb, 6, none⟩ = some (.int .u8 17) := pk_at k7 6 (by omega)
        have e7 : w7.cell? ⟨qb, 7, none⟩ = some (.int .u32 167772161) := pk_at k7 7 (by omega)
        have e8 : w7.cell? ⟨qb, 8, none⟩ = some (.int .u32 167772162) := pk_at k7 8 (by omega)
        have e9 : w7.cell? ⟨qb, 9, none⟩ = some (.slice aq nq1 cq) := pk_at k7 9 (by omega)
        have e10 : w7.cell? ⟨qb, 10, none⟩ = some (.slice ar nr1 cr) := pk_at k7 10 (by omega)
        have p7 : w7.cell? ⟨pb, 7, none⟩ = some (.int .u32 167772161) := pk_at l7 7 (by omega)
        have p8 : w7.cell? ⟨pb, 8, none⟩ = some (.int .u32 167772162) := pk_at l7 8 (by omega)
        have p9 : w7.cell? ⟨pb, 9, none⟩ = some (.slice ao no co) := pk_at l7 9 (by omega)
        have HBF : Hid (Below w3.heap.size w3 w7) := HB35.out.trans (HB7.out.mono HB35.out.size)
        clear k7 l7 hb7 HBC HL6
        by_cases hj0 : j = 0
        · subst hj0
          have HEO := hid (same_any _ _ _ _ w7 (HSQ5.out _ HB7.out).1 (HSO5.out _ HB7.out))
          rw [decide_eq_true (HQ3.out rfl)] at HEO
          go_wp2_with fail
          refine HEO.out.mono ?_
          rintro _ w8 ⟨rfl, hb8⟩
          have HB8 : Hid (Below w7.heap.size w7 w8) := hb8
          have e10' : w8.cell? ⟨qb, 10, none⟩ = some (.slice ar nr1 cr) := pk_at (HQL.out _ (HB7.out.trans (HB8.out.mono HB7.out.size))) 10 (by omega)
          clear hb8 e10
          go_wp2_with fail
          go_roundw
          case rel => exact ⟨k + nr1, 0 + 1, later, _, rfl, by go_num, by go_num, by omega, hkn, HCVN, HBF.out.trans (HB8.out.mono HBF.out.size)⟩
          case measure => simp [intOf]; omega
        · have hqj : ((j : Int) == 0) = false := by simp; omega
          go_wp2_with fail
          go_roundw
          case rel => exact ⟨k + nr1, j + 1, later, _, rfl, by go_num, by go_num, by omega, hkn, HCVN, HBF⟩
          case measure => simp [intOf]; omega
    · have HFIN : Hid (k = nb) := by have h1 := HCV.out.fin (by have := HNL.out; omega); have h2 := HNB.out; unfold Hid; omega
      obtain rfl : k = nb := HFIN.out
      have HKR := hid (HPL3.out _ HB.out)
      have e10 : wr.cell? ⟨pb, 10, none⟩ = some (.slice ab k cb) := pk_at HKR.out 10 (by omega)
      have HB1r : Hid (Below w1.heap.size w1 wr) := HB13.out.trans (HB.out.mono HB13.out.size)
      have HBWr : Hid (Below w.heap.size w wr) := HBW3.out.trans (HB.out.mono HBW3.out.size)
      have HPBr : Hid (pb ≤ wr.heap.size) := by have h1 := HPB.out; have h2 := HB1r.out.size; unfold Hid; omega
      clear HCV hk HCV0 HP3 HFIN
      go_wp2_with (first | (refine wpList_st1 rfl 4 (.tmp 210) (.const (.bool true)) rfl pb 2 (.bool true) rfl rfl rfl 29 _ (pkCells (whD o id) (.slice ao no co) (.slice ab k cb)) HKR.out size4 (by show 2 < 11; decide) rfl ?_) | fail)
      intro w5 hk5 hbut5
      have HB5 : Hid (Below w1.heap.size w1 w5) := hbut5.below HB1r.out HB1r.out.size (by have := HPB.out; omega)
      have HBW5 : Hid (Below w.heap.size w w5) := HB1.out.trans (HB5.out.mono HB1.out.size)
      have HS5 : Hid (pb + 1 ≤ w5.heap.size) := by have h1 := (Array.getElem?_eq_some_iff.1 hk5).1; unfold Hid; omega
      have HK5 : Hid (∀ u, Below w5.heap.size w5 u → u.heap[pb]? = some (.cells (pkCells (whD o id) (.slice ao no co) (.slice ab k cb)) 29)) := fun u hu => below_keeps hu hk5 (by have := HS5.out; omega)
      have HOKD : Hid ((whD o id).Ok) := by have h1 := HOK.out; exact ⟨h1.tos, h1.id, h1.off, h1.ttl, h1.proto, h1.src, h1.dst⟩
      have HSP := hid (split_code (whD o id) _ _ B (mt : Int) w5 HOKD.out (HSO1.out.below HB5.out) (HSB1.out.below HB5.out) (by show (wh o id).opts.length ≤ _; have := HNO.out; omega) (by have := HBL.out; omega) (by omega) (by omega))
      have HONE : Hid (nl = 1 ↔ 20 + (wh o id).opts.length + B.length ≤ mt) := by
        unfold Hid
        rw [HNL.out, HLE.out]
        exact cutL_one hm68 (by have := HNO.out; omega)
      have HRD : Hid (refE (whD o id) B.length = 0) := HREF.out
      have HL5 := hid (pk_load hk5)
      obtain ⟨cd, hcd⟩ : ∃ cd, cd = pkCells (whD o id) (.slice ao no co) (.slice ab k cb) := ⟨_, rfl⟩
      rw [← hcd] at HL5 HSP
      have HCD := hid hcd
      clear hk5 hbut5 hcd e10
      by_cases h1 : nl = 1
      · rw [splitL_one (by omega) HRD.out (by have := HONE.out.1 h1; show 20 + (wh o id).opts.length + B.length ≤ (mt : Int).toNat; simpa using this)] at HSP
        subst h1
        go_wp2_with (first | (refine wpList_ld 29 ⟨pb, 0, none⟩ (.tmp 9) rfl rfl HL5.out rfl ?_) | fail)
        refine HSP.out.mono ?_
        rintro _ w6 ⟨v6, rfl, hp6, hb6⟩
        obtain ⟨a6, c6, rfl, _, _⟩ := hp6.shape
        simp only [List.length_singleton] at hp6 ⊢
        obtain ⟨g6, p6, vo6, vb6, rfl, hg6, hx6, HP6⟩ := hp6.at 0 (by omega)
        obtain rfl : (whD o id, B) = p6 := by have := HP6.out; simpa using this
        simp only [Nat.zero_mul] at hx6
        have HB6 := hid hb6
        have HQ1 : Hid (∀ x : World, (∃ u : Beh w6, x = u.wd) → (Instr.loadAt 29 (.pointer (some ⟨g6, 0, none⟩))).run Try.prog x = .ok (.agg (pkCells (whD o id) vo6 vb6)) x) := fun x hx => by obtain ⟨u, rfl⟩ := hx; exact (hx6 _ u.ok).1
        have HQ2 : Hid (∀ x : World, (∃ u : Beh w6, x = u.wd) → (Instr.loadAt 29 (.pointer (some ⟨pb, 0, none⟩))).run Try.prog x = .ok (.agg cd) x) := fun x hx => by
          obtain ⟨u, rfl⟩ := hx
          rw [HCD.out]
          exact pk_load (HK5.out _ (HB6.out.trans (u.ok.mono HB6.out.size)))
        have HES : Hid (∀ u : Beh w6, Calls Try.prog 13 #[.agg (pkCells (whD o id) vo6 vb6), .agg cd] u.wd fun e w' => e = .returned (.bool true) ∧ ∃ u' : Beh w6, w' = u'.wd) := fun u => Calls.beh (by
          rw [HCD.out]
          have h5 := HB5.out.trans ((HB6.out.trans (u.ok.mono HB6.out.size)).mono HB5.out.size)
          exact packets_same (whD o id) B vo6 _ vb6 _ u.wd (hx6 _ u.ok).2.1 (HSO1.out.below h5) (hx6 _ u.ok).2.2 (HSB1.out.below h5))
        generalize pkCells (whD o id) vo6 vb6 = x1 at *
        clear hx6 hp6 hb6 HSP HL5 HP6
        go_upto_region 30 with fail
        refine wp_region_beh (by kernel_rfl) (by kernel_rfl) ?_
        repeat (first
          | (refine wpQuiet_ld 29 ⟨g6, 0, none⟩ (.tmp 229) (by rfl) (by rfl) HQ1.out (by rfl) ?_; simp only [Act.put, List.setIfInBounds_toArray, List.set_cons_zero, List.set_cons_succ])
          | (refine wpQuiet_ld 29 ⟨pb, 0, none⟩ (.tmp 9) (by rfl) (by rfl) HQ2.out (by rfl) ?_; simp only [Act.put, List.setIfInBounds_toArray, List.set_cons_zero, List.set_cons_succ])
          | (go_big_quiet_step (first | (go_at_call 13; exact HES.out _) | fail)))
        refine wpQuiet_nil ?_
        rintro _ ⟨u, rfl⟩
        go_wp2_with fail
        go_ret
        exact ⟨rfl, HBW5.out.trans ((HB6.out.trans (u.ok.mono HB6.out.size)).mono HBW5.out.size)⟩
      · rw [splitL_df (by omega) HRD.out (by have := mt_not HONE.out h1; show ¬ 20 + (wh o id).opts.length + B.length ≤ (mt : Int).toNat; simpa using this) rfl] at HSP
        have hq1 : ((nl : Int) == 1) = false := by simp; omega
        go_wp2_with (first | (refine wpList_ld 29 ⟨pb, 0, none⟩ (.tmp 9) rfl rfl HL5.out rfl ?_) | fail)
        refine HSP.out.mono ?_
        rintro _ w6 ⟨v6, rfl, hp6, hb6⟩
        obtain ⟨a6, c6, rfl, _, _⟩ := hp6.shape
        simp only [List.length_nil] at hp6 ⊢
        have HB6 := hid hb6
        clear hp6 hb6 HSP HL5
        go_wp2_with fail
        go_ret
        exact ⟨rfl, HBW5.out.trans (HB6.out.mono HBW5.out.size)⟩
end Go.Proofs.Ytdoeebbcieiimaa
