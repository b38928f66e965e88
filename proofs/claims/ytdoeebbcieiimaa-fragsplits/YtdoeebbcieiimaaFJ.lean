import Derived.Test.YtdoeebbcieiimaaFI
namespace Go.Proofs.Ytdoeebbcieiimaa
open Go.ChangeShapes Go.WideShapes Go.ChangeAt Go.RowKit
set_option maxHeartbeats 4000000
set_option maxRecDepth 100000

theorem RTurn.fin {w wr : World} {base : Nat} {h : Hd} {vo vp : Value} {B later O : List Nat} {m : Int} {k : Nat} {total ps : List Pk} (t : RTurn w wr base h vo B later m.toNat total ps vp O k) (hf : 20 + O.length + (B.length - k) ≤ m.toNat) (hm : ¬ m < 68) (he : refE h B.length = 0)
    (ht : total = cutL later m.toNat B.length h B) (hl : later = (M.copied h.opts).1) : splitL h B m = (total, 0) := by
  rcases t.how with ⟨rfl, rfl, rfl, rfl⟩ | ⟨_, _, _, hd⟩
  · have hf' : 20 + h.opts.length + B.length ≤ m.toNat := by omega
    rw [splitL_one hm he hf', ht, cutL_fits hf']
  · by_cases hf' : 20 + h.opts.length + B.length ≤ m.toNat
    · rw [splitL_one hm he hf', ht, cutL_fits hf']
    · rw [splitL_cut hm he hf' hd, ht, hl]

theorem RTurn.dfE {w wr : World} {base : Nat} {h : Hd} {vo vp : Value} {B later O : List Nat} {m : Int} {k : Nat} {total ps : List Pk} (t : RTurn w wr base h vo B later m.toNat total ps vp O k) (hf : ¬ 20 + O.length + (B.length - k) ≤ m.toNat) (hm : ¬ m < 68) (he : refE h B.length = 0) (hd : h.df = true) : splitL h B m = ([], 51) := by
  rcases t.how with ⟨rfl, rfl, rfl, rfl⟩ | ⟨_, _, _, hd'⟩
  · exact splitL_df hm he (by omega) hd
  · rw [hd] at hd'; cases hd'

theorem split_ref (h : Hd) (vo vb : Value) (B : List Nat) (m : Int) (w : World) (hok : h.Ok) (hvo : SeesB w vo h.opts) (hvb : SeesB w vb B) (hlb : B.length ≤ 140737488355328) (hm2 : m ≤ 9223372036854775807) :
    Calls Try.prog 19 #[.agg (pkCells h vo vb), .int .i64 m] w fun e w' => ∃ v', e = .returned (.tuple #[v', .int .i64 (splitL h B m).2]) ∧ PkRow w' w.heap.size v' (splitL h B m).1 ∧ Below w.heap.size w w' := by
  obtain ⟨w1, hw1⟩ : ∃ w1, w1 = w.alloc (.cells (pkCells h vo vb) 29) := ⟨_, rfl⟩
  have hb1 : Below w.heap.size w w1 := by rw [hw1]; exact (Below.refl _ _).alloc (Nat.le_refl _) _
  have hs1 : w1.heap.size = w.heap.size + 1 := by rw [hw1]; simp
  have hk1 : w1.heap[w.heap.size]? = some (.cells (pkCells h vo vb) 29) := by rw [hw1]; exact heap_alloc_new w _
  have HKP : Hid (∀ u, Below w1.heap.size w1 u → u.heap[w.heap.size]? = some (.cells (pkCells h vo vb) 29)) := fun u hu => below_keeps hu hk1 (by omega)
  have HLD : Hid (∀ u, Below w1.heap.size w1 u → (Instr.loadAt 29 (.pointer (some ⟨w.heap.size, 0, none⟩))).run Try.prog u = .ok (.agg (pkCells h vo vb)) u) := fun u hu => pk_load (HKP.out u hu)
  have HCE : Hid (∀ u, Below w1.heap.size w1 u → u.cell? ⟨w.heap.size, 2, none⟩ = some (.bool h.df) ∧ u.cell? ⟨w.heap.size, 3, none⟩ = some (.bool h.mf) ∧ u.cell? ⟨w.heap.size, 9, none⟩ = some vo ∧ u.cell? ⟨w.heap.size, 10, none⟩ = some vb) := fun u hu => ⟨pk_at (HKP.out u hu) 2 (by omega), pk_at (HKP.out u hu) 3 (by omega), pk_at (HKP.out u hu) 9 (by omega), pk_at (HKP.out u hu) 10 (by omega)⟩
  have HBD := hid (build_refS h vo vb B w1 hok (hvo.below hb1) (hvb.below hb1) hlb)
  have HL1 := hid (HLD.out _ (Below.refl _ _))
  have HW1 := hid hw1
  have HB1 := hid hb1
  have HVO := hid hvo
  have HVB := hid hvb
  obtain ⟨E, hE⟩ : ∃ E, E = refE h B.length := ⟨_, rfl⟩
  rw [← hE] at HBD
  have HE := hid hE
  obtain ⟨R, hR⟩ : ∃ R, R = splitL h B m := ⟨_, rfl⟩
  rw [← hR]
  have HR := hid hR
  obtain ⟨cs, hcs⟩ : ∃ cs, cs = pkCells h vo vb := ⟨_, rfl⟩
  rw [← hcs] at HW1 HLD HBD HL1 ⊢
  have HCS := hid hcs
  clear hcs hw1 hb1 hs1 hk1 hE hR HKP hlb
  by_cases hm : m < 68
  · have HRE : Hid (R = ([], 50)) := by unfold Hid; rw [HR.out, splitL_mtu hm]
    clear hvo hvb hok
    go_enter Try.func19, Try.ntmps19
    go_upto_region 1 with fail
    rw [← HW1.out]
    go_wp2_with fail
    refine bodyPost_ret (results_tmp2 Try.results19 _ _ _) rfl ?_
    exact ⟨.slice none 0 0, by rw [HRE.out]; rfl, by rw [HRE.out]; exact pkRow_nil _ _, HB1.out⟩
  · by_cases he : E = 0
    · subst he
      obtain ⟨r1, r2, r3⟩ := refE_ok HE.out.symm
      obtain ⟨l1, _⟩ := area_len r1
      obtain ⟨f0, hf0, hf1, _⟩ := piece_off r2
      obtain ⟨la, ll, le⟩ := later_area r1
      have lby := later_bytes hvo.bytes
      obtain ⟨later, hlat⟩ : ∃ later, later = (M.copied h.opts).1 := ⟨_, rfl⟩
      obtain ⟨total, htot⟩ : ∃ total, total = cutL later m.toNat B.length h B := ⟨_, rfl⟩
      have HTL : Hid (total.length ≤ 65536) := by
        have := cutL_len (later := later) (mtu := m.toNat) B.length h B
        rw [← htot] at this
        unfold Hid; omega
      rw [← hlat] at ll lby
      have HCP : Hid (∀ (u : World), Below w.heap.size w u → Calls Try.prog 48 #[vo] u fun e w' => ∃ v', e = .returned (.tuple #[v', .int .i64 0]) ∧ OwnB w' u.heap.size v' later ∧ Below u.heap.size u w') := fun u hu => by
        have := copied_ref vo h.opts u (hvo.below hu)
        rw [le, ← hlat] at this
        exact this
      obtain ⟨mtu, hmtu⟩ : ∃ mtu, mtu = m.toNat := ⟨_, rfl⟩
      have em : m = (mtu : Int) := by omega
      have hm68 : 68 ≤ mtu := by omega
      obtain ⟨nb, hnb⟩ : ∃ nb, nb = B.length := ⟨_, rfl⟩
      have hnb64 : nb ≤ 65515 := by omega
      have HNB := hid hnb
      have HPT : Hid (∀ (u : World) (vp : Value) (O : List Nat) (a b : Nat) (mf : Bool), Below w.heap.size w u → SeesB u vp O → O.length ≤ 40 → a ≤ b → b ≤ nb → Calls Try.prog 47 #[.agg cs, .int .i64 (a : Int), .int .i64 (b : Int), vp, .bool mf] u fun e w' => ∃ vo' vb', e = .returned (.agg (pkCells (partH h a O mf) vo' vb')) ∧ OwnB w' (u.heap.size + 3) vo' O ∧ OwnB w' (u.heap.size + 3) vb' ((B.take b).drop a) ∧ Below u.heap.size u w') := fun u vp O a b mf hu hs ho hab hb => by
        rw [HCS.out]
        exact part_any h vo vb vp B O a b mf u (hvo.below hu) (hvb.below hu) hs (by omega) (by omega) hab (by omega) (by omega) ho
      have HFT : Hid (∀ (u : World) (vp : Value) (O : List Nat), SeesB u vp O → O.length ≤ 40 → Calls Try.prog 46 #[vp, .int .i64 (mtu : Int)] u fun e w' => e = .returned (.int .i64 ((mtu : Int) - 20 - (O.length : Int))) ∧ w' = u) := fun u vp O hs ho => fits_any vp O mtu u hs ho (by omega) (by omega)
      have HBY : Hid ((∀ x ∈ later, x < 256) ∧ (∀ x ∈ B, x < 256) ∧ later.length ≤ 40) := ⟨lby, hvb.bytes, ll⟩
      obtain ⟨ab, nb', cb, rfl, HNB', _, _⟩ := hvb.shape
      obtain rfl : nb' = nb := by have := HNB'.out; omega
      obtain ⟨ao, no, co, rfl, HNO, _, _⟩ := hvo.shape
      have HT0 : Hid (∀ base u, RTurn w u base h (.slice ao no co) B later mtu total [] (.slice ao no co) h.opts 0) := fun base u => ⟨l1, by omega, ⟨B.length, by simp, by rw [partH_zero, List.drop_zero, List.nil_append, htot, hmtu]⟩, .inl ⟨rfl, rfl, rfl, rfl⟩⟩
      have HFIN : Hid (∀ (u : World) (base : Nat) (ps : List Pk) (vp : Value) (O : List Nat) (k : Nat), RTurn w u base h (.slice ao no co) B later mtu total ps vp O k → (20 + O.length + (nb' - k) ≤ mtu → R = (total, 0)) ∧ (¬ 20 + O.length + (nb' - k) ≤ mtu → h.df = true → R = ([], 51))) := fun u base ps vp O k t => by
        rw [hmtu] at t ⊢
        rw [hnb, HR.out]
        exact ⟨fun hf => t.fin hf hm HE.out.symm htot hlat, fun hf hd => t.dfE hf hm HE.out.symm hd⟩
      subst em
      have HMT := hid hmtu
      have HHM := hid hm
      clear hvo hvb hok r1 r2 r3 l1 hf0 hf1 la ll le lby hlat htot hmtu hnb hm
      have hmm : ¬ (mtu : Int) < 68 := by omega
      obtain ⟨c2, c3, c9, c10⟩ := HCE.out _ (Below.refl _ _)
      go_enter Try.func19, Try.ntmps19
      go_upto_region 1 with fail
      rw [← HW1.out]
      go_wp2_with (first | (refine wpList_ld 29 ⟨w.heap.size, 0, none⟩ (.tmp 2) rfl rfl HL1.out rfl ?_) | fail)
      refine HBD.out.mono ?_
      rintro _ w2 ⟨abb, nbb, cbb, rfl, _, hb2⟩
      have HB2 := hid hb2
      have HBW2 : Hid (Below w.heap.size w w2) := HB1.out.trans (hb2.mono HB1.out.size)
      clear c2 c3 c9 c10
      obtain ⟨c2, c3, c9, c10⟩ := HCE.out _ hb2
      clear hb2 HBD HL1
      go_wp2_with fail
      go_loopw [7, 8, 9, 10] (fun e v vp kk wv => ∃ (ps : List Pk) (O : List Nat) (k : Nat) (wr : World) (vq : Value), wr = wv ∧ vq = vp ∧ e = .int .i64 0 ∧ kk = .int .i64 (k : Int) ∧ Hid (PkRow wr w2.heap.size v ps) ∧ Hid (RTurn w wr w2.heap.size h (.slice ao no co) B later mtu total ps vq O k) ∧ Hid (Below w2.heap.size w2 wr)) (fun _ v _ _ _ => total.length - lenOf v)
      case atStart => exact ⟨[], h.opts, 0, _, _, rfl, rfl, rfl, rfl, pkRow_nil _ _, HT0.out _ _, Below.refl _ _⟩
      case round =>
        obtain ⟨ps, O, k, wr, vq, rfl, rfl, rfl, rfl, HP, HT, HB⟩ := hrel
        clear c2 c3 c9 c10
        obtain ⟨np, hnp⟩ : ∃ np, np = ps.length := ⟨_, rfl⟩
        obtain ⟨av, cv, rfl, _, _⟩ := HP.out.shape
        rw [← hnp] at HP ⊢
        have HNP := hid hnp
        have HBW : Hid (Below w.heap.size w wr) := HBW2.out.trans (HB.out.mono HBW2.out.size)
        have HB1r : Hid (Below w1.heap.size w1 wr) := HB2.out.trans (HB.out.mono HB2.out.size)
        have HSO := hid (HT.out.sees HVO.out HBW.out HBY.out.1)
        have hol := HT.out.ol
        have hkl : k ≤ nb' := by have := HT.out.kl; have := HNB.out; omega
        have HF := hid (HFT.out wr _ O HSO.out hol)
        obtain ⟨no1, hno1⟩ : ∃ no1, no1 = O.length := ⟨_, rfl⟩
        rw [← hno1] at HF hol
        have HNO1 := hid hno1
        obtain ⟨c2, c3, c9, c10⟩ := HCE.out _ HB1r.out
        have HL := hid (HLD.out _ HB1r.out)
        have HSZ : Hid (w2.heap.size ≤ wr.heap.size) := HB.out.size
        clear hnp hno1
        by_cases hfit : 20 + no1 + (nb' - k) ≤ mtu
        · have hq : ((nb' : Int) - (k : Int) ≤ (mtu : Int) - 20 - (no1 : Int)) = True := by simp; omega
          have HPC := hid (HPT.out wr _ O k nb' h.mf HBW.out HSO.out (by have := HNO1.out; omega) hkl (Nat.le_refl _))
          have HRE : Hid (R = (total, 0)) := (HFIN.out _ _ _ _ _ _ HT.out).1 (by rw [← HNO1.out]; exact hfit)
          have HLAST : Hid (ps ++ [(partH h k O h.mf, (B.take nb').drop k)] = total) := by
            have := HT.out.last (by rw [← HNO1.out, ← HNB.out]; exact hfit)
            rw [List.take_of_length_le (by rw [← HNB.out]; omega)]
            exact this
          generalize h.mf = mf at *
          go_wp2_with fail
          refine HF.out.mono ?_
          rintro _ _ ⟨rfl, e⟩
          obtain rfl := e.symm
          go_wp2_with (first | (refine wpList_ld 29 ⟨w.heap.size, 0, none⟩ (.tmp 2) rfl rfl HL.out rfl ?_) | fail)
          refine HPC.out.mono ?_
          rintro _ w5 ⟨vo5, vb5, rfl, ho5, hob5, hb5⟩
          have HB5 := hid hb5
          have HOK : Hid (PkOk w5 w2.heap.size ((partH h k O mf, (B.take nb').drop k), vo5, vb5)) := by
            have h1 := HSZ.out
            exact ⟨OwnB.low ho5 (by omega), OwnB.low hob5 (by omega), HSO.out.bytes, fun b hb => HBY.out.2.1 b (List.mem_of_mem_take (List.mem_of_mem_drop hb))⟩
          have HPR : Hid (PkRow w5 w2.heap.size (.slice av np cv) ps) := HP.out.below HB5.out
          have HS5 : Hid (w2.heap.size ≤ w5.heap.size) := by have h1 := HB5.out.size; have h2 := HSZ.out; unfold Hid; omega
          have HPL : Hid (ps.length ≤ 65536) := by
            have h1 := HTL.out
            rw [← HLAST.out, List.length_append] at h1
            unfold Hid; omega
          clear ho5 hob5 hb5 HPC HL
          go_wp2_with (first | (refine wpList_bs1 rfl (.tmp 46) rfl (partH h k O mf) vo5 vb5 rfl ?_) | (at_builtin; refine wpList_append_pk rfl _ _ rfl w2.heap.size _ ps rfl (HPR.out.below ((Below.refl _ _).alloc (Nat.le_refl _) _)) (partH h k O mf, (B.take nb').drop k) vo5 vb5 w5.heap.size rfl (heap_alloc_new w5 _) ?c3 ?c4 ?c5 ?_) | fail)
          case c3 =>
            have hA : Below w5.heap.size w5 (w5.alloc (.cells (pkCells (partH h k O mf) vo5 vb5) 29)) := (Below.refl _ _).alloc (Nat.le_refl _) _
            exact ⟨HOK.out.opts.below hA, HOK.out.body.below hA, HOK.out.ob, HOK.out.bb⟩
          case c4 => have := HPL.out; omega
          case c5 => have := HS5.out; simp; omega
          intro v' w7 hp7 hb7
          rw [HLAST.out] at hp7
          have HP7 := hid hp7
          have HB7 : Hid (Below w.heap.size w w7) := by
            have h1 : Below w2.heap.size w5 w7 := ((Below.refl _ _).alloc HS5.out _).trans hb7
            exact (HBW.out.trans (HB5.out.mono HBW.out.size)).trans (h1.mono HBW2.out.size)
          clear hp7 hb7
          go_wp2_with fail
          refine bodyPost_ret (results_tmp2 Try.results19 _ _ _) rfl ?_
          exact ⟨_, by rw [HRE.out]; rfl, by rw [HRE.out]; exact HP7.out.low HBW2.out.size, HB7.out⟩
        · have hq : ((nb' : Int) - (k : Int) ≤ (mtu : Int) - 20 - (no1 : Int)) = False := by simp; omega
          have HNF : Hid (¬ 20 + O.length + (B.length - k) ≤ mtu) := by rw [← HNO1.out, ← HNB.out]; exact hfit
          obtain ⟨d, hd⟩ : ∃ d, d = h.df := ⟨_, rfl⟩
          rw [← hd] at c2
          have HD := hid hd
          clear hd
          cases d with
          | true =>
            have HRE : Hid (R = ([], 51)) := (HFIN.out _ _ _ _ _ _ HT.out).2 (by rw [← HNO1.out]; exact hfit) HD.out.symm
            go_wp2_with fail
            refine HF.out.mono ?_
            rintro _ _ ⟨rfl, e⟩
            obtain rfl := e.symm
            go_wp2_with fail
            refine bodyPost_ret (results_tmp2 Try.results19 _ _ _) rfl ?_
            exact ⟨.slice none 0 0, by rw [HRE.out]; rfl, by rw [HRE.out]; exact pkRow_nil _ _, HBW.out⟩
          | false =>
            obtain ⟨n, hn⟩ : ∃ n, n = (mtu - (20 + no1)) / 8 * 8 := ⟨_, rfl⟩
            have HNE : Hid (((mtu : Int) - 20 - (no1 : Int)) / 8 * 8 = (n : Int)) := by unfold Hid; omega
            have hn1 : k + n ≤ nb' := by omega
            have hn2 : n ≤ 65535 := by omega
            have HN := hid hn
            have HPC := hid (HPT.out wr _ O k (k + n) true HBW.out HSO.out (by have := HNO1.out; omega) (by omega) hn1)
            have ekn : (((k + n : Nat)) : Int) = (k : Int) + (n : Int) := by omega
            rw [ekn] at HPC
            have HMORE : Hid (∀ w' vp', OwnB w' w2.heap.size vp' later → RTurn w w' w2.heap.size h (.slice ao no co) B later mtu total (ps ++ [(partH h k O true, (B.take (k + n)).drop k)]) vp' later (k + n) ∧ ps.length + 2 ≤ total.length) := fun w' vp' ho' => HT.out.more hm68 HBY.out.2.2 HNF.out HD.out.symm n (by rw [← HNO1.out]; exact HN.out) ho'
            clear hn ekn
            go_wp2_with fail
            refine HF.out.mono ?_
            rintro _ _ ⟨rfl, e⟩
            obtain rfl := e.symm
            go_upto_region 16 with fail
            rw [HNE.out]
            go_wp2_with (first | (refine wpList_ld 29 ⟨w.heap.size, 0, none⟩ (.tmp 2) rfl rfl HL.out rfl ?_) | fail)
            refine HPC.out.mono ?_
            rintro _ w5 ⟨vo5, vb5, rfl, ho5, hob5, hb5⟩
            have HB5 := hid hb5
            have HOK : Hid (PkOk w5 w2.heap.size ((partH h k O true, (B.take (k + n)).drop k), vo5, vb5)) := by
              have h1 := HSZ.out
              exact ⟨OwnB.low ho5 (by omega), OwnB.low hob5 (by omega), HSO.out.bytes, fun b hb => HBY.out.2.1 b (List.mem_of_mem_take (List.mem_of_mem_drop hb))⟩
            have HPR : Hid (PkRow w5 w2.heap.size (.slice av np cv) ps) := HP.out.below HB5.out
            have HS5 : Hid (w2.heap.size ≤ w5.heap.size) := by have h1 := HB5.out.size; have h2 := HSZ.out; unfold Hid; omega
            have HPL : Hid (ps.length ≤ 65536) := by
              obtain ⟨f, _, e⟩ := HT.out.eq
              have h1 := HTL.out
              rw [← e, List.length_append] at h1
              unfold Hid; omega
            clear ho5 hob5 hb5 HPC HL
            go_wp2_with (first | (refine wpList_bs1 rfl (.tmp 63) rfl (partH h k O true) vo5 vb5 rfl ?_) | (at_builtin; refine wpList_append_pkK rfl _ _ rfl w2.heap.size _ ps rfl (HPR.out.below ((Below.refl _ _).alloc (Nat.le_refl _) _)) (partH h k O true, (B.take (k + n)).drop k) vo5 vb5 w5.heap.size rfl (heap_alloc_new w5 _) ?c3 ?c4 ?c5 ?_) | fail)
            case c3 =>
              have hA : Below w5.heap.size w5 (w5.alloc (.cells (pkCells (partH h k O true) vo5 vb5) 29)) := (Below.refl _ _).alloc (Nat.le_refl _) _
              exact ⟨HOK.out.opts.below hA, HOK.out.body.below hA, HOK.out.ob, HOK.out.bb⟩
            case c4 => have := HPL.out; omega
            case c5 => have := HS5.out; simp; omega
            intro v' w7 hp7 hb7 hkeep
            obtain ⟨av7, cv7, rfl, _, _⟩ := hp7.shape
            rw [show (ps ++ [(partH h k O true, (B.take (k + n)).drop k)]).length = np + 1 from by rw [List.length_append, ← HNP.out]; rfl] at hp7 ⊢
            have HP7 := hid hp7
            have HB57 : Hid (Below w2.heap.size w5 w7) := ((Below.refl _ _).alloc HS5.out _).trans hb7
            have HB7 : Hid (Below w2.heap.size w2 w7) := (HB.out.trans (HB5.out.mono HB.out.size)).trans HB57.out
            have HBW7 : Hid (Below w.heap.size w w7) := HBW2.out.trans (HB7.out.mono HBW2.out.size)
            have HKEEP : Hid (∀ (b : Nat) (u : Value) (L : List Nat), OwnB wr b u L → OwnB w7 b u L) := fun b u L hO => hkeep b u L ((hO.below HB5.out).below ((Below.refl _ _).alloc (Nat.le_refl _) _))
            have HHOW := hid HT.out.how
            clear hp7 hb7 hkeep c2 c3 c9 c10
            by_cases h0 : np = 0
            · subst h0
              obtain ⟨rfl⟩ : ps = [] := List.eq_nil_of_length_eq_zero HNP.out.symm
              rcases HHOW.out with ⟨_, hvv, _, _⟩ | ⟨hc, _⟩
              · subst hvv
                have HCQ := hid (HCP.out _ HBW7.out)
                go_wp2_with fail
                refine HCQ.out.mono ?_
                rintro _ w8 ⟨v8, rfl, ho8, hb8⟩
                have HO8 : Hid (OwnB w8 w2.heap.size v8 later) := OwnB.low ho8 HB7.out.size
                have HP8 := hid (HP7.out.below hb8)
                have HB8 : Hid (Below w2.heap.size w2 w8) := HB7.out.trans (hb8.mono HB7.out.size)
                have HM := HMORE.out _ _ HO8.out
                have HM1 := hid HM.1
                have HM2 := hid HM.2
                clear HM ho8 hb8 HCQ
                go_wp2_with fail
                go_roundw
                case rel => exact ⟨_, later, k + n, _, _, rfl, rfl, rfl, by go_num, HP8, HM1, HB8⟩
                case measure => have := HM2.out; simp [lenOf]; simp at this; omega
              · exact absurd rfl hc
            · have hq2 : ((np : Int) + 1 == 1) = false := by simp; omega
              rcases HHOW.out with ⟨hc, _⟩ | ⟨_, hoo, hol2, _⟩
              · exact absurd (by rw [HNP.out, hc]; rfl) h0
              · have HO8 : Hid (OwnB w7 w2.heap.size vq later) := by
                  have := HKEEP.out _ _ _ hoo
                  rw [hol2] at this
                  exact this
                have HM := HMORE.out _ _ HO8.out
                have HM1 := hid HM.1
                have HM2 := hid HM.2
                clear HM hoo hol2
                go_wp2_with fail
                go_roundw
                case rel => exact ⟨_, later, k + n, _, _, rfl, rfl, rfl, by go_num, HP7, HM1, HB7⟩
                case measure => have := HM2.out; have h2 := HNP.out; simp [lenOf]; omega
    · have hq : (E != 0) = true := by simp [he]
      have HRE : Hid (R = ([], E)) := by unfold Hid; rw [HR.out, splitL_bad hm (by rw [← HE.out]; exact he), ← HE.out]
      clear hvo hvb hok
      go_enter Try.func19, Try.ntmps19
      go_upto_region 1 with fail
      rw [← HW1.out]
      go_wp2_with (first | (refine wpList_ld 29 ⟨w.heap.size, 0, none⟩ (.tmp 2) rfl rfl HL1.out rfl ?_) | fail)
      refine HBD.out.mono ?_
      rintro _ w2 ⟨abb, nbb, cbb, rfl, _, hb2⟩
      go_wp2_with fail
      refine bodyPost_ret (results_tmp2 Try.results19 _ _ _) rfl ?_
      exact ⟨.slice none 0 0, by rw [HRE.out]; rfl, by rw [HRE.out]; exact pkRow_nil _ _, HB1.out.trans (hb2.mono HB1.out.size)⟩
end Go.Proofs.Ytdoeebbcieiimaa
