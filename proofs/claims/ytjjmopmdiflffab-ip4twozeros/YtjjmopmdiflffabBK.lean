import Derived.Test.YtjjmopmdiflffabMathD
import Derived.Test.YtjjmopmdiflffabWI
import Derived.Test.YtjjmopmdiflffabWF
namespace Go.Proofs.Ytjjmopmdiflffab
open Go.ChangeShapes Go.WideShapes Go.ChangeAt Go.RowKit
set_option maxHeartbeats 1000000
set_option maxRecDepth 100000

theorem lclone_any (v : Value) (L : List Nat) (w : World) (hv : SeesB w v L) (hl : L.length ≤ 1099511627776) :
    Calls Try.prog 20 #[v] w fun e w' => ∃ v', e = .returned v' ∧ OwnB w' w.heap.size v' L ∧ Below w.heap.size w w' := by
  obtain ⟨ao, n, cap, rfl, HN, hn1, hn2⟩ := hv.shape
  have HV := hid hv
  have hnl : n ≤ 1099511627776 := by have := HN.out; omega
  clear hv hl
  unfold maxLen at hn2
  go_enter Try.func20, Try.ntmps20
  go_wp2_with fail
  go_loopw [3, 4] (fun t i wr => ∃ q : Nat, i = .int .i64 q ∧ q ≤ n ∧ Hid (OwnB wr w.heap.size t (L.take q)) ∧ Below w.heap.size w wr) (fun _ i _ => n - (intOf i).toNat)
  case atStart => exact ⟨0, rfl, by omega, ownB_nil _ _, Below.refl _ _⟩
  case round =>
    obtain ⟨q, rfl, hq, HO, hb⟩ := hrel
    by_cases hlt : q < n
    · obtain ⟨ga, oa, x, rfl, hga, hca, hx, HX⟩ := (HV.out.below hb).at q hlt
      have HF : Hid (L.take q ++ [x] = L.take (q + 1)) := by unfold Hid; rw [take_snoc HX.out]
      go_wp2_with (at_builtin; refine wpList_append_bytes rfl _ _ rfl w.heap.size _ _ rfl (HO.out.alloc _) _ [x] rfl (sees_one rfl x hx _) ?c1 ?c2 ?_)
      case c1 => rw [List.length_take]; simp only [List.length_cons, List.length_nil]; omega
      case c2 => have := hb.size; simp; omega
      intro v' w6 ho hb6
      rw [HF.out] at ho
      have HO6 := hid ho
      have hb7 := (hb.alloc hb.size _).trans hb6
      clear ho hb6 hca
      go_wp2_with fail
      go_roundw
      case rel => exact ⟨q + 1, by go_num, by omega, HO6, hb7⟩
      case measure => simp [intOf]; omega
    · have HE : Hid (L.take q = L) := by
        unfold Hid; rw [List.take_of_length_le (by have := HN.out; omega)]
      rw [HE.out] at HO
      go_wp2_with fail
      go_ret
      exact ⟨_, rfl, HO.out, hb⟩

theorem word_x (v : Value) (i : Int) (j : Nat) (L : List Nat) (w : World) (hv : SeesB w v L) (hi : i = (j : Int)) (hl : j + 2 ≤ L.length) (hj : j ≤ 1000) :
    Calls Try.prog 25 #[v, .int .i64 i] w fun e w' => e = .returned (.int .i64 ((w16 L j : Nat) : Int)) ∧ w' = w.drew := by
  subst hi
  obtain ⟨ao, n, cap, rfl, HN, hn1, hn2⟩ := hv.shape
  have h2 : j + 2 ≤ n := by have := HN.out; omega
  obtain ⟨g, off, rfl, hg, hc0⟩ := hv.atB j (by omega)
  obtain ⟨g', off', he, hg', hc1⟩ := hv.atB (j + 1) (by omega)
  simp at he
  obtain ⟨rfl, rfl⟩ := he
  have hp := byt_lt hv.bytes j
  have hq := byt_lt hv.bytes (j + 1)
  have HR : Hid (w16 L j = byt L j * 256 + byt L (j + 1)) := rfl
  generalize w16 L j = r at *
  generalize byt L j = p at *
  generalize byt L (j + 1) = q at *
  clear hv
  have b0 : j < n := by omega
  have b1 : j + 1 < n := by omega
  have b2 : (j : Int) + 1 < (n : Int) := by omega
  have b3 : (0 : Int) ≤ (j : Int) + 1 := by omega
  have hc1' := hc1
  rw [← Nat.add_assoc] at hc1'
  go_enter Try.func25, Try.ntmps25
  go_wp2
  go_region
  go_wp2
  go_ret
  exact ⟨ret_int (by rw [HR.out]; omega), rfl⟩

/-- Back, refused. -/
theorem back_bad (h : Hd) (vo vb vt : Value) (B : List Nat) (w : World) (hok : h.Ok) (hvo : SeesB w vo h.opts) (hvb : SeesB w vb B) (hlo : h.opts.length ≤ 140737488355328) (hlb : B.length ≤ 140737488355328) (he : refE h B.length ≠ 0) :
    Calls Try.prog 12 #[.agg (pkCells h vo vb), vt, .bool true] w fun e w' => e = .returned (.bool true) ∧ Below w.heap.size w w' := by
  obtain ⟨w1, hw1⟩ : ∃ w1, w1 = w.alloc (.cells (pkCells h vo vb) 29) := ⟨_, rfl⟩
  have hb1 : Below w.heap.size w w1 := by rw [hw1]; exact (Below.refl _ _).alloc (Nat.le_refl _) _
  have hk1 : w1.heap[w.heap.size]? = some (.cells (pkCells h vo vb) 29) := by rw [hw1]; exact heap_alloc_new w _
  have HBD := hid (build_code h vo vb B w1 hok (hvo.below hb1) (hvb.below hb1) hlo hlb)
  have HL1 := hid (pk_load hk1)
  have HNIL : Hid (builtL h B = []) := by unfold Hid builtL; rw [if_neg he]
  have HW1 := hid hw1
  have HB1 := hid hb1
  generalize refE h B.length = q at *
  have hq : (q != 0) = true := by simp [he]
  generalize pkCells h vo vb = pk at *
  clear hw1 hb1 hk1 hvo hvb he
  go_enter Try.func12, Try.ntmps12
  go_upto_region 1 with fail
  rw [← HW1.out]
  go_wp2_with (first | (refine wpList_ld 29 ⟨w.heap.size, 0, none⟩ (.tmp 3) rfl rfl HL1.out rfl ?_) | fail)
  refine HBD.out.mono ?_
  rintro _ w2 ⟨a1, n1, c1, rfl, h1, hb2⟩
  rw [HNIL.out] at h1
  obtain rfl : n1 = 0 := by
    obtain ⟨_, _, hv, _⟩ := h1
    simp at hv; exact hv.2.1
  clear h1
  go_wp2_with fail
  go_ret
  exact ⟨rfl, HB1.out.trans (hb2.mono HB1.out.size)⟩

set_option maxHeartbeats 2000000 in
/-- Back, built and read. -/
theorem back_good (h : Hd) (vo vb vt : Value) (B T : List Nat) (refused : Bool) (w : World) (hok : h.Ok) (hvo : SeesB w vo h.opts) (hvb : SeesB w vb B) (hvt : SeesB w vt T) (hlt : T.length ≤ 1099511627776) (he : refE h B.length = 0) :
    Calls Try.prog 12 #[.agg (pkCells h vo vb), vt, .bool refused] w fun e w' => e = .returned (.bool true) ∧ Below w.heap.size w w' := by
  obtain ⟨r1, r2, r3⟩ := refE_ok he
  obtain ⟨w1, hw1⟩ : ∃ w1, w1 = w.alloc (.cells (pkCells h vo vb) 29) := ⟨_, rfl⟩
  have hb1 : Below w.heap.size w w1 := by rw [hw1]; exact (Below.refl _ _).alloc (Nat.le_refl _) _
  have hs1 : w1.heap.size = w.heap.size + 1 := by rw [hw1]; simp
  have HK : Hid (∀ u, Below w1.heap.size w1 u → u.heap[w.heap.size]? = some (.cells (pkCells h vo vb) 29)) := fun u hu => by
    rw [hu.block _ (by omega), hw1]; exact heap_alloc_new w _
  have HLK : Hid (∀ u, Below w1.heap.size w1 u → (Instr.loadAt 29 (.pointer (some ⟨w.heap.size, 0, none⟩))).run Try.prog u = .ok (.agg (pkCells h vo vb)) u) := fun u hu => pk_load (HK.out u hu)
  have HLH : Hid (∀ u, Below w1.heap.size w1 u → (Instr.loadAt 27 (.pointer (some ⟨w.heap.size, 0, none⟩))).run Try.prog u = .ok (.agg (hdCells h vo)) u) := fun u hu => pk_loadH (HK.out u hu)
  have HBD := build_code h vo vb B w1 hok (hvo.below hb1) (hvb.below hb1) (by omega) (by omega)
  rw [he] at HBD
  have HBD := hid HBD
  obtain ⟨x1, x2, x3, x4⟩ := parse_built h B T hok he true
  obtain ⟨y1, _, _, _⟩ := parse_built h B T hok he false
  have htk : (builtL h B ++ T).take (lenOfPk h B) = builtL h B := List.take_left' x2
  have hp : parsed (builtL h B ++ T) = (h, B, 0) := by
    unfold parsed
    rw [x1]
    simp only
    rw [if_pos trivial, htk, x3, x4]
  have hr : readL (builtL h B ++ T) false = (h, B, 0) := by
    unfold readL
    rw [y1]
    simp only
    rw [if_pos trivial, htk, x3, x4]
  have HLEN : Hid ((builtL h B).length = 20 + h.opts.length + B.length ∧ w16 (builtL h B) 2 = 20 + h.opts.length + B.length) := by
    refine ⟨x2, ?_⟩
    have e := x1
    have h1 : (exam (builtL h B ++ T) true).2.2 = 0 := by rw [e]
    obtain ⟨f1, f2, f3⟩ := exam_ok h1
    obtain ⟨_, _, _, _, _, _, a7⟩ := lens_ok f1
    rw [← f3, e] at a7
    have : w16 (builtL h B ++ T) 2 = w16 (builtL h B) 2 := by
      unfold w16
      have hbt : ∀ i, i < 20 → byt (builtL h B ++ T) i = byt (builtL h B) i := fun i hi => by
        unfold byt
        rw [List.getD_eq_getElem?_getD, List.getD_eq_getElem?_getD, List.getElem?_append_left (by rw [x2]; unfold lenOfPk; omega)]
      rw [hbt 2 (by omega), hbt 3 (by omega)]
    rw [← this, ← a7]
    rfl
  have HBY : Hid (∀ x ∈ builtL h B, x < 256) := built_bytes hok hvo.bytes hvb.bytes
  have HPC : Hid (∀ (u : World) (v : Value), SeesB u v (builtL h B ++ T) → Calls Try.prog 21 #[v] u fun e w' => ∃ vo vb, e = .returned (.tuple #[.agg (pkCells h vo vb), .int .i64 0]) ∧ SeesB w' vo h.opts ∧ SeesB w' vb B ∧ Below u.heap.size u w') := fun u v hv => by
    have := parse_code v _ u hv (by rw [List.length_append, x2]; unfold lenOfPk; omega)
    rw [hp] at this
    exact this
  have HPK : Hid (∀ (u : World) (v : Value), SeesB u v (builtL h B ++ T) → Calls Try.prog 19 #[v] u fun e w' => ∃ vo vb, e = .returned (.tuple #[.agg (hdCells h vo), vb, .int .i64 0]) ∧ SeesB w' vo h.opts ∧ SeesB w' vb B ∧ Below u.heap.size u w') := fun u v hv => by
    have := read_false v _ u hv (by rw [List.length_append, x2]; unfold lenOfPk; omega)
    rw [hr] at this
    exact this
  have HTT : Hid (∀ x ∈ T, x < 256) := hvt.bytes
  have HVO := hid hvo
  have HVB := hid hvb
  have HVT := hid hvt
  obtain ⟨ao, n, cap, rfl, HN, hn1, hn2⟩ := hvo.shape
  obtain ⟨ab, nb, capb, rfl, HNB, hnb1, hnb2⟩ := hvb.shape
  obtain ⟨at', nt, capt, rfl, HNT, hnt1, hnt2⟩ := hvt.shape
  have HCC : Hid (∀ u, Below w1.heap.size w1 u → u.cell? ⟨w.heap.size, 9, none⟩ = some (.slice ao n cap) ∧ u.cell? ⟨w.heap.size, 10, none⟩ = some (.slice ab nb capb)) := fun u hu => ⟨pk_at (HK.out u hu) 9 (by omega), pk_at (HK.out u hu) 10 (by omega)⟩
  have HBW : Hid (∀ u, Below w1.heap.size w1 u → Below w.heap.size w u) := fun u hu => hb1.trans (hu.mono hb1.size)
  have HL1 := hid (HLK.out _ (Below.refl _ _))
  have HW1 := hid hw1
  have hnn : n + nb ≤ 65515 := by have := HN.out; have := HNB.out; omega
  have HLT := hid hlt
  rw [← HN.out, ← HNB.out] at HLEN
  clear hw1 hb1 hs1 hvo hvb hvt he r1 r2 r3 x1 x2 x3 x4 y1 htk hp hr HK hlt hok
  generalize builtL h B = bl at *
  generalize hpk : pkCells h (.slice ao n cap) (.slice ab nb capb) = pk at *
  have HPKE := hid hpk
  clear hpk
  go_enter Try.func12, Try.ntmps12
  go_upto_region 1 with fail
  rw [← HW1.out]
  go_wp2_with (first | (refine wpList_ld 29 ⟨w.heap.size, 0, none⟩ (.tmp 3) rfl rfl HL1.out rfl ?_) | fail)
  refine HBD.out.mono ?_
  rintro _ w2 ⟨a1, n1, c1, rfl, h1, hb2⟩
  have hn1e : n1 = 20 + n + nb := by
    obtain ⟨_, _, hv, _⟩ := h1
    simp at hv
    rw [hv.2.1, HLEN.out.1]
  obtain ⟨e9, e10⟩ := HCC.out _ hb2
  have HWX := hid (word_x _ 2 2 bl w2 h1 rfl (by rw [HLEN.out.1]; omega) (by omega))
  rw [HLEN.out.2, ← hn1e] at HWX
  have hq1 : ((n1 : Int) != 20 + (n : Int) + (nb : Int)) = false := by simp; omega
  have hq2 : ((n1 : Int) != (n1 : Int)) = false := by simp
  have HN1 := hid hn1e
  have HS1 := hid h1
  have HB2 := hid hb2
  clear h1 hb2 hn1e HL1
  go_wp2_with fail
  refine HWX.out.mono ?_
  rintro _ _ ⟨rfl, rfl⟩
  have hb3 : Below w1.heap.size w1 w2.drew := below_drew HB2.out
  have h3 : SeesB w2.drew (.slice a1 n1 c1) bl := HS1.out.below (below_drew (Below.refl _ _))
  generalize w2.drew = w3 at hb3 h3 ⊢
  have HCA := hid (lclone_any _ bl w3 h3 (by rw [HLEN.out.1]; omega))
  have HH3 := hid h3
  have HB3 := hid hb3
  clear h3 hb3 e9 e10 HWX HS1 HB2 HBD
  go_wp2_with fail
  refine HCA.out.mono ?_
  rintro _ w4 ⟨v4, rfl, hO4, hb4⟩
  have hs4 := hO4.sees HBY.out
  obtain ⟨a4, n4, c4, rfl, _, _, _⟩ := hs4.shape
  have hb14 := HB3.out.trans (hb4.mono HB3.out.size)
  have HT4 := hid (HVT.out.below (HBW.out _ hb14))
  have HO4 := hid hO4
  have HB34 := hid hb4
  have HB14 := hid hb14
  clear hs4 hO4 hb4 hb14 HCA
  go_wp2_with (at_builtin; refine wpList_append_bytes rfl _ _ rfl w3.heap.size _ _ rfl HO4.out _ T rfl HT4.out ?c1 ?c2 ?_)
  case c1 => rw [HLEN.out.1]; have := HLT.out; omega
  case c2 => exact HB34.out.size
  intro v5 w5 hO5 hb5
  have hs5 := hO5.sees (fun x hx => by
    rcases List.mem_append.1 hx with hx | hx
    · exact HBY.out x hx
    · exact HTT.out x hx)
  obtain ⟨a5, n5, c5, rfl, _, _, _⟩ := hs5.shape
  have hb35 : Below w3.heap.size w3 w5 := HB34.out.trans hb5
  have HPR := hid (HPC.out w5 _ hs5)
  have HB35 := hid hb35
  have HB15 := hid (HB3.out.trans (hb35.mono HB3.out.size))
  clear hO5 hb5 hs5 hb35 HO4 HT4 HB34 HB14
  go_wp2_with fail
  refine HPR.out.mono ?_
  rintro _ w6 ⟨va, xa, rfl, ha, ka, hb6⟩
  obtain ⟨a6, n6, c6, rfl, _, _, _⟩ := ha.shape
  obtain ⟨a7, n7, c7, rfl, _, _, _⟩ := ka.shape
  obtain ⟨pa, hpa⟩ : ∃ pa : Array Value, pa = pkCells h (.slice a6 n6 c6) (.slice a7 n7 c7) := ⟨_, rfl⟩
  have HPA := hid hpa
  have hpz : pa.size = Z29.size := by rw [hpa]; rfl
  have HZA : Hid ((Try.prog.info? 29).map (·.size) = some pa.size) := by unfold Hid; rw [hpa]; exact size29'
  have HOA : Hid (pa.all (·.oneCell') = true) := by unfold Hid; rw [hpa]; simp [pkCells, Value.oneCell']
  have HTA := hid (new_there (u := w6) (T := 29) hpz)
  have HNA := new_put (u := w6) (T := 29) hpz
  obtain ⟨w7, hw7⟩ : ∃ w7, w7 = (w6.alloc (.cells Z29 29)).setCells w6.heap.size 0 pa.toList := ⟨_, rfl⟩
  rw [← hw7] at HNA
  have HW7 : Hid (w7 = (w6.alloc (.cells #[.int .u8 0, .int .u16 0, .bool false, .bool false, .int .i64 0, .int .u8 0, .int .u8 0, .int .u32 0, .int .u32 0, .slice none 0 0, .slice none 0 0] 29)).setCells w6.heap.size 0 pa.toList) := hw7
  have hb57 : Below w5.heap.size w5 w7 := hb6.trans (HNA.below.mono hb6.size)
  have hb17 : Below w1.heap.size w1 w7 := HB15.out.trans (hb57.mono HB15.out.size)
  have hb37 : Below w3.heap.size w3 w7 := HB35.out.trans (hb57.mono HB35.out.size)
  have HLA := hid (load_range HNA.range und29 HZA.out)
  have HLP := hid (HLK.out _ hb17)
  have HPKT : Hid (Calls Try.prog 24 #[.agg pk, .agg pa] w7 fun e w' => e = .returned (.bool true) ∧ Below w7.heap.size w7 w') := by
    unfold Hid
    rw [HPA.out, ← HPKE.out]
    exact packets_same h B _ _ _ _ w7 (HVO.out.below (HBW.out _ hb17)) (ha.below HNA.below) (HVB.out.below (HBW.out _ hb17)) (ka.below HNA.below)
  have HB17 := hid hb17
  have HB37 := hid hb37
  rw [← hpa]
  clear hpa hpz hw7 hb6 hb57 hb17 hb37 ha ka HPR HNA
  go_upto_region 8 with (first
    | (refine wpList_store_mid rfl 29 (.tmp 10) (.tmp 53) rfl w6.heap.size 0 pa rfl rfl HTA.out HZA.out HOA.out ?_)
    | fail)
  rw [← HW7.out]
  go_wp2_with (first
    | (refine wpList_ld 29 ⟨w.heap.size, 0, none⟩ (.tmp 3) rfl rfl HLP.out rfl ?_)
    | (refine wpList_ld 29 ⟨w6.heap.size, 0, none⟩ (.tmp 10) rfl rfl HLA.out rfl ?_)
    | fail)
  refine HPKT.out.mono ?_
  rintro _ w8 ⟨rfl, hb8⟩
  have HB18 := hid (HB17.out.trans (hb8.mono HB17.out.size))
  have HB38 := hid (HB37.out.trans (hb8.mono HB37.out.size))
  have HCA := hid (lclone_any _ bl w8 (HH3.out.below HB38.out) (by rw [HLEN.out.1]; omega))
  clear hb8 HPKT HLA HLP
  go_wp2_with fail
  refine HCA.out.mono ?_
  rintro _ w9 ⟨v9, rfl, hO9, hb9⟩
  have hs9 := hO9.sees HBY.out
  obtain ⟨a9, n9, c9, rfl, _, _, _⟩ := hs9.shape
  have hb19 := HB18.out.trans (hb9.mono HB18.out.size)
  have HT9 := hid (HVT.out.below (HBW.out _ hb19))
  have HO9 := hid hO9
  have HB89 := hid hb9
  clear hs9 hO9 hb9 hb19 HCA
  go_wp2_with (at_builtin; refine wpList_append_bytes rfl _ _ rfl w8.heap.size _ _ rfl HO9.out _ T rfl HT9.out ?c1 ?c2 ?_)
  case c1 => rw [HLEN.out.1]; have := HLT.out; omega
  case c2 => exact HB89.out.size
  intro v10 w10 hO10 hb10
  have hs10 := hO10.sees (fun x hx => by
    rcases List.mem_append.1 hx with hx | hx
    · exact HBY.out x hx
    · exact HTT.out x hx)
  obtain ⟨a10, n10, c10, rfl, _, _, _⟩ := hs10.shape
  have hb810 : Below w8.heap.size w8 w10 := HB89.out.trans hb10
  have HPR := hid (HPK.out w10 _ hs10)
  have HB110 := hid (HB18.out.trans (hb810.mono HB18.out.size))
  clear hO10 hb10 hs10 hb810 HO9 HT9 HB89
  go_wp2_with fail
  refine HPR.out.mono ?_
  rintro _ w11 ⟨vc, xc, rfl, hc, kc, hb11⟩
  obtain ⟨a11, n11, c11, rfl, _, _, _⟩ := hc.shape
  obtain ⟨a12, n12, c12, rfl, _, _, _⟩ := kc.shape
  obtain ⟨pb, hpb⟩ : ∃ pb : Array Value, pb = hdCells h (.slice a11 n11 c11) := ⟨_, rfl⟩
  have HPB := hid hpb
  have hpz : pb.size = Z27c.size := by rw [hpb]; rfl
  have HZB : Hid ((Try.prog.info? 27).map (·.size) = some pb.size) := by unfold Hid; rw [hpb]; exact size27
  have HOB : Hid (pb.all (·.oneCell') = true) := by unfold Hid; rw [hpb]; exact hd_one _ _ _ _
  have HTB := hid (new_there (u := w11) (T := 27) hpz)
  have HNB' := new_put (u := w11) (T := 27) hpz
  obtain ⟨w12, hw12⟩ : ∃ w12, w12 = (w11.alloc (.cells Z27c 27)).setCells w11.heap.size 0 pb.toList := ⟨_, rfl⟩
  rw [← hw12] at HNB'
  have HW12 : Hid (w12 = (w11.alloc (.cells #[.int .u8 0, .int .u16 0, .bool false, .bool false, .int .i64 0, .int .u8 0, .int .u8 0, .int .u32 0, .int .u32 0, .slice none 0 0] 27)).setCells w11.heap.size 0 pb.toList) := hw12
  have hb1012 : Below w10.heap.size w10 w12 := hb11.trans (HNB'.below.mono hb11.size)
  have hb112 : Below w1.heap.size w1 w12 := HB110.out.trans (hb1012.mono HB110.out.size)
  have HLB := hid (load_range HNB'.range und27 HZB.out)
  have HLHP := hid (HLH.out _ hb112)
  have HHD : Hid (Calls Try.prog 22 #[.agg pb, .agg (hdCells h (.slice ao n cap))] w12 fun e w' => e = .returned (.bool true) ∧ Below w12.heap.size w12 w') := by
    unfold Hid
    rw [HPB.out]
    exact heads_same h _ _ w12 (hc.below HNB'.below) (HVO.out.below (HBW.out _ hb112))
  have HSM : Hid (∀ u, Below w12.heap.size w12 u → Calls Try.prog 23 #[.slice a12 n12 c12, .slice ab nb capb] u fun e w' => e = .returned (.bool true) ∧ Below u.heap.size u w') := fun u hu => by
    have := same_any (.slice a12 n12 c12) (.slice ab nb capb) B B u ((kc.below HNB'.below).below hu) ((HVB.out.below (HBW.out _ hb112)).below hu)
    rw [decide_eq_true (rfl : B = B)] at this
    exact this
  have HC12 : Hid (∀ u, Below w12.heap.size w12 u → u.cell? ⟨w.heap.size, 10, none⟩ = some (.slice ab nb capb)) := fun u hu => (HCC.out u (hb112.trans (hu.mono hb112.size))).2
  have HB112 := hid hb112
  rw [← hpb]
  generalize hdCells h (.slice ao n cap) = hc0 at *
  clear hpb hpz hw12 hb11 hb1012 hb112 hc kc HPR HNB'
  go_upto_region 11 with (first
    | (refine wpList_store_mid rfl 27 (.tmp 12) (.tmp 69) rfl w11.heap.size 0 pb rfl rfl HTB.out HZB.out HOB.out ?_)
    | fail)
  rw [← HW12.out]
  go_wp2_with (first
    | (refine wpList_ld 27 ⟨w11.heap.size, 0, none⟩ (.tmp 12) rfl rfl HLB.out rfl ?_)
    | (refine wpList_ld 27 ⟨w.heap.size, 0, none⟩ (.tmp 76) rfl rfl HLHP.out rfl ?_)
    | fail)
  refine HHD.out.mono ?_
  rintro _ w13 ⟨rfl, hb13⟩
  have f10 := HC12.out _ hb13
  go_wp2_with fail
  refine (HSM.out _ hb13).mono ?_
  rintro _ w14 ⟨rfl, hb14⟩
  go_wp2_with fail
  go_ret
  have hbz := hb13.trans (hb14.mono hb13.size)
  exact ⟨rfl, HBW.out _ (HB112.out.trans (hbz.mono HB112.out.size))⟩
end Go.Proofs.Ytjjmopmdiflffab
