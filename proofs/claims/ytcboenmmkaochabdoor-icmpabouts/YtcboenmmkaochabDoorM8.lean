import Derived.Test.YtcboenmmkaochabDoorM7
namespace Go.Proofs.YtcboenmmkaochabDoor.N
open Go.ChangeShapes Go.WideShapes Go.ChangeAt Go.RowKit
set_option maxHeartbeats 4000000
set_option maxRecDepth 100000

theorem ex_extract {P : Program} {o : Oper} {a : Act} {w : World} (x : Operand) (i : Nat) (vs : Array Value) (v : Value) (ho : o.op = .extract x i) (hx : a.eval x = .tuple vs) (hv : vs[i]? = some v) : (execOp a.eval o).run P w = .ok (.value v) w := by
  unfold execOp
  simp [ho, hx, Instr.extract, hv]

theorem field_pk0 (b : Nat) (u : World) : (Instr.fieldAt 35 (.pointer (some ⟨b, 0, none⟩)) 0).run Tryd.prog u = .ok (.pointer (some ⟨b, 0, none⟩)) u := by kernel_rfl
theorem field_hd7 (b : Nat) (u : World) : (Instr.fieldAt 33 (.pointer (some ⟨b, 0, none⟩)) 7).run Tryd.prog u = .ok (.pointer (some ⟨b, 7, none⟩)) u := by kernel_rfl
theorem load_ad {u : World} {p : Addr} {x : Int} (h : u.cell? p = some (.int .u32 x)) : (Instr.loadAt 31 (.pointer (some p))).run Tryd.prog u = .ok (.int .u32 x) u := by
  simp [Instr.loadAt, go_sem, h]

/-- Values of a region with a packet that is made in it. -/
def Vp (l : List Value) (base : Nat) (L : List Nat) (mk : Value → Value) : Nat → Value → World → Prop
  | 12, v, w => ∃ a2 n2 c2, v = .tuple #[mk (.slice a2 n2 c2), .int .i64 0] ∧ SeesB w (.slice a2 n2 c2) L ∧ ∀ x, a2 = some x → base ≤ x.block
  | 13, v, w => ∃ a2 n2 c2, v = mk (.slice a2 n2 c2) ∧ SeesB w (.slice a2 n2 c2) L ∧ ∀ x, a2 = some x → base ≤ x.block
  | 14, v, _ => v = .int .i64 0
  | i, v, _ => l[i]? = some v

theorem Vp.keeps (l : List Value) (base : Nat) (L : List Nat) (mk : Value → Value) : ∀ (i : Nat) (v : Value) (w w' : World), Vp l base L mk i v w → Below w.heap.size w w' → Vp l base L mk i v w' := fun i v w w' h hb => by
  unfold Vp at *
  split at h
  · obtain ⟨a, n, c, e, hs, hn⟩ := h
    exact ⟨a, n, c, e, hs.below hb, hn⟩
  · obtain ⟨a, n, c, e, hs, hn⟩ := h
    exact ⟨a, n, c, e, hs.below hb, hn⟩
  · exact h
  · exact h

theorem Vp.plain {l : List Value} {base : Nat} {L : List Nat} {mk : Value → Value} {i : Nat} {v y : Value} {w : World} (h : Vp l base L mk i v w) (h1 : i < 12) (hy : l[i]? = some y) : v = y := by
  unfold Vp at h
  split at h
  · omega
  · omega
  · omega
  · rw [hy] at h
    exact (Option.some.inj h).symm

theorem wp_stillP {P : Program} {o : Oper} {a : Act} {W w : World} {Q : Exit → Act → World → Prop} {l : List Value} {base : Nat} {L : List Nat} {mk : Value → Value} {i : Nat} {t : Tmp} {v : Value} (hr : (execOp a.eval o).run P w = .ok (.value v) w) (ht : o.dst = some t) (h1 : i < 12) (hv : l[i]? = some v) (hW : Below W.heap.size W w) :
    o.wp P a w (fun a' w' => ∃ v', a' = a.put (some t) v' ∧ Vp l base L mk i v' w' ∧ Below W.heap.size W w' ∧ Below w.heap.size w w') Q :=
  wp_val hr (by
    rw [ht]
    refine ⟨v, rfl, ?_, hW, Below.refl _ _⟩
    unfold Vp
    split
    · omega
    · omega
    · omega
    · exact hv)

theorem rfault_any (h : Hd) (vo vb : Value) (B : List Nat) (t c : Nat) (a : Int) (f : Nat) (w : World) (hok : h.Ok) (hvo : SeesB w vo h.opts) (hvb : SeesB w vb B) (hlb : B.length ≤ 140737488355328) (ht : t < 256) (hc : c < 256) (hf : f < 4294967296) :
    Calls Tryd.prog 14 #[.agg (pkCells h vo vb), .int .u8 (t : Int), .int .u8 (c : Int), .int .i64 a, .int .u32 (f : Int)] w fun e w' => ∃ a2 n2 c2, e = .returned (.tuple #[.agg (pkCells (fltP h B t c a f).1 (.slice none 0 0) (.slice a2 n2 c2)), .int .i64 (fltE h B t c a f)]) ∧ SeesB w' (.slice a2 n2 c2) (fltP h B t c a f).2 ∧ (∀ x, a2 = some x → w.heap.size ≤ x.block) ∧ Below w.heap.size w w' := by
  obtain ⟨wa, hwa⟩ : ∃ wa, wa = w.alloc (.cells (pkCells h vo vb) 35) := ⟨_, rfl⟩
  obtain ⟨w1, hw1⟩ : ∃ w1, w1 = (wa.alloc (.cells zeroP 35)).alloc (.cells zeroP 35) := ⟨_, rfl⟩
  have hsa : wa.heap.size = w.heap.size + 1 := by rw [hwa]; simp
  have hs1 : w1.heap.size = w.heap.size + 3 := by rw [hw1]; simp [hsa]
  have hba : Below w.heap.size w wa := by rw [hwa]; exact (Below.refl _ _).alloc (Nat.le_refl _) _
  have hbb : Below wa.heap.size wa w1 := by rw [hw1]; exact ((Below.refl _ _).alloc (Nat.le_refl _) _).alloc (by simp) _
  have hb1 : Below w.heap.size w w1 := hba.trans (hbb.mono (by omega))
  have k0 : w1.heap[w.heap.size]? = some (.cells (pkCells h vo vb) 35 (0, 0)) := by
    rw [hbb.block _ (by omega), hwa]; exact heap_alloc_new w _
  have k1 : w1.heap[w.heap.size + 1]? = some (.cells zeroP 35 (0, 0)) := by
    rw [hw1, Below.heap_alloc _ _ _ (by simp [hsa]), ← hsa]; exact heap_alloc_new wa _
  have k2 : w1.heap[w.heap.size + 2]? = some (.cells zeroP 35 (0, 0)) := by
    have := heap_alloc_new (wa.alloc (.cells zeroP 35)) (.cells zeroP 35)
    rw [World.size_alloc, hsa] at this
    rw [hw1]; exact this
  have HLN : Hid (∀ u, Below w1.heap.size w1 u → (Instr.loadAt 35 (.pointer (some ⟨w.heap.size + 2, 0, none⟩))).run Tryd.prog u = .ok (.agg zeroP) u) := fun u hu => pk_load0 ((hu.block _ (by omega)).trans k2)
  obtain ⟨ao, no, capo, rfl, HNO, hno1, hno2⟩ := hvo.shape
  obtain ⟨ab, nb, capb, rfl, HNB, hnb1, hnb2⟩ := hvb.shape
  unfold maxLen at hno2 hnb2
  have HTH : Hid (∀ u, Below w1.heap.size w1 u → u.there (w.heap.size + 1) 0 11) := fun u hu => there_blk (C := zeroP) (t := 35) ((hu.block _ (by omega)).trans k1) rfl
  have HPC : Hid (∀ u, Below w1.heap.size w1 u → (Instr.loadAt 35 (.pointer (some ⟨w.heap.size, 0, none⟩))).run Tryd.prog u = .ok (.agg (pkCells h (.slice ao no capo) (.slice ab nb capb))) u ∧ u.cell? ⟨w.heap.size, 7, none⟩ = some (.int .u32 (h.src : Int)) ∧ u.cell? ⟨w.heap.size, 9, none⟩ = some (.slice ao no capo) ∧ u.cell? ⟨w.heap.size, 10, none⟩ = some (.slice ab nb capb)) := fun u hu => by
    have hk := (hu.block w.heap.size (by omega)).trans k0
    exact ⟨pk_load hk, pk_at hk 7 (by omega), pk_at hk 9 (by omega), pk_at hk 10 (by omega)⟩
  have HMT : Hid (Calls Tryd.prog 28 #[.int .u8 (t : Int), .int .u8 (c : Int), .int .i64 a] w1 fun e w' => e = .returned (.bool (mayT t c a)) ∧ Below w1.heap.size w1 w') := (may_any t c a w1).mono fun e w' hh => ⟨hh.1, by rw [hh.2]; exact Below.refl _ _⟩
  have HIP : Hid (∀ u, Below w1.heap.size w1 u → Calls Tryd.prog 29 #[.int .u32 (f : Int)] u fun e w' => e = .returned (.bool (pln f)) ∧ Below u.heap.size u w') := fun u _ => (plainR_any f u hf).mono fun e w' hh => ⟨hh.1, by rw [hh.2]; exact Below.refl _ _⟩
  have HBD : Hid (∀ u, Below w1.heap.size w1 u → Calls Tryd.prog 30 #[.agg (pkCells h (.slice ao no capo) (.slice ab nb capb))] u fun e w' => ∃ ao n cap, e = .returned (.tuple #[.slice ao n cap, .int .i64 (refE h B.length)]) ∧ SeesB w' (.slice ao n cap) (builtL h B) ∧ Below u.heap.size u w') := fun u hu => build_refS h _ _ B u hok (hvo.below (hb1.trans (hu.mono hb1.size))) (hvb.below (hb1.trans (hu.mono hb1.size))) hlb
  have HTD : Hid (∀ u, Below w1.heap.size w1 u → Calls Tryd.prog 31 #[.agg (pkCells h (.slice ao no capo) (.slice ab nb capb))] u fun e w' => e = .returned (.bool (!told h B)) ∧ Below u.heap.size u w') := fun u hu => quiet_any h _ _ B u hok (hvb.below (hb1.trans (hu.mono hb1.size)))
  have HBL : Hid (refE h B.length = 0 → (builtL h B).length = 20 + no + nb ∧ no ≤ 40 ∧ 20 + no + nb ≤ 65535) := fun he => by
    obtain ⟨r1, r2, r3⟩ := refE_ok he
    obtain ⟨l1, l2⟩ := area_len r1
    have := built_len he
    have e1 := HNO.out
    have e2 := HNB.out
    omega
  have HQ : Hid (fltQ h B = 20 + no + min nb 8) := by unfold Hid fltQ; rw [HNO.out, HNB.out]
  have HBB : Hid (∀ x ∈ builtL h B, x < 256) := built_bytes hok hvo.bytes hvb.bytes
  have HW1 : Hid (w1 = ((w.alloc (.cells (pkCells h (.slice ao no capo) (.slice ab nb capb)) 35)).alloc (.cells #[.int .u8 0, .int .u16 0, .bool false, .bool false, .int .i64 0, .int .u8 0, .int .u8 0, .int .u32 0, .int .u32 0, .slice none 0 0, .slice none 0 0] 35)).alloc (.cells #[.int .u8 0, .int .u16 0, .bool false, .bool false, .int .i64 0, .int .u8 0, .int .u8 0, .int .u32 0, .int .u32 0, .slice none 0 0, .slice none 0 0] 35)) := by unfold Hid; rw [hw1, hwa]; rfl
  have HB1 := hid hb1
  have HS1 := hid hs1
  have HBW : Hid (∀ u, Below w1.heap.size w1 u → Below w.heap.size w u) := fun u hu => hb1.trans (hu.mono hb1.size)
  have HA : Hid (fltE h B t c a f = if (mayT t c a && pln f) = true then (if refE h B.length ≠ 0 then refE h B.length else if told h B = true then 0 else 61) else 1) := rfl
  have HPP : Hid (fltP h B t c a f = if fltE h B t c a f = 0 then (mdH 0 f h.src, Im.laid (fltM h B t c a)) else (zeroH, [])) := rfl
  have HFM : Hid (fltM h B t c a = ⟨t, c, rstN t a.toNat, (builtL h B).take (fltQ h B)⟩) := rfl
  have HMA : Hid (mayT t c a = true → 0 ≤ a ∧ a ≤ mxA t c) := fun e => by unfold mayT at e; simp at e; exact e.2
  have HSRC := hid hok.src
  clear hwa hw1 hsa hs1 hba hbb hb1 k0 k1 k2 hvb hvo hok hlb
  generalize fltP h B t c a f = AB at *
  generalize fltE h B t c a f = AE at *
  generalize fltM h B t c a = FM at *
  generalize fltQ h B = FQ at *
  generalize refE h B.length = q at *
  generalize builtL h B = BL at *
  generalize told h B = td at *
  generalize hmay : mayT t c a = my at *
  generalize hpl : pln f = pf at *
  generalize pkCells h (.slice ao no capo) (.slice ab nb capb) = pk at *
  generalize h.src = src at *
  clear hmay hpl
  obtain ⟨zz, hzz⟩ : ∃ zz : Array Value, zz = zeroP := ⟨_, rfl⟩
  have HONE : Hid (zz.all (·.oneCell') = true) := by unfold Hid; rw [hzz]; simp [zeroP, Value.oneCell']
  have HINF : Hid ((Tryd.prog.info? 35).map (·.size) = some zz.size) := by unfold Hid; rw [hzz]; exact size_pk
  have HZC : Hid (zz = pkCells zeroH (.slice none 0 0) (.slice none 0 0)) := hzz
  have HZS : Hid (zz.size = 11) := by unfold Hid; rw [hzz]; rfl
  have HLZ : Hid (∀ u, Below w1.heap.size w1 u → (Instr.loadAt 35 (.pointer (some ⟨w.heap.size + 2, 0, none⟩))).run Tryd.prog u = .ok (.agg zz) u) := by unfold Hid; rw [hzz]; exact HLN.out
  clear hzz HLN
  go_enter Tryd.func14, Tryd.ntmps14
  go_upto_region 2 with fail
  rw [← HW1.out]
  go_wp2_with fail
  refine HMT.out.mono ?_
  rintro _ w2 ⟨rfl, hb2⟩
  cases my with
  | false =>
    have HE2 : Hid (AE = 1) := by unfold Hid; rw [HA.out, if_neg (by simp)]
    have HP2 : Hid (AB = (zeroH, [])) := by unfold Hid; rw [HPP.out, HE2.out, if_neg (by decide)]
    have HTU : Hid (w2.there (w.heap.size + 1) 0 zz.size) := by unfold Hid; rw [HZS.out]; exact HTH.out _ hb2
    have HLZ2 := hid (HLZ.out _ hb2)
    obtain ⟨q1, q2⟩ := res_end (w := w) HTU.out (by omega) (HBW.out _ hb2) Tryd.underlying35 HINF.out
    have HLV := hid q1
    have HBF := hid q2
    clear q1 q2
    go_wp2_with (first
      | (refine wpList_ld 35 ⟨w.heap.size + 2, 0, none⟩ _ rfl rfl HLZ2.out rfl ?_)
      | (refine wpList_store_mid rfl 35 (.tmp 10) (.tmp 27) rfl (w.heap.size + 1) 0 zz rfl rfl HTU.out HINF.out HONE.out ?_)
      | fail)
    generalize w2.setCells (w.heap.size + 1) 0 zz.toList = wf at HLV HBF ⊢
    refine bodyPost_ret (v := .tuple #[.agg zz, .int .i64 1]) (by simp [results, Tryd.results14, asAddr, HLV.out]) rfl ?_
    rw [HP2.out, HE2.out]
    exact ⟨none, 0, 0, by rw [HZC.out], sees_nil _, (fun a ha => by cases ha), HBF.out⟩
  | true =>
    obtain ⟨ha0, ham⟩ := HMA.out rfl
    have HAM := hid (And.intro ha0 ham)
    clear ha0 ham
    go_wp2_with fail
    refine (HIP.out _ hb2).mono ?_
    rintro _ w3 ⟨rfl, hb3⟩
    have hb13 := hb2.trans (hb3.mono hb2.size)
    cases pf with
    | false =>
      have HE2 : Hid (AE = 1) := by unfold Hid; rw [HA.out, if_neg (by simp)]
      have HP2 : Hid (AB = (zeroH, [])) := by unfold Hid; rw [HPP.out, HE2.out, if_neg (by decide)]
      have HTU : Hid (w3.there (w.heap.size + 1) 0 zz.size) := by unfold Hid; rw [HZS.out]; exact HTH.out _ hb13
      have HLZ2 := hid (HLZ.out _ hb13)
      obtain ⟨q1, q2⟩ := res_end (w := w) HTU.out (by omega) (HBW.out _ hb13) Tryd.underlying35 HINF.out
      have HLV := hid q1
      have HBF := hid q2
      clear q1 q2
      go_wp2_with (first
        | (refine wpList_ld 35 ⟨w.heap.size + 2, 0, none⟩ _ rfl rfl HLZ2.out rfl ?_)
        | (refine wpList_store_mid rfl 35 (.tmp 10) (.tmp 27) rfl (w.heap.size + 1) 0 zz rfl rfl HTU.out HINF.out HONE.out ?_)
        | fail)
      generalize w3.setCells (w.heap.size + 1) 0 zz.toList = wf at HLV HBF ⊢
      refine bodyPost_ret (v := .tuple #[.agg zz, .int .i64 1]) (by simp [results, Tryd.results14, asAddr, HLV.out]) rfl ?_
      rw [HP2.out, HE2.out]
      exact ⟨none, 0, 0, by rw [HZC.out], sees_nil _, (fun a ha => by cases ha), HBF.out⟩
    | true =>
      have HA2 : Hid (AE = if q ≠ 0 then q else if td = true then 0 else 61) := HA.out
      obtain ⟨p0, _, _, _⟩ := HPC.out _ hb13
      have HL3 := hid p0
      clear p0
      go_wp2_with (first | (refine wpList_ld 35 ⟨w.heap.size, 0, none⟩ _ rfl rfl HL3.out rfl ?_) | fail)
      refine (HBD.out _ hb13).mono ?_
      rintro _ w4 ⟨a4, n4, c4, rfl, hs4, hb4⟩
      have hb14 := hb13.trans (hb4.mono hb13.size)
      by_cases hq : q = 0
      · subst hq
        have HBLH := hid (HBL.out rfl)
        have HA3 : Hid (AE = if td = true then 0 else 61) := by unfold Hid; rw [HA2.out, if_neg (by simp)]
        obtain ⟨p0, _, _, _⟩ := HPC.out _ hb14
        have HL4 := hid p0
        clear p0
        have HS4 := hid hs4
        have HB14 := hid hb14
        clear hs4 hb4 hb13 hb3 hb2 HL3
        go_wp2_with (first | (refine wpList_ld 35 ⟨w.heap.size, 0, none⟩ _ rfl rfl HL4.out rfl ?_) | fail)
        refine (HTD.out _ HB14.out).mono ?_
        rintro _ w5 ⟨rfl, hb5⟩
        have hb15 := HB14.out.trans (hb5.mono HB14.out.size)
        cases td with
        | false =>
          have HE2 : Hid (AE = 61) := HA3.out
          have HP2 : Hid (AB = (zeroH, [])) := by unfold Hid; rw [HPP.out, HE2.out, if_neg (by decide)]
          have HTU : Hid (w5.there (w.heap.size + 1) 0 zz.size) := by unfold Hid; rw [HZS.out]; exact HTH.out _ hb15
          have HLZ2 := hid (HLZ.out _ hb15)
          obtain ⟨q1, q2⟩ := res_end (w := w) HTU.out (by omega) (HBW.out _ hb15) Tryd.underlying35 HINF.out
          have HLV := hid q1
          have HBF := hid q2
          clear q1 q2
          go_wp2_with (first
            | (refine wpList_ld 35 ⟨w.heap.size + 2, 0, none⟩ _ rfl rfl HLZ2.out rfl ?_)
            | (refine wpList_store_mid rfl 35 (.tmp 10) (.tmp 39) rfl (w.heap.size + 1) 0 zz rfl rfl HTU.out HINF.out HONE.out ?_)
            | fail)
          generalize w5.setCells (w.heap.size + 1) 0 zz.toList = wf at HLV HBF ⊢
          refine bodyPost_ret (v := .tuple #[.agg zz, .int .i64 61]) (by simp [results, Tryd.results14, asAddr, HLV.out]) rfl ?_
          rw [HP2.out, HE2.out]
          exact ⟨none, 0, 0, by rw [HZC.out], sees_nil _, (fun a ha => by cases ha), HBF.out⟩
        | true =>
          have HE2 : Hid (AE = 0) := HA3.out
          have HP2 : Hid (AB = (mdH 0 f src, Im.laid FM)) := by unfold Hid; rw [HPP.out, HE2.out, if_pos rfl]
          obtain ⟨_, e7, e9, e10⟩ := HPC.out _ hb15
          have HB15 := hid hb15
          have HBLL := hid HBLH.out.1
          have hno40 := HBLH.out.2.1
          have hnb6 : nb ≤ 65535 := by have := HBLH.out.2.2; omega
          have hn4 : n4 = 20 + no + nb := by
            obtain ⟨_, _, hv, _⟩ := HS4.out
            simp at hv
            rw [hv.2.1, HBLL.out]
          have hq4 : FQ ≤ n4 := by rw [HQ.out]; omega
          have hq4' : FQ ≤ 68 := by rw [HQ.out]; omega
          have HN4 := hid hn4
          clear hn4
          obtain ⟨na, hna⟩ : ∃ na : Nat, a = (na : Int) := ⟨a.toNat, by have := HAM.out.1; omega⟩
          subst hna
          have hmx : (na : Int) ≤ mxA t c := HAM.out.2
          have HRL := hid (rstN_lt hmx)
          have hna65 : na ≤ 65535 := by have := mxA_le t c; omega
          have hcut := cut_high a4 n4 c4 FQ (FQ : Int) rfl hq4 HS4.out
          have HSQ := hid (HS4.out.takeS FQ hq4)
          rw [show (na : Int).toNat = na by omega] at HFM
          clear hmx
          obtain ⟨r, hrn⟩ : ∃ r, r = rstN t na := ⟨_, rfl⟩
          rw [← hrn] at HFM HRL
          have HRN := hid hrn
          clear hrn
          obtain ⟨ct, hct⟩ : ∃ ct : Array Value, ct = #[.int .u8 (t : Int), .int .u8 (c : Int), .int .u32 (r : Int), .slice a4 FQ c4] := ⟨_, rfl⟩
          have HCT := hid hct
          have HE7 := hid e7
          have HCA : Hid (∀ u, Below w5.heap.size w5 u → Calls Tryd.prog 32 #[.int .u8 0, .int .u32 (f : Int), .int .u32 (src : Int), .agg ct] u fun e w' => ∃ a2 n2 c2, e = .returned (.tuple #[.agg (pkCells (mdH 0 f src) (.slice none 0 0) (.slice a2 n2 c2)), .int .i64 0]) ∧ SeesB w' (.slice a2 n2 c2) (Im.laid FM) ∧ (∀ a, a2 = some a → u.heap.size ≤ a.block) ∧ Below u.heap.size u w') := fun u hu => by
            have hsq : SeesB u (.slice a4 FQ c4) (BL.take FQ) := (HSQ.out.below hb5).below hu
            have h := rpacket_any FM (.slice a4 FQ c4) 0 f src u (by rw [HFM.out]; exact ⟨ht, hc, HRL.out⟩) (by rw [HFM.out]; exact hsq) (by rw [HFM.out]; show (BL.take FQ).length ≤ 65507; rw [List.length_take]; omega)
            have e : ctCells FM (.slice a4 FQ c4) = ct := by rw [HFM.out, HCT.out]; rfl
            rw [e] at h
            exact h
          clear hct e7 e10 hq4 hq4' hb5 hb15
          by_cases h8 : nb < 8
          · by_cases h12 : t = 12
            · have HQ2 : Hid ((n4 : Int) = (FQ : Int)) := by unfold Hid; rw [HQ.out, HN4.out]; omega
              have g1 : (n4 : Int) < 20 + (no : Int) + 8 := by have := HN4.out; omega
              have q12 : ((t : Int) == 12) = true := by rw [h12]; rfl
              have HRE : Hid ((na : Int) * 16777216 = (r : Int)) := by unfold Hid; rw [HRN.out]; unfold rstN; rw [if_pos h12]; omega
              have hna : na ≤ 255 := by have := HRL.out; have := HRE.out; omega
              clear h12 h8
              go_upto_region 15 with fail
              rw [HQ2.out, HRE.out]
              generalize hX : (r : Int) = rI at *
              subst hX
              refine wp_region_mono' 15 (fun i => 57 + i) (Vp [.int .u32 (f : Int), .pointer (some ⟨w.heap.size, 0, none⟩), .pointer (some ⟨w.heap.size, 7, none⟩), .int .u32 (src : Int), .int .u8 (t : Int), .int .u8 (c : Int), .int .i64 (r : Int), .int .u32 (r : Int), .slice a4 n4 c4, .int .i64 (FQ : Int), .slice a4 FQ c4, .agg ct] w5.heap.size (Im.laid FM) (fun v => .agg (pkCells (mdH 0 f src) (.slice none 0 0) v))) (by kernel_rfl) (by kernel_rfl) (Vp.keeps _ _ _ _) ?_ ?_
              · simp only [List.take_succ_cons, List.take_zero, stepsOk]
                refine ⟨?_, ?_, ?_, ?_, ?_, ?_, ?_, ?_, ?_, ?_, ?_, ?_, ?_, ?_, ?_, trivial⟩
                · intro a u vs hb hold hdep
                  exact wp_stillP (ex_move (.tmp 4) _ rfl (hold 4 (fun j _ => low (by decide)))) rfl (by decide) rfl hb
                · intro a u vs hb hold hdep
                  exact wp_stillP (ex_field _ _ (.tmp 5) _ _ rfl (hold 5 (fun j _ => low (by decide))) (field_pk0 _ u)) rfl (by decide) rfl hb
                · intro a u vs hb hold hdep
                  have h1 := hdep ⟨1, .data⟩ (by simp) rfl (by decide)
                  exact wp_stillP (ex_field _ _ _ _ _ rfl (h1.1.trans (h1.2.plain (by decide) rfl)) (field_hd7 _ u)) rfl (by decide) rfl hb
                · intro a u vs hb hold hdep
                  have h2 := hdep ⟨2, .data⟩ (by simp) rfl (by decide)
                  exact wp_stillP (ex_load _ _ _ _ rfl (h2.1.trans (h2.2.plain (by decide) rfl)) (load_ad ((hb.cell (p := ⟨w.heap.size, 7, none⟩) (World.block_lt_of_cell? w5 _ HE7.out)).trans HE7.out))) rfl (by decide) rfl hb
                · intro a u vs hb hold hdep
                  exact wp_stillP (ex_move (.tmp 1) _ rfl (hold 1 (fun j _ => low (by decide)))) rfl (by decide) rfl hb
                · intro a u vs hb hold hdep
                  exact wp_stillP (ex_move (.tmp 2) _ rfl (hold 2 (fun j _ => low (by decide)))) rfl (by decide) rfl hb
                · intro a u vs hb hold hdep
                  exact wp_stillP (ex_move (.tmp 16) _ rfl (hold 16 (fun j _ => low (by decide)))) rfl (by decide) rfl hb
                · intro a u vs hb hold hdep
                  have h6 := hdep ⟨6, .data⟩ (by simp) rfl (by decide)
                  exact wp_stillP (ex_conv _ _ _ _ _ rfl (h6.1.trans (h6.2.plain (by decide) rfl)) (conv32 r HRL.out u)) rfl (by decide) rfl hb
                · intro a u vs hb hold hdep
                  exact wp_stillP (ex_move (.tmp 13) _ rfl (hold 13 (fun j _ => low (by decide)))) rfl (by decide) rfl hb
                · intro a u vs hb hold hdep
                  exact wp_stillP (ex_move (.tmp 15) _ rfl (hold 15 (fun j _ => low (by decide)))) rfl (by decide) rfl hb
                · intro a u vs hb hold hdep
                  have h5 := hdep ⟨8, .data⟩ (by simp) rfl (by decide)
                  have h6 := hdep ⟨9, .data⟩ (by simp) rfl (by decide)
                  exact wp_stillP (ex_high _ _ _ _ _ _ rfl (h5.1.trans (h5.2.plain (by decide) rfl)) (h6.1.trans (h6.2.plain (by decide) rfl)) (hcut u)) rfl (by decide) rfl hb
                · intro a u vs hb hold hdep
                  have h0 := hdep ⟨4, .data⟩ (by simp) rfl (by decide)
                  have h1 := hdep ⟨5, .data⟩ (by simp) rfl (by decide)
                  have h4 := hdep ⟨7, .data⟩ (by simp) rfl (by decide)
                  have h7 := hdep ⟨10, .data⟩ (by simp) rfl (by decide)
                  have e0 : a.eval (.tmp 61) = .int .u8 (t : Int) := h0.1.trans (h0.2.plain (by decide) rfl)
                  have e1 : a.eval (.tmp 62) = .int .u8 (c : Int) := h1.1.trans (h1.2.plain (by decide) rfl)
                  have e4 : a.eval (.tmp 64) = .int .u32 (r : Int) := h4.1.trans (h4.2.plain (by decide) rfl)
                  have e7 : a.eval (.tmp 67) = .slice a4 FQ c4 := h7.1.trans (h7.2.plain (by decide) rfl)
                  refine wp_stillP (ex_build _ _ #[(0, .int .u8 (t : Int)), (1, .int .u8 (c : Int)), (2, .int .u32 (r : Int)), (3, .slice a4 FQ c4)] (.agg ct) rfl (by simp only [List.map_toArray, List.map_cons, List.map_nil, e0, e1, e4, e7]) ?_) rfl (by decide) rfl hb
                  rw [HCT.out]
                  exact build_ct _ _ _ _ _ _ u
                · intro a u vs hb hold hdep
                  have h0 := hdep ⟨0, .data⟩ (by simp) rfl (by decide)
                  have h3 := hdep ⟨3, .data⟩ (by simp) rfl (by decide)
                  have h11 := hdep ⟨11, .data⟩ (by simp) rfl (by decide)
                  have e0 : a.eval (.tmp 57) = .int .u32 (f : Int) := h0.1.trans (h0.2.plain (by decide) rfl)
                  have e3 : a.eval (.tmp 60) = .int .u32 (src : Int) := h3.1.trans (h3.2.plain (by decide) rfl)
                  have e11 : a.eval (.tmp 68) = .agg ct := h11.1.trans (h11.2.plain (by decide) rfl)
                  refine wp_call 32 _ _ rfl (enters_of Tryd.func32 (by kernel_rfl) rfl) #[.int .u8 0, .int .u32 (f : Int), .int .u32 (src : Int), .agg ct] (by simp only [List.map_toArray, List.map_cons, List.map_nil, e0, e3, e11]; rfl) ?_
                  refine (HCA.out u hb).mono ?_
                  rintro _ u' ⟨a2, n2, c2, rfl, hs, hn, hb'⟩
                  exact ⟨_, rfl, _, rfl, ⟨a2, n2, c2, rfl, hs, fun x hx => Nat.le_trans hb.size (hn x hx)⟩, hb.trans (hb'.mono hb.size), hb'⟩
                · intro a u vs hb hold hdep
                  have h12 := hdep ⟨12, .data⟩ (by simp) rfl (by decide)
                  obtain ⟨a2, n2, c2, ev, hs, hn⟩ := h12.2
                  exact wp_val (ex_extract _ 0 _ _ rfl (h12.1.trans ev) rfl) ⟨_, rfl, ⟨a2, n2, c2, rfl, hs, hn⟩, hb, Below.refl _ _⟩
                · intro a u vs hb hold hdep
                  have h12 := hdep ⟨12, .data⟩ (by simp) rfl (by decide)
                  obtain ⟨a2, n2, c2, ev, hs, hn⟩ := h12.2
                  exact wp_val (ex_extract _ 1 _ _ rfl (h12.1.trans ev) rfl) ⟨_, rfl, rfl, hb, Below.refl _ _⟩
              intro vs u hb hF
              have e0 := (hF 0 (by decide)).plain (by decide) rfl
              have e1 := (hF 1 (by decide)).plain (by decide) rfl
              have e2 := (hF 2 (by decide)).plain (by decide) rfl
              have e3 := (hF 3 (by decide)).plain (by decide) rfl
              have e4 := (hF 4 (by decide)).plain (by decide) rfl
              have e5 := (hF 5 (by decide)).plain (by decide) rfl
              have e6 := (hF 6 (by decide)).plain (by decide) rfl
              have e7' := (hF 7 (by decide)).plain (by decide) rfl
              have e8 := (hF 8 (by decide)).plain (by decide) rfl
              have e9' := (hF 9 (by decide)).plain (by decide) rfl
              have e10' := (hF 10 (by decide)).plain (by decide) rfl
              have e11 := (hF 11 (by decide)).plain (by decide) rfl
              obtain ⟨a2, n2, c2, e13, hs7, hg7⟩ := hF 13 (by decide)
              have e14 : vs 14 = .int .i64 0 := hF 14 (by decide)
              obtain ⟨yy, hyy⟩ : ∃ yy : Array Value, yy = pkCells (mdH 0 f src) (.slice none 0 0) (.slice a2 n2 c2) := ⟨_, rfl⟩
              have e13' : vs 13 = .agg yy := e13.trans (by rw [hyy])
              generalize vs 12 = v12
              simp only [List.drop_succ_cons, List.drop_zero, puts, List.range, List.range.loop, List.foldr, if_true, Act.put, e0, e1, e2, e3, e4, e5, e6, e7', e8, e9', e10', e11, e13', e14, Nat.reduceAdd, Nat.add_zero, List.setIfInBounds_toArray, List.set_cons_succ, List.set_cons_zero]
              clear e0 e1 e2 e3 e4 e5 e6 e7' e8 e9' e10' e11 e13 e13' e14 hF hcut
              have HYC := hid hyy
              have HOY : Hid (yy.all (·.oneCell') = true) := by unfold Hid; rw [hyy]; simp [pkCells, Value.oneCell']
              have HIY : Hid ((Tryd.prog.info? 35).map (·.size) = some yy.size) := by unfold Hid; rw [hyy]; exact size_pk
              have hb17 := HB15.out.trans (hb.mono HB15.out.size)
              have HTU : Hid (u.there (w.heap.size + 1) 0 yy.size) := by unfold Hid; rw [hyy]; exact HTH.out _ hb17
              obtain ⟨q1, q2⟩ := res_end (w := w) HTU.out (by omega) (HBW.out _ hb17) Tryd.underlying35 HIY.out
              have HLV := hid q1
              have HBF := hid q2
              have HGS : Hid (∀ x, a2 = some x → w.heap.size + 3 ≤ x.block) := fun x hx => by have := hg7 x hx; have := HB15.out.size; have := HS1.out; omega
              have HSF := hid (sees_setI (b := w.heap.size + 1) (vs := yy.toList) hs7 (fun a ha => by have := HGS.out a ha; omega))
              clear q1 q2 hyy hs7 hb17 hb hg7
              go_wp2_with (first
                | (refine wpList_store_mid rfl 35 (.tmp 10) (.tmp 70) rfl (w.heap.size + 1) 0 yy rfl rfl HTU.out HIY.out HOY.out ?_)
                | fail)
              generalize u.setCells (w.heap.size + 1) 0 yy.toList = wf at HLV HBF HSF ⊢
              refine bodyPost_ret (v := .tuple #[.agg yy, .int .i64 0]) (by simp [results, Tryd.results14, asAddr, HLV.out]) rfl ?_
              rw [HP2.out, HE2.out]
              exact ⟨_, _, _, by rw [HYC.out], HSF.out, (fun a ha => by have := HGS.out a ha; omega), HBF.out⟩
            · have HQ2 : Hid ((n4 : Int) = (FQ : Int)) := by unfold Hid; rw [HQ.out, HN4.out]; omega
              have g1 : (n4 : Int) < 20 + (no : Int) + 8 := by have := HN4.out; omega
              have q12 : ((t : Int) == 12) = false := by rw [beq_eq_false_iff_ne]; omega
              have HRE : Hid ((na : Int) = (r : Int)) := by unfold Hid; rw [HRN.out]; unfold rstN; rw [if_neg h12]
              clear h12 h8
              go_upto_region 15 with fail
              rw [HQ2.out, HRE.out]
              generalize hX : (r : Int) = rI at *
              subst hX
              refine wp_region_mono' 15 (fun i => 57 + i) (Vp [.int .u32 (f : Int), .pointer (some ⟨w.heap.size, 0, none⟩), .pointer (some ⟨w.heap.size, 7, none⟩), .int .u32 (src : Int), .int .u8 (t : Int), .int .u8 (c : Int), .int .i64 (r : Int), .int .u32 (r : Int), .slice a4 n4 c4, .int .i64 (FQ : Int), .slice a4 FQ c4, .agg ct] w5.heap.size (Im.laid FM) (fun v => .agg (pkCells (mdH 0 f src) (.slice none 0 0) v))) (by kernel_rfl) (by kernel_rfl) (Vp.keeps _ _ _ _) ?_ ?_
              · simp only [List.take_succ_cons, List.take_zero, stepsOk]
                refine ⟨?_, ?_, ?_, ?_, ?_, ?_, ?_, ?_, ?_, ?_, ?_, ?_, ?_, ?_, ?_, trivial⟩
                · intro a u vs hb hold hdep
                  exact wp_stillP (ex_move (.tmp 4) _ rfl (hold 4 (fun j _ => low (by decide)))) rfl (by decide) rfl hb
                · intro a u vs hb hold hdep
                  exact wp_stillP (ex_field _ _ (.tmp 5) _ _ rfl (hold 5 (fun j _ => low (by decide))) (field_pk0 _ u)) rfl (by decide) rfl hb
                · intro a u vs hb hold hdep
                  have h1 := hdep ⟨1, .data⟩ (by simp) rfl (by decide)
                  exact wp_stillP (ex_field _ _ _ _ _ rfl (h1.1.trans (h1.2.plain (by decide) rfl)) (field_hd7 _ u)) rfl (by decide) rfl hb
                · intro a u vs hb hold hdep
                  have h2 := hdep ⟨2, .data⟩ (by simp) rfl (by decide)
                  exact wp_stillP (ex_load _ _ _ _ rfl (h2.1.trans (h2.2.plain (by decide) rfl)) (load_ad ((hb.cell (p := ⟨w.heap.size, 7, none⟩) (World.block_lt_of_cell? w5 _ HE7.out)).trans HE7.out))) rfl (by decide) rfl hb
                · intro a u vs hb hold hdep
                  exact wp_stillP (ex_move (.tmp 1) _ rfl (hold 1 (fun j _ => low (by decide)))) rfl (by decide) rfl hb
                · intro a u vs hb hold hdep
                  exact wp_stillP (ex_move (.tmp 2) _ rfl (hold 2 (fun j _ => low (by decide)))) rfl (by decide) rfl hb
                · intro a u vs hb hold hdep
                  exact wp_stillP (ex_move (.tmp 16) _ rfl (hold 16 (fun j _ => low (by decide)))) rfl (by decide) rfl hb
                · intro a u vs hb hold hdep
                  have h6 := hdep ⟨6, .data⟩ (by simp) rfl (by decide)
                  exact wp_stillP (ex_conv _ _ _ _ _ rfl (h6.1.trans (h6.2.plain (by decide) rfl)) (conv32 r HRL.out u)) rfl (by decide) rfl hb
                · intro a u vs hb hold hdep
                  exact wp_stillP (ex_move (.tmp 13) _ rfl (hold 13 (fun j _ => low (by decide)))) rfl (by decide) rfl hb
                · intro a u vs hb hold hdep
                  exact wp_stillP (ex_move (.tmp 15) _ rfl (hold 15 (fun j _ => low (by decide)))) rfl (by decide) rfl hb
                · intro a u vs hb hold hdep
                  have h5 := hdep ⟨8, .data⟩ (by simp) rfl (by decide)
                  have h6 := hdep ⟨9, .data⟩ (by simp) rfl (by decide)
                  exact wp_stillP (ex_high _ _ _ _ _ _ rfl (h5.1.trans (h5.2.plain (by decide) rfl)) (h6.1.trans (h6.2.plain (by decide) rfl)) (hcut u)) rfl (by decide) rfl hb
                · intro a u vs hb hold hdep
                  have h0 := hdep ⟨4, .data⟩ (by simp) rfl (by decide)
                  have h1 := hdep ⟨5, .data⟩ (by simp) rfl (by decide)
                  have h4 := hdep ⟨7, .data⟩ (by simp) rfl (by decide)
                  have h7 := hdep ⟨10, .data⟩ (by simp) rfl (by decide)
                  have e0 : a.eval (.tmp 61) = .int .u8 (t : Int) := h0.1.trans (h0.2.plain (by decide) rfl)
                  have e1 : a.eval (.tmp 62) = .int .u8 (c : Int) := h1.1.trans (h1.2.plain (by decide) rfl)
                  have e4 : a.eval (.tmp 64) = .int .u32 (r : Int) := h4.1.trans (h4.2.plain (by decide) rfl)
                  have e7 : a.eval (.tmp 67) = .slice a4 FQ c4 := h7.1.trans (h7.2.plain (by decide) rfl)
                  refine wp_stillP (ex_build _ _ #[(0, .int .u8 (t : Int)), (1, .int .u8 (c : Int)), (2, .int .u32 (r : Int)), (3, .slice a4 FQ c4)] (.agg ct) rfl (by simp only [List.map_toArray, List.map_cons, List.map_nil, e0, e1, e4, e7]) ?_) rfl (by decide) rfl hb
                  rw [HCT.out]
                  exact build_ct _ _ _ _ _ _ u
                · intro a u vs hb hold hdep
                  have h0 := hdep ⟨0, .data⟩ (by simp) rfl (by decide)
                  have h3 := hdep ⟨3, .data⟩ (by simp) rfl (by decide)
                  have h11 := hdep ⟨11, .data⟩ (by simp) rfl (by decide)
                  have e0 : a.eval (.tmp 57) = .int .u32 (f : Int) := h0.1.trans (h0.2.plain (by decide) rfl)
                  have e3 : a.eval (.tmp 60) = .int .u32 (src : Int) := h3.1.trans (h3.2.plain (by decide) rfl)
                  have e11 : a.eval (.tmp 68) = .agg ct := h11.1.trans (h11.2.plain (by decide) rfl)
                  refine wp_call 32 _ _ rfl (enters_of Tryd.func32 (by kernel_rfl) rfl) #[.int .u8 0, .int .u32 (f : Int), .int .u32 (src : Int), .agg ct] (by simp only [List.map_toArray, List.map_cons, List.map_nil, e0, e3, e11]; rfl) ?_
                  refine (HCA.out u hb).mono ?_
                  rintro _ u' ⟨a2, n2, c2, rfl, hs, hn, hb'⟩
                  exact ⟨_, rfl, _, rfl, ⟨a2, n2, c2, rfl, hs, fun x hx => Nat.le_trans hb.size (hn x hx)⟩, hb.trans (hb'.mono hb.size), hb'⟩
                · intro a u vs hb hold hdep
                  have h12 := hdep ⟨12, .data⟩ (by simp) rfl (by decide)
                  obtain ⟨a2, n2, c2, ev, hs, hn⟩ := h12.2
                  exact wp_val (ex_extract _ 0 _ _ rfl (h12.1.trans ev) rfl) ⟨_, rfl, ⟨a2, n2, c2, rfl, hs, hn⟩, hb, Below.refl _ _⟩
                · intro a u vs hb hold hdep
                  have h12 := hdep ⟨12, .data⟩ (by simp) rfl (by decide)
                  obtain ⟨a2, n2, c2, ev, hs, hn⟩ := h12.2
                  exact wp_val (ex_extract _ 1 _ _ rfl (h12.1.trans ev) rfl) ⟨_, rfl, rfl, hb, Below.refl _ _⟩
              intro vs u hb hF
              have e0 := (hF 0 (by decide)).plain (by decide) rfl
              have e1 := (hF 1 (by decide)).plain (by decide) rfl
              have e2 := (hF 2 (by decide)).plain (by decide) rfl
              have e3 := (hF 3 (by decide)).plain (by decide) rfl
              have e4 := (hF 4 (by decide)).plain (by decide) rfl
              have e5 := (hF 5 (by decide)).plain (by decide) rfl
              have e6 := (hF 6 (by decide)).plain (by decide) rfl
              have e7' := (hF 7 (by decide)).plain (by decide) rfl
              have e8 := (hF 8 (by decide)).plain (by decide) rfl
              have e9' := (hF 9 (by decide)).plain (by decide) rfl
              have e10' := (hF 10 (by decide)).plain (by decide) rfl
              have e11 := (hF 11 (by decide)).plain (by decide) rfl
              obtain ⟨a2, n2, c2, e13, hs7, hg7⟩ := hF 13 (by decide)
              have e14 : vs 14 = .int .i64 0 := hF 14 (by decide)
              obtain ⟨yy, hyy⟩ : ∃ yy : Array Value, yy = pkCells (mdH 0 f src) (.slice none 0 0) (.slice a2 n2 c2) := ⟨_, rfl⟩
              have e13' : vs 13 = .agg yy := e13.trans (by rw [hyy])
              generalize vs 12 = v12
              simp only [List.drop_succ_cons, List.drop_zero, puts, List.range, List.range.loop, List.foldr, if_true, Act.put, e0, e1, e2, e3, e4, e5, e6, e7', e8, e9', e10', e11, e13', e14, Nat.reduceAdd, Nat.add_zero, List.setIfInBounds_toArray, List.set_cons_succ, List.set_cons_zero]
              clear e0 e1 e2 e3 e4 e5 e6 e7' e8 e9' e10' e11 e13 e13' e14 hF hcut
              have HYC := hid hyy
              have HOY : Hid (yy.all (·.oneCell') = true) := by unfold Hid; rw [hyy]; simp [pkCells, Value.oneCell']
              have HIY : Hid ((Tryd.prog.info? 35).map (·.size) = some yy.size) := by unfold Hid; rw [hyy]; exact size_pk
              have hb17 := HB15.out.trans (hb.mono HB15.out.size)
              have HTU : Hid (u.there (w.heap.size + 1) 0 yy.size) := by unfold Hid; rw [hyy]; exact HTH.out _ hb17
              obtain ⟨q1, q2⟩ := res_end (w := w) HTU.out (by omega) (HBW.out _ hb17) Tryd.underlying35 HIY.out
              have HLV := hid q1
              have HBF := hid q2
              have HGS : Hid (∀ x, a2 = some x → w.heap.size + 3 ≤ x.block) := fun x hx => by have := hg7 x hx; have := HB15.out.size; have := HS1.out; omega
              have HSF := hid (sees_setI (b := w.heap.size + 1) (vs := yy.toList) hs7 (fun a ha => by have := HGS.out a ha; omega))
              clear q1 q2 hyy hs7 hb17 hb hg7
              go_wp2_with (first
                | (refine wpList_store_mid rfl 35 (.tmp 10) (.tmp 70) rfl (w.heap.size + 1) 0 yy rfl rfl HTU.out HIY.out HOY.out ?_)
                | fail)
              generalize u.setCells (w.heap.size + 1) 0 yy.toList = wf at HLV HBF HSF ⊢
              refine bodyPost_ret (v := .tuple #[.agg yy, .int .i64 0]) (by simp [results, Tryd.results14, asAddr, HLV.out]) rfl ?_
              rw [HP2.out, HE2.out]
              exact ⟨_, _, _, by rw [HYC.out], HSF.out, (fun a ha => by have := HGS.out a ha; omega), HBF.out⟩
          · by_cases h12 : t = 12
            · have HQ2 : Hid ((20 : Int) + (no : Int) + 8 = (FQ : Int)) := by unfold Hid; rw [HQ.out]; omega
              have g1 : ¬ (n4 : Int) < 20 + (no : Int) + 8 := by have := HN4.out; omega
              have q12 : ((t : Int) == 12) = true := by rw [h12]; rfl
              have HRE : Hid ((na : Int) * 16777216 = (r : Int)) := by unfold Hid; rw [HRN.out]; unfold rstN; rw [if_pos h12]; omega
              have hna : na ≤ 255 := by have := HRL.out; have := HRE.out; omega
              clear h12 h8
              go_upto_region 15 with fail
              rw [HQ2.out, HRE.out]
              generalize hX : (r : Int) = rI at *
              subst hX
              refine wp_region_mono' 15 (fun i => 57 + i) (Vp [.int .u32 (f : Int), .pointer (some ⟨w.heap.size, 0, none⟩), .pointer (some ⟨w.heap.size, 7, none⟩), .int .u32 (src : Int), .int .u8 (t : Int), .int .u8 (c : Int), .int .i64 (r : Int), .int .u32 (r : Int), .slice a4 n4 c4, .int .i64 (FQ : Int), .slice a4 FQ c4, .agg ct] w5.heap.size (Im.laid FM) (fun v => .agg (pkCells (mdH 0 f src) (.slice none 0 0) v))) (by kernel_rfl) (by kernel_rfl) (Vp.keeps _ _ _ _) ?_ ?_
              · simp only [List.take_succ_cons, List.take_zero, stepsOk]
                refine ⟨?_, ?_, ?_, ?_, ?_, ?_, ?_, ?_, ?_, ?_, ?_, ?_, ?_, ?_, ?_, trivial⟩
                · intro a u vs hb hold hdep
                  exact wp_stillP (ex_move (.tmp 4) _ rfl (hold 4 (fun j _ => low (by decide)))) rfl (by decide) rfl hb
                · intro a u vs hb hold hdep
                  exact wp_stillP (ex_field _ _ (.tmp 5) _ _ rfl (hold 5 (fun j _ => low (by decide))) (field_pk0 _ u)) rfl (by decide) rfl hb
                · intro a u vs hb hold hdep
                  have h1 := hdep ⟨1, .data⟩ (by simp) rfl (by decide)
                  exact wp_stillP (ex_field _ _ _ _ _ rfl (h1.1.trans (h1.2.plain (by decide) rfl)) (field_hd7 _ u)) rfl (by decide) rfl hb
                · intro a u vs hb hold hdep
                  have h2 := hdep ⟨2, .data⟩ (by simp) rfl (by decide)
                  exact wp_stillP (ex_load _ _ _ _ rfl (h2.1.trans (h2.2.plain (by decide) rfl)) (load_ad ((hb.cell (p := ⟨w.heap.size, 7, none⟩) (World.block_lt_of_cell? w5 _ HE7.out)).trans HE7.out))) rfl (by decide) rfl hb
                · intro a u vs hb hold hdep
                  exact wp_stillP (ex_move (.tmp 1) _ rfl (hold 1 (fun j _ => low (by decide)))) rfl (by decide) rfl hb
                · intro a u vs hb hold hdep
                  exact wp_stillP (ex_move (.tmp 2) _ rfl (hold 2 (fun j _ => low (by decide)))) rfl (by decide) rfl hb
                · intro a u vs hb hold hdep
                  exact wp_stillP (ex_move (.tmp 16) _ rfl (hold 16 (fun j _ => low (by decide)))) rfl (by decide) rfl hb
                · intro a u vs hb hold hdep
                  have h6 := hdep ⟨6, .data⟩ (by simp) rfl (by decide)
                  exact wp_stillP (ex_conv _ _ _ _ _ rfl (h6.1.trans (h6.2.plain (by decide) rfl)) (conv32 r HRL.out u)) rfl (by decide) rfl hb
                · intro a u vs hb hold hdep
                  exact wp_stillP (ex_move (.tmp 13) _ rfl (hold 13 (fun j _ => low (by decide)))) rfl (by decide) rfl hb
                · intro a u vs hb hold hdep
                  exact wp_stillP (ex_move (.tmp 15) _ rfl (hold 15 (fun j _ => low (by decide)))) rfl (by decide) rfl hb
                · intro a u vs hb hold hdep
                  have h5 := hdep ⟨8, .data⟩ (by simp) rfl (by decide)
                  have h6 := hdep ⟨9, .data⟩ (by simp) rfl (by decide)
                  exact wp_stillP (ex_high _ _ _ _ _ _ rfl (h5.1.trans (h5.2.plain (by decide) rfl)) (h6.1.trans (h6.2.plain (by decide) rfl)) (hcut u)) rfl (by decide) rfl hb
                · intro a u vs hb hold hdep
                  have h0 := hdep ⟨4, .data⟩ (by simp) rfl (by decide)
                  have h1 := hdep ⟨5, .data⟩ (by simp) rfl (by decide)
                  have h4 := hdep ⟨7, .data⟩ (by simp) rfl (by decide)
                  have h7 := hdep ⟨10, .data⟩ (by simp) rfl (by decide)
                  have e0 : a.eval (.tmp 61) = .int .u8 (t : Int) := h0.1.trans (h0.2.plain (by decide) rfl)
                  have e1 : a.eval (.tmp 62) = .int .u8 (c : Int) := h1.1.trans (h1.2.plain (by decide) rfl)
                  have e4 : a.eval (.tmp 64) = .int .u32 (r : Int) := h4.1.trans (h4.2.plain (by decide) rfl)
                  have e7 : a.eval (.tmp 67) = .slice a4 FQ c4 := h7.1.trans (h7.2.plain (by decide) rfl)
                  refine wp_stillP (ex_build _ _ #[(0, .int .u8 (t : Int)), (1, .int .u8 (c : Int)), (2, .int .u32 (r : Int)), (3, .slice a4 FQ c4)] (.agg ct) rfl (by simp only [List.map_toArray, List.map_cons, List.map_nil, e0, e1, e4, e7]) ?_) rfl (by decide) rfl hb
                  rw [HCT.out]
                  exact build_ct _ _ _ _ _ _ u
                · intro a u vs hb hold hdep
                  have h0 := hdep ⟨0, .data⟩ (by simp) rfl (by decide)
                  have h3 := hdep ⟨3, .data⟩ (by simp) rfl (by decide)
                  have h11 := hdep ⟨11, .data⟩ (by simp) rfl (by decide)
                  have e0 : a.eval (.tmp 57) = .int .u32 (f : Int) := h0.1.trans (h0.2.plain (by decide) rfl)
                  have e3 : a.eval (.tmp 60) = .int .u32 (src : Int) := h3.1.trans (h3.2.plain (by decide) rfl)
                  have e11 : a.eval (.tmp 68) = .agg ct := h11.1.trans (h11.2.plain (by decide) rfl)
                  refine wp_call 32 _ _ rfl (enters_of Tryd.func32 (by kernel_rfl) rfl) #[.int .u8 0, .int .u32 (f : Int), .int .u32 (src : Int), .agg ct] (by simp only [List.map_toArray, List.map_cons, List.map_nil, e0, e3, e11]; rfl) ?_
                  refine (HCA.out u hb).mono ?_
                  rintro _ u' ⟨a2, n2, c2, rfl, hs, hn, hb'⟩
                  exact ⟨_, rfl, _, rfl, ⟨a2, n2, c2, rfl, hs, fun x hx => Nat.le_trans hb.size (hn x hx)⟩, hb.trans (hb'.mono hb.size), hb'⟩
                · intro a u vs hb hold hdep
                  have h12 := hdep ⟨12, .data⟩ (by simp) rfl (by decide)
                  obtain ⟨a2, n2, c2, ev, hs, hn⟩ := h12.2
                  exact wp_val (ex_extract _ 0 _ _ rfl (h12.1.trans ev) rfl) ⟨_, rfl, ⟨a2, n2, c2, rfl, hs, hn⟩, hb, Below.refl _ _⟩
                · intro a u vs hb hold hdep
                  have h12 := hdep ⟨12, .data⟩ (by simp) rfl (by decide)
                  obtain ⟨a2, n2, c2, ev, hs, hn⟩ := h12.2
                  exact wp_val (ex_extract _ 1 _ _ rfl (h12.1.trans ev) rfl) ⟨_, rfl, rfl, hb, Below.refl _ _⟩
              intro vs u hb hF
              have e0 := (hF 0 (by decide)).plain (by decide) rfl
              have e1 := (hF 1 (by decide)).plain (by decide) rfl
              have e2 := (hF 2 (by decide)).plain (by decide) rfl
              have e3 := (hF 3 (by decide)).plain (by decide) rfl
              have e4 := (hF 4 (by decide)).plain (by decide) rfl
              have e5 := (hF 5 (by decide)).plain (by decide) rfl
              have e6 := (hF 6 (by decide)).plain (by decide) rfl
              have e7' := (hF 7 (by decide)).plain (by decide) rfl
              have e8 := (hF 8 (by decide)).plain (by decide) rfl
              have e9' := (hF 9 (by decide)).plain (by decide) rfl
              have e10' := (hF 10 (by decide)).plain (by decide) rfl
              have e11 := (hF 11 (by decide)).plain (by decide) rfl
              obtain ⟨a2, n2, c2, e13, hs7, hg7⟩ := hF 13 (by decide)
              have e14 : vs 14 = .int .i64 0 := hF 14 (by decide)
              obtain ⟨yy, hyy⟩ : ∃ yy : Array Value, yy = pkCells (mdH 0 f src) (.slice none 0 0) (.slice a2 n2 c2) := ⟨_, rfl⟩
              have e13' : vs 13 = .agg yy := e13.trans (by rw [hyy])
              generalize vs 12 = v12
              simp only [List.drop_succ_cons, List.drop_zero, puts, List.range, List.range.loop, List.foldr, if_true, Act.put, e0, e1, e2, e3, e4, e5, e6, e7', e8, e9', e10', e11, e13', e14, Nat.reduceAdd, Nat.add_zero, List.setIfInBounds_toArray, List.set_cons_succ, List.set_cons_zero]
              clear e0 e1 e2 e3 e4 e5 e6 e7' e8 e9' e10' e11 e13 e13' e14 hF hcut
              have HYC := hid hyy
              have HOY : Hid (yy.all (·.oneCell') = true) := by unfold Hid; rw [hyy]; simp [pkCells, Value.oneCell']
              have HIY : Hid ((Tryd.prog.info? 35).map (·.size) = some yy.size) := by unfold Hid; rw [hyy]; exact size_pk
              have hb17 := HB15.out.trans (hb.mono HB15.out.size)
              have HTU : Hid (u.there (w.heap.size + 1) 0 yy.size) := by unfold Hid; rw [hyy]; exact HTH.out _ hb17
              obtain ⟨q1, q2⟩ := res_end (w := w) HTU.out (by omega) (HBW.out _ hb17) Tryd.underlying35 HIY.out
              have HLV := hid q1
              have HBF := hid q2
              have HGS : Hid (∀ x, a2 = some x → w.heap.size + 3 ≤ x.block) := fun x hx => by have := hg7 x hx; have := HB15.out.size; have := HS1.out; omega
              have HSF := hid (sees_setI (b := w.heap.size + 1) (vs := yy.toList) hs7 (fun a ha => by have := HGS.out a ha; omega))
              clear q1 q2 hyy hs7 hb17 hb hg7
              go_wp2_with (first
                | (refine wpList_store_mid rfl 35 (.tmp 10) (.tmp 70) rfl (w.heap.size + 1) 0 yy rfl rfl HTU.out HIY.out HOY.out ?_)
                | fail)
              generalize u.setCells (w.heap.size + 1) 0 yy.toList = wf at HLV HBF HSF ⊢
              refine bodyPost_ret (v := .tuple #[.agg yy, .int .i64 0]) (by simp [results, Tryd.results14, asAddr, HLV.out]) rfl ?_
              rw [HP2.out, HE2.out]
              exact ⟨_, _, _, by rw [HYC.out], HSF.out, (fun a ha => by have := HGS.out a ha; omega), HBF.out⟩
            · have HQ2 : Hid ((20 : Int) + (no : Int) + 8 = (FQ : Int)) := by unfold Hid; rw [HQ.out]; omega
              have g1 : ¬ (n4 : Int) < 20 + (no : Int) + 8 := by have := HN4.out; omega
              have q12 : ((t : Int) == 12) = false := by rw [beq_eq_false_iff_ne]; omega
              have HRE : Hid ((na : Int) = (r : Int)) := by unfold Hid; rw [HRN.out]; unfold rstN; rw [if_neg h12]
              clear h12 h8
              go_upto_region 15 with fail
              rw [HQ2.out, HRE.out]
              generalize hX : (r : Int) = rI at *
              subst hX
              refine wp_region_mono' 15 (fun i => 57 + i) (Vp [.int .u32 (f : Int), .pointer (some ⟨w.heap.size, 0, none⟩), .pointer (some ⟨w.heap.size, 7, none⟩), .int .u32 (src : Int), .int .u8 (t : Int), .int .u8 (c : Int), .int .i64 (r : Int), .int .u32 (r : Int), .slice a4 n4 c4, .int .i64 (FQ : Int), .slice a4 FQ c4, .agg ct] w5.heap.size (Im.laid FM) (fun v => .agg (pkCells (mdH 0 f src) (.slice none 0 0) v))) (by kernel_rfl) (by kernel_rfl) (Vp.keeps _ _ _ _) ?_ ?_
              · simp only [List.take_succ_cons, List.take_zero, stepsOk]
                refine ⟨?_, ?_, ?_, ?_, ?_, ?_, ?_, ?_, ?_, ?_, ?_, ?_, ?_, ?_, ?_, trivial⟩
                · intro a u vs hb hold hdep
                  exact wp_stillP (ex_move (.tmp 4) _ rfl (hold 4 (fun j _ => low (by decide)))) rfl (by decide) rfl hb
                · intro a u vs hb hold hdep
                  exact wp_stillP (ex_field _ _ (.tmp 5) _ _ rfl (hold 5 (fun j _ => low (by decide))) (field_pk0 _ u)) rfl (by decide) rfl hb
                · intro a u vs hb hold hdep
                  have h1 := hdep ⟨1, .data⟩ (by simp) rfl (by decide)
                  exact wp_stillP (ex_field _ _ _ _ _ rfl (h1.1.trans (h1.2.plain (by decide) rfl)) (field_hd7 _ u)) rfl (by decide) rfl hb
                · intro a u vs hb hold hdep
                  have h2 := hdep ⟨2, .data⟩ (by simp) rfl (by decide)
                  exact wp_stillP (ex_load _ _ _ _ rfl (h2.1.trans (h2.2.plain (by decide) rfl)) (load_ad ((hb.cell (p := ⟨w.heap.size, 7, none⟩) (World.block_lt_of_cell? w5 _ HE7.out)).trans HE7.out))) rfl (by decide) rfl hb
                · intro a u vs hb hold hdep
                  exact wp_stillP (ex_move (.tmp 1) _ rfl (hold 1 (fun j _ => low (by decide)))) rfl (by decide) rfl hb
                · intro a u vs hb hold hdep
                  exact wp_stillP (ex_move (.tmp 2) _ rfl (hold 2 (fun j _ => low (by decide)))) rfl (by decide) rfl hb
                · intro a u vs hb hold hdep
                  exact wp_stillP (ex_move (.tmp 16) _ rfl (hold 16 (fun j _ => low (by decide)))) rfl (by decide) rfl hb
                · intro a u vs hb hold hdep
                  have h6 := hdep ⟨6, .data⟩ (by simp) rfl (by decide)
                  exact wp_stillP (ex_conv _ _ _ _ _ rfl (h6.1.trans (h6.2.plain (by decide) rfl)) (conv32 r HRL.out u)) rfl (by decide) rfl hb
                · intro a u vs hb hold hdep
                  exact wp_stillP (ex_move (.tmp 13) _ rfl (hold 13 (fun j _ => low (by decide)))) rfl (by decide) rfl hb
                · intro a u vs hb hold hdep
                  exact wp_stillP (ex_move (.tmp 15) _ rfl (hold 15 (fun j _ => low (by decide)))) rfl (by decide) rfl hb
                · intro a u vs hb hold hdep
                  have h5 := hdep ⟨8, .data⟩ (by simp) rfl (by decide)
                  have h6 := hdep ⟨9, .data⟩ (by simp) rfl (by decide)
                  exact wp_stillP (ex_high _ _ _ _ _ _ rfl (h5.1.trans (h5.2.plain (by decide) rfl)) (h6.1.trans (h6.2.plain (by decide) rfl)) (hcut u)) rfl (by decide) rfl hb
                · intro a u vs hb hold hdep
                  have h0 := hdep ⟨4, .data⟩ (by simp) rfl (by decide)
                  have h1 := hdep ⟨5, .data⟩ (by simp) rfl (by decide)
                  have h4 := hdep ⟨7, .data⟩ (by simp) rfl (by decide)
                  have h7 := hdep ⟨10, .data⟩ (by simp) rfl (by decide)
                  have e0 : a.eval (.tmp 61) = .int .u8 (t : Int) := h0.1.trans (h0.2.plain (by decide) rfl)
                  have e1 : a.eval (.tmp 62) = .int .u8 (c : Int) := h1.1.trans (h1.2.plain (by decide) rfl)
                  have e4 : a.eval (.tmp 64) = .int .u32 (r : Int) := h4.1.trans (h4.2.plain (by decide) rfl)
                  have e7 : a.eval (.tmp 67) = .slice a4 FQ c4 := h7.1.trans (h7.2.plain (by decide) rfl)
                  refine wp_stillP (ex_build _ _ #[(0, .int .u8 (t : Int)), (1, .int .u8 (c : Int)), (2, .int .u32 (r : Int)), (3, .slice a4 FQ c4)] (.agg ct) rfl (by simp only [List.map_toArray, List.map_cons, List.map_nil, e0, e1, e4, e7]) ?_) rfl (by decide) rfl hb
                  rw [HCT.out]
                  exact build_ct _ _ _ _ _ _ u
                · intro a u vs hb hold hdep
                  have h0 := hdep ⟨0, .data⟩ (by simp) rfl (by decide)
                  have h3 := hdep ⟨3, .data⟩ (by simp) rfl (by decide)
                  have h11 := hdep ⟨11, .data⟩ (by simp) rfl (by decide)
                  have e0 : a.eval (.tmp 57) = .int .u32 (f : Int) := h0.1.trans (h0.2.plain (by decide) rfl)
                  have e3 : a.eval (.tmp 60) = .int .u32 (src : Int) := h3.1.trans (h3.2.plain (by decide) rfl)
                  have e11 : a.eval (.tmp 68) = .agg ct := h11.1.trans (h11.2.plain (by decide) rfl)
                  refine wp_call 32 _ _ rfl (enters_of Tryd.func32 (by kernel_rfl) rfl) #[.int .u8 0, .int .u32 (f : Int), .int .u32 (src : Int), .agg ct] (by simp only [List.map_toArray, List.map_cons, List.map_nil, e0, e3, e11]; rfl) ?_
                  refine (HCA.out u hb).mono ?_
                  rintro _ u' ⟨a2, n2, c2, rfl, hs, hn, hb'⟩
                  exact ⟨_, rfl, _, rfl, ⟨a2, n2, c2, rfl, hs, fun x hx => Nat.le_trans hb.size (hn x hx)⟩, hb.trans (hb'.mono hb.size), hb'⟩
                · intro a u vs hb hold hdep
                  have h12 := hdep ⟨12, .data⟩ (by simp) rfl (by decide)
                  obtain ⟨a2, n2, c2, ev, hs, hn⟩ := h12.2
                  exact wp_val (ex_extract _ 0 _ _ rfl (h12.1.trans ev) rfl) ⟨_, rfl, ⟨a2, n2, c2, rfl, hs, hn⟩, hb, Below.refl _ _⟩
                · intro a u vs hb hold hdep
                  have h12 := hdep ⟨12, .data⟩ (by simp) rfl (by decide)
                  obtain ⟨a2, n2, c2, ev, hs, hn⟩ := h12.2
                  exact wp_val (ex_extract _ 1 _ _ rfl (h12.1.trans ev) rfl) ⟨_, rfl, rfl, hb, Below.refl _ _⟩
              intro vs u hb hF
              have e0 := (hF 0 (by decide)).plain (by decide) rfl
              have e1 := (hF 1 (by decide)).plain (by decide) rfl
              have e2 := (hF 2 (by decide)).plain (by decide) rfl
              have e3 := (hF 3 (by decide)).plain (by decide) rfl
              have e4 := (hF 4 (by decide)).plain (by decide) rfl
              have e5 := (hF 5 (by decide)).plain (by decide) rfl
              have e6 := (hF 6 (by decide)).plain (by decide) rfl
              have e7' := (hF 7 (by decide)).plain (by decide) rfl
              have e8 := (hF 8 (by decide)).plain (by decide) rfl
              have e9' := (hF 9 (by decide)).plain (by decide) rfl
              have e10' := (hF 10 (by decide)).plain (by decide) rfl
              have e11 := (hF 11 (by decide)).plain (by decide) rfl
              obtain ⟨a2, n2, c2, e13, hs7, hg7⟩ := hF 13 (by decide)
              have e14 : vs 14 = .int .i64 0 := hF 14 (by decide)
              obtain ⟨yy, hyy⟩ : ∃ yy : Array Value, yy = pkCells (mdH 0 f src) (.slice none 0 0) (.slice a2 n2 c2) := ⟨_, rfl⟩
              have e13' : vs 13 = .agg yy := e13.trans (by rw [hyy])
              generalize vs 12 = v12
              simp only [List.drop_succ_cons, List.drop_zero, puts, List.range, List.range.loop, List.foldr, if_true, Act.put, e0, e1, e2, e3, e4, e5, e6, e7', e8, e9', e10', e11, e13', e14, Nat.reduceAdd, Nat.add_zero, List.setIfInBounds_toArray, List.set_cons_succ, List.set_cons_zero]
              clear e0 e1 e2 e3 e4 e5 e6 e7' e8 e9' e10' e11 e13 e13' e14 hF hcut
              have HYC := hid hyy
              have HOY : Hid (yy.all (·.oneCell') = true) := by unfold Hid; rw [hyy]; simp [pkCells, Value.oneCell']
              have HIY : Hid ((Tryd.prog.info? 35).map (·.size) = some yy.size) := by unfold Hid; rw [hyy]; exact size_pk
              have hb17 := HB15.out.trans (hb.mono HB15.out.size)
              have HTU : Hid (u.there (w.heap.size + 1) 0 yy.size) := by unfold Hid; rw [hyy]; exact HTH.out _ hb17
              obtain ⟨q1, q2⟩ := res_end (w := w) HTU.out (by omega) (HBW.out _ hb17) Tryd.underlying35 HIY.out
              have HLV := hid q1
              have HBF := hid q2
              have HGS : Hid (∀ x, a2 = some x → w.heap.size + 3 ≤ x.block) := fun x hx => by have := hg7 x hx; have := HB15.out.size; have := HS1.out; omega
              have HSF := hid (sees_setI (b := w.heap.size + 1) (vs := yy.toList) hs7 (fun a ha => by have := HGS.out a ha; omega))
              clear q1 q2 hyy hs7 hb17 hb hg7
              go_wp2_with (first
                | (refine wpList_store_mid rfl 35 (.tmp 10) (.tmp 70) rfl (w.heap.size + 1) 0 yy rfl rfl HTU.out HIY.out HOY.out ?_)
                | fail)
              generalize u.setCells (w.heap.size + 1) 0 yy.toList = wf at HLV HBF HSF ⊢
              refine bodyPost_ret (v := .tuple #[.agg yy, .int .i64 0]) (by simp [results, Tryd.results14, asAddr, HLV.out]) rfl ?_
              rw [HP2.out, HE2.out]
              exact ⟨_, _, _, by rw [HYC.out], HSF.out, (fun a ha => by have := HGS.out a ha; omega), HBF.out⟩
      · have HE2 : Hid (AE = q) := by unfold Hid; rw [HA2.out, if_pos hq]
        have hqq : (q != 0) = true := by simp [hq]
        have HP2 : Hid (AB = (zeroH, [])) := by unfold Hid; rw [HPP.out, HE2.out, if_neg (by exact hq)]
        have HTU : Hid (w4.there (w.heap.size + 1) 0 zz.size) := by unfold Hid; rw [HZS.out]; exact HTH.out _ hb14
        have HLZ2 := hid (HLZ.out _ hb14)
        obtain ⟨q1, q2⟩ := res_end (w := w) HTU.out (by omega) (HBW.out _ hb14) Tryd.underlying35 HINF.out
        have HLV := hid q1
        have HBF := hid q2
        clear q1 q2
        go_wp2_with (first
          | (refine wpList_ld 35 ⟨w.heap.size + 2, 0, none⟩ _ rfl rfl HLZ2.out rfl ?_)
          | (refine wpList_store_mid rfl 35 (.tmp 10) (.tmp 35) rfl (w.heap.size + 1) 0 zz rfl rfl HTU.out HINF.out HONE.out ?_)
          | fail)
        generalize w4.setCells (w.heap.size + 1) 0 zz.toList = wf at HLV HBF ⊢
        refine bodyPost_ret (v := .tuple #[.agg zz, .int .i64 q]) (by simp [results, Tryd.results14, asAddr, HLV.out]) rfl ?_
        rw [HP2.out, HE2.out]
        exact ⟨none, 0, 0, by rw [HZC.out], sees_nil _, (fun a ha => by cases ha), HBF.out⟩
end Go.Proofs.YtcboenmmkaochabDoor.N

namespace Go.Proofs.YtcboenmmkaochabDoor.N
open Go.ChangeShapes Go.WideShapes Go.ChangeAt Go.RowKit
set_option maxHeartbeats 4000000
set_option maxRecDepth 100000

theorem plays_3 (vy : Value) (m : Im.Ct) (vm : Value) (h : Hd) (vo vb : Value) (B : List Nat) (t c : Nat) (a : Int) (f : Nat) (w : World) (htC : Ad.TabC w) (htK : TabK w) (hok : h.Ok) (hvo : SeesB w vo h.opts) (hvb : SeesB w vb B) (hlo : h.opts.length ≤ 140737488355328) (hlb : B.length ≤ 140737488355328) (ht : t < 256) (hc : c < 256) (_halo : -9223372036854775808 ≤ a) (_hahi : a ≤ 9223372036854775807) (hf : f < 4294967296) :
    Calls Tryd.prog 11 #[.agg (op6 3 vy m vm h vo vb t c a f).toArray] w fun e w' => e = .returned (.bool true) ∧ Below w.heap.size w w' := by
  obtain ⟨w1, hw1⟩ : ∃ w1, w1 = w.alloc (.cells (op6 3 vy m vm h vo vb t c a f).toArray 37) := ⟨_, rfl⟩
  have hb1 : Below w.heap.size w w1 := by rw [hw1]; exact (Below.refl _ _).alloc (Nat.le_refl _) _
  have hs1 : w1.heap.size = w.heap.size + 1 := by rw [hw1]; simp
  have HBK : Hid (∀ u, Below w1.heap.size w1 u → ∀ (j : Nat) (v : Value), (op6 3 vy m vm h vo vb t c a f)[j]? = some v → u.cell? ⟨w.heap.size, j, none⟩ = some v) := fun u hu j v hv => by
    have := blk_at (cs := op6 3 vy m vm h vo vb t c a f) (t := 37) (u := u) (n := w.heap.size) (by rw [hu.block w.heap.size (by omega), hw1]; exact blk_new _ _ _) j v hv
    rwa [Nat.zero_add] at this
  have HLD : Hid (∀ u, Below w1.heap.size w1 u → (Instr.loadAt 35 (.pointer (some ⟨w.heap.size, 6, none⟩))).run Tryd.prog u = .ok (.agg (pkCells h vo vb)) u) := fun u hu => by
    obtain ⟨fs, hu29⟩ := und29
    refine run_loadAt_mid u w.heap.size 6 35 (pkCells h vo vb).toList (.struct fs) (fun j v hv => ?_) hu29 rfl size_pk
    exact HBK.out u hu (6 + j) v (by
      have e : op6 3 vy m vm h vo vb t c a f = (op6 3 vy m vm h vo vb t c a f).take 6 ++ ((pkCells h vo vb).toList ++ (op6 3 vy m vm h vo vb t c a f).drop 17) := rfl
      have hj : j < (pkCells h vo vb).toList.length := (List.getElem?_eq_some_iff.1 hv).1
      rw [e, List.getElem?_append_right (by simp [op6]), List.getElem?_append_left (by simpa [op6] using hj)]
      simpa [op6] using hv)
  have HC17 : Hid (∀ u, Below w1.heap.size w1 u → u.cell? ⟨w.heap.size, 17, none⟩ = some (.int .u8 (t : Int))) := fun u hu => HBK.out u hu 17 _ rfl
  have HC18 : Hid (∀ u, Below w1.heap.size w1 u → u.cell? ⟨w.heap.size, 18, none⟩ = some (.int .u8 (c : Int))) := fun u hu => HBK.out u hu 18 _ rfl
  have HC19 : Hid (∀ u, Below w1.heap.size w1 u → u.cell? ⟨w.heap.size, 19, none⟩ = some (.int .i64 a)) := fun u hu => HBK.out u hu 19 _ rfl
  have HC20 : Hid (∀ u, Below w1.heap.size w1 u → u.cell? ⟨w.heap.size, 20, none⟩ = some (.int .u32 (f : Int))) := fun u hu => HBK.out u hu 20 _ rfl
  have HP1 := hid (fault_any h vo vb B t c a f w1 hok (hvo.below hb1) (hvb.below hb1) hlo hlb ht hc hf (htC.below hb1) (htK.below hb1))
  have HP2 : Hid (∀ u, Below w1.heap.size w1 u → Calls Tryd.prog 14 #[.agg (pkCells h vo vb), .int .u8 (t : Int), .int .u8 (c : Int), .int .i64 a, .int .u32 (f : Int)] u fun e w' => ∃ a2 n2 c2, e = .returned (.tuple #[.agg (pkCells (fltP h B t c a f).1 (.slice none 0 0) (.slice a2 n2 c2)), .int .i64 (fltE h B t c a f)]) ∧ SeesB w' (.slice a2 n2 c2) (fltP h B t c a f).2 ∧ (∀ x, a2 = some x → u.heap.size ≤ x.block) ∧ Below u.heap.size u w') := fun u hu => rfault_any h vo vb B t c a f u hok (hvo.below (hb1.trans (hu.mono hb1.size))) (hvb.below (hb1.trans (hu.mono hb1.size))) hlb ht hc hf
  have HPO : Hid ((fltP h B t c a f).1.opts = []) := by unfold Hid; unfold fltP; split <;> rfl
  have HW1 := hid hw1
  have HB1 := hid hb1
  have HL1 := hid (HLD.out _ (Below.refl _ _))
  have c17 := HC17.out _ (Below.refl _ _)
  have c18 := HC18.out _ (Below.refl _ _)
  have c19 := HC19.out _ (Below.refl _ _)
  have c20 := HC20.out _ (Below.refl _ _)
  clear hw1 hb1 hs1 HBK hvo hvb hok hlo hlb
  generalize fltP h B t c a f = AB at *
  generalize fltE h B t c a f = q at *
  obtain ⟨H, BD⟩ := AB
  simp only at *
  have hqq : (q == q) = true := by simp
  generalize pkCells h vo vb = pk at *
  unfold op6 at HW1 ⊢
  go_enter Tryd.func11, Tryd.ntmps11
  go_upto_region 11 with fail
  rw [← HW1.out]
  go_wp2_with (first | (refine wpList_ld 35 ⟨w.heap.size, 6, none⟩ _ rfl rfl HL1.out rfl ?_) | fail)
  refine HP1.out.mono ?_
  rintro _ w2 ⟨a1, n1, k1, rfl, ha, _, hb2⟩
  obtain ⟨pa, hpa⟩ : ∃ pa : Array Value, pa = pkCells H (.slice none 0 0) (.slice a1 n1 k1) := ⟨_, rfl⟩
  obtain ⟨w3, hw3⟩ : ∃ w3, w3 = (w2.alloc (.cells zeroP 35)).setCells w2.heap.size 0 pa.toList := ⟨_, rfl⟩
  have HPA := hid hpa
  have HZA : Hid ((Tryd.prog.info? 35).map (·.size) = some pa.size) := by unfold Hid; rw [hpa]; exact size_pk
  have HOA : Hid (pa.all (·.oneCell') = true) := by unfold Hid; rw [hpa]; exact pk_one _ (sees_nil w2) ha
  obtain ⟨hta, hb23, hrg3, hlt2⟩ := put_new (w2 := w2) (T := 35) (Z := zeroP) (pa := pa) (by rw [hpa]; rfl)
  rw [← hw3] at hb23 hrg3 hlt2
  have HTA := hid hta
  have hb3 : Below w1.heap.size w1 w3 := hb2.trans (hb23.mono hb2.size)
  have HA := hid (ha.below hb23)
  have HW3 : Hid (w3 = (w2.alloc (.cells #[.int .u8 0, .int .u16 0, .bool false, .bool false, .int .i64 0, .int .u8 0, .int .u8 0, .int .u32 0, .int .u32 0, .slice none 0 0, .slice none 0 0] 35)).setCells w2.heap.size 0 pa.toList) := hw3
  have d17 := HC17.out _ hb3
  have d18 := HC18.out _ hb3
  have d19 := HC19.out _ hb3
  have d20 := HC20.out _ hb3
  have HL3 := hid (HLD.out _ hb3)
  have HLT2 := hid hlt2
  have HRG3 := hid hrg3
  rw [← hpa]
  clear hpa hw3 ha hb2 hb23 HP1 c17 c18 c19 c20 hta hrg3 hlt2 HL1
  go_upto_region 12 with (first
    | (refine wpList_store_mid rfl 35 (.tmp 11) (.tmp 85) rfl w2.heap.size 0 pa rfl rfl HTA.out HZA.out HOA.out ?_)
    | fail)
  rw [← HW3.out]
  go_wp2_with (first | (refine wpList_ld 35 ⟨w.heap.size, 6, none⟩ _ rfl rfl HL3.out rfl ?_) | fail)
  refine (HP2.out _ hb3).mono ?_
  rintro _ w4 ⟨a2, n2, k2, rfl, hb', _, hb4⟩
  obtain ⟨pb, hpb⟩ : ∃ pb : Array Value, pb = pkCells H (.slice none 0 0) (.slice a2 n2 k2) := ⟨_, rfl⟩
  obtain ⟨w5, hw5⟩ : ∃ w5, w5 = (w4.alloc (.cells zeroP 35)).setCells w4.heap.size 0 pb.toList := ⟨_, rfl⟩
  have HPB := hid hpb
  have HZB : Hid ((Tryd.prog.info? 35).map (·.size) = some pb.size) := by unfold Hid; rw [hpb]; exact size_pk
  have HOB : Hid (pb.all (·.oneCell') = true) := by unfold Hid; rw [hpb]; exact pk_one _ (sees_nil w4) hb'
  obtain ⟨htb, hb45, hrg5, hlt4⟩ := put_new (w2 := w4) (T := 35) (Z := zeroP) (pa := pb) (by rw [hpb]; rfl)
  rw [← hw5] at hb45 hrg5 hlt4
  have HTB := hid htb
  have hb35 : Below w3.heap.size w3 w5 := hb4.trans (hb45.mono hb4.size)
  have hb5 : Below w1.heap.size w1 w5 := hb3.trans (hb35.mono hb3.size)
  have HLA := hid (load_range (T := 35) (range_grow HRG3.out hb35 HLT2.out) und29 HZA.out)
  have HLB := hid (load_range (T := 35) hrg5 und29 HZB.out)
  have HPK : Hid (Calls Tryd.prog 22 #[.agg pa, .agg pb] w5 fun e w' => e = .returned (.bool true) ∧ Below w5.heap.size w5 w') := by
    unfold Hid
    rw [HPA.out, HPB.out]
    exact packets_same H BD _ _ _ _ w5 (by rw [HPO.out]; exact sees_nil _) (by rw [HPO.out]; exact sees_nil _) (HA.out.below hb35) (hb'.below hb45)
  have HW5 : Hid (w5 = (w4.alloc (.cells #[.int .u8 0, .int .u16 0, .bool false, .bool false, .int .i64 0, .int .u8 0, .int .u8 0, .int .u32 0, .int .u32 0, .slice none 0 0, .slice none 0 0] 35)).setCells w4.heap.size 0 pb.toList) := hw5
  have HB5 := hid hb5
  rw [← hpb]
  clear hpb hw5 hb' hb4 hb45 hb35 hb5 hrg5 HP2 hlt4 htb
  go_upto_region 13 with (first
    | (refine wpList_store_mid rfl 35 (.tmp 13) (.tmp 99) rfl w4.heap.size 0 pb rfl rfl HTB.out HZB.out HOB.out ?_)
    | fail)
  rw [← HW5.out]
  go_wp2_with (first
    | (refine wpList_ld 35 ⟨w2.heap.size, 0, none⟩ (.tmp 11) rfl rfl HLA.out rfl ?_)
    | (refine wpList_ld 35 ⟨w4.heap.size, 0, none⟩ (.tmp 13) rfl rfl HLB.out rfl ?_)
    | fail)
  refine HPK.out.mono ?_
  rintro _ w6 ⟨rfl, hb6⟩
  go_wp2_with fail
  go_ret
  exact ⟨rfl, HB1.out.trans ((HB5.out.trans (hb6.mono HB5.out.size)).mono HB1.out.size)⟩

theorem plays_4 (vy : Value) (m : Im.Ct) (vm : Value) (h : Hd) (vo vb : Value) (B : List Nat) (t c : Nat) (a : Int) (f : Nat) (w : World) (htC : Ad.TabC w) (hok : h.Ok) (hvo : SeesB w vo h.opts) (hvb : SeesB w vb B) (hlo : h.opts.length ≤ 140737488355328) (hlb : B.length ≤ 140737488355328) :
    Calls Tryd.prog 11 #[.agg (op6 4 vy m vm h vo vb t c a f).toArray] w fun e w' => e = .returned (.bool true) ∧ Below w.heap.size w w' := by
  obtain ⟨w1, hw1⟩ : ∃ w1, w1 = w.alloc (.cells (op6 4 vy m vm h vo vb t c a f).toArray 37) := ⟨_, rfl⟩
  have hb1 : Below w.heap.size w w1 := by rw [hw1]; exact (Below.refl _ _).alloc (Nat.le_refl _) _
  have hs1 : w1.heap.size = w.heap.size + 1 := by rw [hw1]; simp
  have HBK : Hid (∀ u, Below w1.heap.size w1 u → ∀ (j : Nat) (v : Value), (op6 4 vy m vm h vo vb t c a f)[j]? = some v → u.cell? ⟨w.heap.size, j, none⟩ = some v) := fun u hu j v hv => by
    have := blk_at (cs := op6 4 vy m vm h vo vb t c a f) (t := 37) (u := u) (n := w.heap.size) (by rw [hu.block w.heap.size (by omega), hw1]; exact blk_new _ _ _) j v hv
    rwa [Nat.zero_add] at this
  have HLD : Hid (∀ u, Below w1.heap.size w1 u → (Instr.loadAt 35 (.pointer (some ⟨w.heap.size, 6, none⟩))).run Tryd.prog u = .ok (.agg (pkCells h vo vb)) u) := fun u hu => by
    obtain ⟨fs, hu29⟩ := und29
    refine run_loadAt_mid u w.heap.size 6 35 (pkCells h vo vb).toList (.struct fs) (fun j v hv => ?_) hu29 rfl size_pk
    exact HBK.out u hu (6 + j) v (by
      have e : op6 4 vy m vm h vo vb t c a f = (op6 4 vy m vm h vo vb t c a f).take 6 ++ ((pkCells h vo vb).toList ++ (op6 4 vy m vm h vo vb t c a f).drop 17) := rfl
      have hj : j < (pkCells h vo vb).toList.length := (List.getElem?_eq_some_iff.1 hv).1
      rw [e, List.getElem?_append_right (by simp [op6]), List.getElem?_append_left (by simpa [op6] using hj)]
      simpa [op6] using hv)
  have HP1 := hid (echo_any h vo vb B w1 hok (hvo.below hb1) (hvb.below hb1) hlo hlb (htC.below hb1))
  have HP2 : Hid (∀ u, Below w1.heap.size w1 u → Calls Tryd.prog 24 #[.agg (pkCells h vo vb)] u fun e w' => ∃ a2 n2 c2, e = .returned (.tuple #[.agg (pkCells (ecP h B).1 (.slice none 0 0) (.slice a2 n2 c2)), .int .i64 (ecE h B)]) ∧ SeesB w' (.slice a2 n2 c2) (ecP h B).2 ∧ (∀ x, a2 = some x → u.heap.size ≤ x.block) ∧ Below u.heap.size u w') := fun u hu => recho_any h vo vb B u hok (hvo.below (hb1.trans (hu.mono hb1.size))) (hvb.below (hb1.trans (hu.mono hb1.size))) hlb
  have HPO : Hid ((ecP h B).1.opts = []) := by unfold Hid; unfold ecP; split <;> rfl
  have HW1 := hid hw1
  have HB1 := hid hb1
  have HL1 := hid (HLD.out _ (Below.refl _ _))
  clear hw1 hb1 hs1 HBK hvo hvb hok hlo hlb
  generalize ecP h B = AB at *
  generalize ecE h B = q at *
  obtain ⟨H, BD⟩ := AB
  simp only at *
  have hqq : (q == q) = true := by simp
  generalize pkCells h vo vb = pk at *
  unfold op6 at HW1 ⊢
  go_enter Tryd.func11, Tryd.ntmps11
  go_upto_region 15 with fail
  rw [← HW1.out]
  go_wp2_with (first | (refine wpList_ld 35 ⟨w.heap.size, 6, none⟩ _ rfl rfl HL1.out rfl ?_) | fail)
  refine HP1.out.mono ?_
  rintro _ w2 ⟨a1, n1, k1, rfl, ha, _, hb2⟩
  obtain ⟨pa, hpa⟩ : ∃ pa : Array Value, pa = pkCells H (.slice none 0 0) (.slice a1 n1 k1) := ⟨_, rfl⟩
  obtain ⟨w3, hw3⟩ : ∃ w3, w3 = (w2.alloc (.cells zeroP 35)).setCells w2.heap.size 0 pa.toList := ⟨_, rfl⟩
  have HPA := hid hpa
  have HZA : Hid ((Tryd.prog.info? 35).map (·.size) = some pa.size) := by unfold Hid; rw [hpa]; exact size_pk
  have HOA : Hid (pa.all (·.oneCell') = true) := by unfold Hid; rw [hpa]; exact pk_one _ (sees_nil w2) ha
  obtain ⟨hta, hb23, hrg3, hlt2⟩ := put_new (w2 := w2) (T := 35) (Z := zeroP) (pa := pa) (by rw [hpa]; rfl)
  rw [← hw3] at hb23 hrg3 hlt2
  have HTA := hid hta
  have hb3 : Below w1.heap.size w1 w3 := hb2.trans (hb23.mono hb2.size)
  have HA := hid (ha.below hb23)
  have HW3 : Hid (w3 = (w2.alloc (.cells #[.int .u8 0, .int .u16 0, .bool false, .bool false, .int .i64 0, .int .u8 0, .int .u8 0, .int .u32 0, .int .u32 0, .slice none 0 0, .slice none 0 0] 35)).setCells w2.heap.size 0 pa.toList) := hw3
  have HL3 := hid (HLD.out _ hb3)
  have HLT2 := hid hlt2
  have HRG3 := hid hrg3
  rw [← hpa]
  clear hpa hw3 ha hb2 hb23 HP1  hta hrg3 hlt2 HL1
  go_upto_region 16 with (first
    | (refine wpList_store_mid rfl 35 (.tmp 15) (.tmp 115) rfl w2.heap.size 0 pa rfl rfl HTA.out HZA.out HOA.out ?_)
    | fail)
  rw [← HW3.out]
  go_wp2_with (first | (refine wpList_ld 35 ⟨w.heap.size, 6, none⟩ _ rfl rfl HL3.out rfl ?_) | fail)
  refine (HP2.out _ hb3).mono ?_
  rintro _ w4 ⟨a2, n2, k2, rfl, hb', _, hb4⟩
  obtain ⟨pb, hpb⟩ : ∃ pb : Array Value, pb = pkCells H (.slice none 0 0) (.slice a2 n2 k2) := ⟨_, rfl⟩
  obtain ⟨w5, hw5⟩ : ∃ w5, w5 = (w4.alloc (.cells zeroP 35)).setCells w4.heap.size 0 pb.toList := ⟨_, rfl⟩
  have HPB := hid hpb
  have HZB : Hid ((Tryd.prog.info? 35).map (·.size) = some pb.size) := by unfold Hid; rw [hpb]; exact size_pk
  have HOB : Hid (pb.all (·.oneCell') = true) := by unfold Hid; rw [hpb]; exact pk_one _ (sees_nil w4) hb'
  obtain ⟨htb, hb45, hrg5, hlt4⟩ := put_new (w2 := w4) (T := 35) (Z := zeroP) (pa := pb) (by rw [hpb]; rfl)
  rw [← hw5] at hb45 hrg5 hlt4
  have HTB := hid htb
  have hb35 : Below w3.heap.size w3 w5 := hb4.trans (hb45.mono hb4.size)
  have hb5 : Below w1.heap.size w1 w5 := hb3.trans (hb35.mono hb3.size)
  have HLA := hid (load_range (T := 35) (range_grow HRG3.out hb35 HLT2.out) und29 HZA.out)
  have HLB := hid (load_range (T := 35) hrg5 und29 HZB.out)
  have HPK : Hid (Calls Tryd.prog 22 #[.agg pa, .agg pb] w5 fun e w' => e = .returned (.bool true) ∧ Below w5.heap.size w5 w') := by
    unfold Hid
    rw [HPA.out, HPB.out]
    exact packets_same H BD _ _ _ _ w5 (by rw [HPO.out]; exact sees_nil _) (by rw [HPO.out]; exact sees_nil _) (HA.out.below hb35) (hb'.below hb45)
  have HW5 : Hid (w5 = (w4.alloc (.cells #[.int .u8 0, .int .u16 0, .bool false, .bool false, .int .i64 0, .int .u8 0, .int .u8 0, .int .u32 0, .int .u32 0, .slice none 0 0, .slice none 0 0] 35)).setCells w4.heap.size 0 pb.toList) := hw5
  have HB5 := hid hb5
  rw [← hpb]
  clear hpb hw5 hb' hb4 hb45 hb35 hb5 hrg5 HP2 hlt4 htb
  go_upto_region 17 with (first
    | (refine wpList_store_mid rfl 35 (.tmp 17) (.tmp 121) rfl w4.heap.size 0 pb rfl rfl HTB.out HZB.out HOB.out ?_)
    | fail)
  rw [← HW5.out]
  go_wp2_with (first
    | (refine wpList_ld 35 ⟨w2.heap.size, 0, none⟩ (.tmp 15) rfl rfl HLA.out rfl ?_)
    | (refine wpList_ld 35 ⟨w4.heap.size, 0, none⟩ (.tmp 17) rfl rfl HLB.out rfl ?_)
    | fail)
  refine HPK.out.mono ?_
  rintro _ w6 ⟨rfl, hb6⟩
  go_wp2_with fail
  go_ret
  exact ⟨rfl, HB1.out.trans ((HB5.out.trans (hb6.mono HB5.out.size)).mono HB1.out.size)⟩

theorem plays_5 (vy : Value) (m : Im.Ct) (vm : Value) (h : Hd) (vo vb : Value) (B : List Nat) (t c : Nat) (a : Int) (f : Nat) (w : World) (htK : TabK w) (hok : h.Ok) (hvo : SeesB w vo h.opts) (hvb : SeesB w vb B) (hlo : h.opts.length ≤ 140737488355328) (hlb : B.length ≤ 140737488355328) :
    Calls Tryd.prog 11 #[.agg (op6 5 vy m vm h vo vb t c a f).toArray] w fun e w' => e = .returned (.bool true) ∧ Below w.heap.size w w' := by
  obtain ⟨w1, hw1⟩ : ∃ w1, w1 = w.alloc (.cells (op6 5 vy m vm h vo vb t c a f).toArray 37) := ⟨_, rfl⟩
  have hb1 : Below w.heap.size w w1 := by rw [hw1]; exact (Below.refl _ _).alloc (Nat.le_refl _) _
  have hs1 : w1.heap.size = w.heap.size + 1 := by rw [hw1]; simp
  have HBK : Hid (∀ u, Below w1.heap.size w1 u → ∀ (j : Nat) (v : Value), (op6 5 vy m vm h vo vb t c a f)[j]? = some v → u.cell? ⟨w.heap.size, j, none⟩ = some v) := fun u hu j v hv => by
    have := blk_at (cs := op6 5 vy m vm h vo vb t c a f) (t := 37) (u := u) (n := w.heap.size) (by rw [hu.block w.heap.size (by omega), hw1]; exact blk_new _ _ _) j v hv
    rwa [Nat.zero_add] at this
  have HLD : Hid (∀ u, Below w1.heap.size w1 u → (Instr.loadAt 35 (.pointer (some ⟨w.heap.size, 6, none⟩))).run Tryd.prog u = .ok (.agg (pkCells h vo vb)) u) := fun u hu => by
    obtain ⟨fs, hu29⟩ := und29
    refine run_loadAt_mid u w.heap.size 6 35 (pkCells h vo vb).toList (.struct fs) (fun j v hv => ?_) hu29 rfl size_pk
    exact HBK.out u hu (6 + j) v (by
      have e : op6 5 vy m vm h vo vb t c a f = (op6 5 vy m vm h vo vb t c a f).take 6 ++ ((pkCells h vo vb).toList ++ (op6 5 vy m vm h vo vb t c a f).drop 17) := rfl
      have hj : j < (pkCells h vo vb).toList.length := (List.getElem?_eq_some_iff.1 hv).1
      rw [e, List.getElem?_append_right (by simp [op6]), List.getElem?_append_left (by simpa [op6] using hj)]
      simpa [op6] using hv)
  have HP1 := hid (about_any h vo vb B w1 hok (hvo.below hb1) (hvb.below hb1) hlo hlb (htK.below hb1))
  have HP2 : Hid (∀ u, Below w1.heap.size w1 u → Calls Tryd.prog 26 #[.agg (pkCells h vo vb)] u fun e w' => ∃ a1 n1 c1 a2 n2 c2, e = .returned (.tuple #[.agg (hdCells (abt h B).1 (.slice a1 n1 c1)), .slice a2 n2 c2, .int .i64 (abt h B).2.2]) ∧ SeesB w' (.slice a1 n1 c1) (abt h B).1.opts ∧ SeesB w' (.slice a2 n2 c2) (abt h B).2.1 ∧ Below u.heap.size u w') := fun u hu => rabout_any h vo vb B u hok (hvo.below (hb1.trans (hu.mono hb1.size))) (hvb.below (hb1.trans (hu.mono hb1.size))) hlb
  have HW1 := hid hw1
  have HB1 := hid hb1
  have HL1 := hid (HLD.out _ (Below.refl _ _))
  clear hw1 hb1 hs1 HBK hvo hvb hok hlo hlb
  generalize abt h B = AB at *
  obtain ⟨H, BD, q⟩ := AB
  simp only at *
  have hqq : (q == q) = true := by simp
  generalize pkCells h vo vb = pk at *
  unfold op6 at HW1 ⊢
  go_enter Tryd.func11, Tryd.ntmps11
  go_upto_region 19 with fail
  rw [← HW1.out]
  go_wp2_with (first | (refine wpList_ld 35 ⟨w.heap.size, 6, none⟩ _ rfl rfl HL1.out rfl ?_) | fail)
  refine HP1.out.mono ?_
  rintro _ w2 ⟨a0, n0, k0, a1, n1, k1, rfl, hao, ha, hb2⟩
  obtain ⟨pa, hpa⟩ : ∃ pa : Array Value, pa = hdCells H (.slice a0 n0 k0) := ⟨_, rfl⟩
  obtain ⟨w3, hw3⟩ : ∃ w3, w3 = (w2.alloc (.cells zeroHC 33)).setCells w2.heap.size 0 pa.toList := ⟨_, rfl⟩
  have HPA := hid hpa
  have HZA : Hid ((Tryd.prog.info? 33).map (·.size) = some pa.size) := by unfold Hid; rw [hpa]; exact size_hd
  have HOA : Hid (pa.all (·.oneCell') = true) := by unfold Hid; rw [hpa]; exact hd_one _ _ _ _
  obtain ⟨hta, hb23, hrg3, hlt2⟩ := put_new (w2 := w2) (T := 33) (Z := zeroHC) (pa := pa) (by rw [hpa]; rfl)
  rw [← hw3] at hb23 hrg3 hlt2
  have HTA := hid hta
  have hb3 : Below w1.heap.size w1 w3 := hb2.trans (hb23.mono hb2.size)
  have HA := hid (ha.below hb23)
  have HAO := hid (hao.below hb23)
  have HW3 : Hid (w3 = (w2.alloc (.cells #[.int .u8 0, .int .u16 0, .bool false, .bool false, .int .i64 0, .int .u8 0, .int .u8 0, .int .u32 0, .int .u32 0, .slice none 0 0] 33)).setCells w2.heap.size 0 pa.toList) := hw3
  have HL3 := hid (HLD.out _ hb3)
  have HLT2 := hid hlt2
  have HRG3 := hid hrg3
  rw [← hpa]
  clear hpa hw3 ha hao hb2 hb23 HP1  hta hrg3 hlt2 HL1
  go_upto_region 20 with (first
    | (refine wpList_store_mid rfl 33 (.tmp 19) (.tmp 137) rfl w2.heap.size 0 pa rfl rfl HTA.out HZA.out HOA.out ?_)
    | fail)
  rw [← HW3.out]
  go_wp2_with (first | (refine wpList_ld 35 ⟨w.heap.size, 6, none⟩ _ rfl rfl HL3.out rfl ?_) | fail)
  refine (HP2.out _ hb3).mono ?_
  rintro _ w4 ⟨a3, n3, k3, a2, n2, k2, rfl, hbo, hb', hb4⟩
  obtain ⟨pb, hpb⟩ : ∃ pb : Array Value, pb = hdCells H (.slice a3 n3 k3) := ⟨_, rfl⟩
  obtain ⟨w5, hw5⟩ : ∃ w5, w5 = (w4.alloc (.cells zeroHC 33)).setCells w4.heap.size 0 pb.toList := ⟨_, rfl⟩
  have HPB := hid hpb
  have HZB : Hid ((Tryd.prog.info? 33).map (·.size) = some pb.size) := by unfold Hid; rw [hpb]; exact size_hd
  have HOB : Hid (pb.all (·.oneCell') = true) := by unfold Hid; rw [hpb]; exact hd_one _ _ _ _
  obtain ⟨htb, hb45, hrg5, hlt4⟩ := put_new (w2 := w4) (T := 33) (Z := zeroHC) (pa := pb) (by rw [hpb]; rfl)
  rw [← hw5] at hb45 hrg5 hlt4
  have HTB := hid htb
  have hb35 : Below w3.heap.size w3 w5 := hb4.trans (hb45.mono hb4.size)
  have hb5 : Below w1.heap.size w1 w5 := hb3.trans (hb35.mono hb3.size)
  have HLA := hid (load_range (T := 33) (range_grow HRG3.out hb35 HLT2.out) und27 HZA.out)
  have HLB := hid (load_range (T := 33) hrg5 und27 HZB.out)
  have HPK : Hid (Calls Tryd.prog 27 #[.agg pa, .agg pb] w5 fun e w' => e = .returned (.bool true) ∧ Below w5.heap.size w5 w') := by
    unfold Hid
    rw [HPA.out, HPB.out]
    exact heads_same H _ _ w5 (HAO.out.below hb35) (hbo.below hb45)
  have HSM : Hid (∀ u, Below w5.heap.size w5 u → Calls Tryd.prog 20 #[.slice a1 n1 k1, .slice a2 n2 k2] u fun e w' => e = .returned (.bool true) ∧ Below u.heap.size u w') := fun u hu => by
    have := same_any (.slice a1 n1 k1) (.slice a2 n2 k2) BD BD u ((HA.out.below hb35).below hu) ((hb'.below hb45).below hu)
    rw [decide_eq_true (rfl : BD = BD)] at this
    exact this
  have HW5 : Hid (w5 = (w4.alloc (.cells #[.int .u8 0, .int .u16 0, .bool false, .bool false, .int .i64 0, .int .u8 0, .int .u8 0, .int .u32 0, .int .u32 0, .slice none 0 0] 33)).setCells w4.heap.size 0 pb.toList) := hw5
  have HB5 := hid hb5
  rw [← hpb]
  clear hpb hw5 hb' hbo hb4 hb45 hb35 hb5 hrg5 HP2 hlt4 htb
  go_upto_region 21 with (first
    | (refine wpList_store_mid rfl 33 (.tmp 22) (.tmp 144) rfl w4.heap.size 0 pb rfl rfl HTB.out HZB.out HOB.out ?_)
    | fail)
  rw [← HW5.out]
  go_wp2_with (first
    | (refine wpList_ld 33 ⟨w2.heap.size, 0, none⟩ (.tmp 19) rfl rfl HLA.out rfl ?_)
    | (refine wpList_ld 33 ⟨w4.heap.size, 0, none⟩ (.tmp 22) rfl rfl HLB.out rfl ?_)
    | fail)
  refine HPK.out.mono ?_
  rintro _ w6 ⟨rfl, hb6⟩
  go_wp2_with fail
  refine (HSM.out _ hb6).mono ?_
  rintro _ w7 ⟨rfl, hb7⟩
  go_wp2_with fail
  go_ret
  have hb57 := hb6.trans (hb7.mono hb6.size)
  exact ⟨rfl, HB1.out.trans ((HB5.out.trans (hb57.mono HB5.out.size)).mono HB1.out.size)⟩
end Go.Proofs.YtcboenmmkaochabDoor.N

namespace Go.Proofs.YtcboenmmkaochabDoor.N
open Go.ChangeShapes Go.WideShapes Go.ChangeAt Go.RowKit
set_option maxHeartbeats 4000000
set_option maxRecDepth 100000

theorem head_3 (w : World) (htC : Ad.TabC w) (htK : TabK w) :
    Calls Tryd.prog 10 #[.int .i64 3] w fun e w' => e = .returned (.bool true) ∧ Below w.heap.size w w' := by
  have HR := hid (small_any w)
  have HP : Hid (∀ (u : World) (a1 : Option Addr) (n1 c1 : Nat) (a2 : Option Addr) (n2 c2 : Nat), Below w.heap.size w u → SeesB u (.slice a1 n1 c1) small6.opts → SeesB u (.slice a2 n2 c2) body6 → Calls Tryd.prog 11 #[.agg #[.int .i64 3, .slice none 0 0, .int .u8 0, .int .u8 0, .int .u32 0, .slice none 0 0, .int .u8 0, .int .u16 7, .bool false, .bool false, .int .i64 0, .int .u8 1, .int .u8 17, .int .u32 167838211, .int .u32 167904004, .slice a1 n1 c1, .slice a2 n2 c2, .int .u8 11, .int .u8 0, .int .i64 0, .int .u32 167838209]] u fun e w' => e = .returned (.bool true) ∧ Below u.heap.size u w') :=
    fun u a1 n1 c1 a2 n2 c2 hb h1 h2 => plays_3 (.slice none 0 0) Im.none0 (.slice none 0 0) small6 (.slice a1 n1 c1) (.slice a2 n2 c2) body6 11 0 0 167838209 u (htC.below hb) (htK.below hb) small6_ok h1 h2 (by decide) (by decide) (by decide) (by decide) (by decide) (by decide) (by decide)
  clear htC htK
  go_enter Tryd.func10, Tryd.ntmps10
  go_wp2_with fail
  refine HR.out.mono ?_
  rintro _ w2 ⟨a1, n1, c1, a2, n2, c2, rfl, ho, hbd, _, hb2⟩
  rw [show pkCells small6 (.slice a1 n1 c1) (.slice a2 n2 c2) = #[.int .u8 0, .int .u16 7, .bool false, .bool false, .int .i64 0, .int .u8 1, .int .u8 17, .int .u32 167838211, .int .u32 167904004, .slice a1 n1 c1, .slice a2 n2 c2] from rfl]
  have HX := hid (HP.out w2 _ _ _ _ _ _ hb2 ho hbd)
  clear ho hbd HR HP
  go_wp2_with fail
  refine HX.out.mono ?_
  rintro _ w3 ⟨rfl, hb3⟩
  go_wp2_with fail
  go_ret
  exact ⟨rfl, hb2.trans (hb3.mono hb2.size)⟩

theorem head_4 (w : World) (htC : Ad.TabC w) :
    Calls Tryd.prog 10 #[.int .i64 4] w fun e w' => e = .returned (.bool true) ∧ Below w.heap.size w w' := by
  have HR := hid (request_any w)
  have HP : Hid (∀ (u : World) (a1 : Option Addr) (n1 c1 : Nat) (a2 : Option Addr) (n2 c2 : Nat), Below w.heap.size w u → SeesB u (.slice a1 n1 c1) req6.opts → SeesB u (.slice a2 n2 c2) reqB → Calls Tryd.prog 11 #[.agg #[.int .i64 4, .slice none 0 0, .int .u8 0, .int .u8 0, .int .u32 0, .slice none 0 0, .int .u8 0, .int .u16 7, .bool false, .bool false, .int .i64 0, .int .u8 1, .int .u8 1, .int .u32 167838211, .int .u32 167904004, .slice a1 n1 c1, .slice a2 n2 c2, .int .u8 0, .int .u8 0, .int .i64 0, .int .u32 0]] u fun e w' => e = .returned (.bool true) ∧ Below u.heap.size u w') :=
    fun u a1 n1 c1 a2 n2 c2 hb h1 h2 => plays_4 (.slice none 0 0) Im.none0 (.slice none 0 0) req6 (.slice a1 n1 c1) (.slice a2 n2 c2) reqB 0 0 0 0 u (htC.below hb) req6_ok h1 h2 (by decide) (by decide)
  clear htC
  go_enter Tryd.func10, Tryd.ntmps10
  go_wp2_with fail
  refine HR.out.mono ?_
  rintro _ w2 ⟨a1, n1, c1, a2, n2, c2, rfl, ho, hbd, hb2⟩
  rw [show pkCells req6 (.slice a1 n1 c1) (.slice a2 n2 c2) = #[.int .u8 0, .int .u16 7, .bool false, .bool false, .int .i64 0, .int .u8 1, .int .u8 1, .int .u32 167838211, .int .u32 167904004, .slice a1 n1 c1, .slice a2 n2 c2] from rfl]
  have HX := hid (HP.out w2 _ _ _ _ _ _ hb2 ho hbd)
  clear ho hbd HR HP
  go_wp2_with fail
  refine HX.out.mono ?_
  rintro _ w3 ⟨rfl, hb3⟩
  go_wp2_with fail
  go_ret
  exact ⟨rfl, hb2.trans (hb3.mono hb2.size)⟩

/-- What is known of every fault's packet. -/
theorem flt_facts (h : Hd) (B : List Nat) (t c : Nat) (a : Int) (f : Nat) (hs : h.src < 4294967296) (hf : f < 4294967296) (ho : h.opts.length ≤ 140000000000000) :
    (fltP h B t c a f).1.Ok ∧ (fltP h B t c a f).1.opts = [] ∧ (fltP h B t c a f).2.length ≤ 140737488355328 := by
  unfold fltP
  split
  · refine ⟨⟨by show 0 < 256; omega, by show 0 < 65536; omega, by show -9223372036854775808 ≤ (0 : Int) ∧ (0 : Int) ≤ 9223372036854775807; omega, by show 64 < 256; omega, by show 1 < 256; omega, hf, hs⟩, rfl, ?_⟩
    show (Im.laid _).length ≤ _
    rw [Im.laid_len]
    show 8 + ((builtL h B).take (fltQ h B)).length ≤ _
    rw [List.length_take]
    unfold fltQ
    omega
  · exact ⟨⟨by decide, by decide, by decide, by decide, by decide, by decide, by decide⟩, rfl, by simp⟩

theorem head_5 (w : World) (htK : TabK w) :
    Calls Tryd.prog 10 #[.int .i64 5] w fun e w' => e = .returned (.bool true) ∧ Below w.heap.size w w' := by
  have HR := hid (small_any w)
  have HF : Hid (∀ (u : World) (a1 : Option Addr) (n1 c1 : Nat) (a2 : Option Addr) (n2 c2 : Nat), SeesB u (.slice a1 n1 c1) small6.opts → SeesB u (.slice a2 n2 c2) body6 → Calls Tryd.prog 14 #[.agg (pkCells small6 (.slice a1 n1 c1) (.slice a2 n2 c2)), .int .u8 11, .int .u8 0, .int .i64 0, .int .u32 167838209] u fun e w' => ∃ a2 n2 c2, e = .returned (.tuple #[.agg (pkCells (fltP small6 body6 11 0 0 167838209).1 (.slice none 0 0) (.slice a2 n2 c2)), .int .i64 (fltE small6 body6 11 0 0 167838209)]) ∧ SeesB w' (.slice a2 n2 c2) (fltP small6 body6 11 0 0 167838209).2 ∧ (∀ x, a2 = some x → u.heap.size ≤ x.block) ∧ Below u.heap.size u w') :=
    fun u a1 n1 c1 a2 n2 c2 h1 h2 => rfault_any small6 _ _ body6 11 0 0 167838209 u small6_ok h1 h2 (by decide) (by decide) (by decide) (by decide)
  obtain ⟨f1, f2, f3⟩ := flt_facts small6 body6 11 0 0 167838209 (by decide) (by decide) (by decide)
  have HP : Hid (∀ (u : World) (v : Value), Below w.heap.size w u → SeesB u v (fltP small6 body6 11 0 0 167838209).2 → Calls Tryd.prog 11 #[.agg (op6 5 (.slice none 0 0) Im.none0 (.slice none 0 0) (fltP small6 body6 11 0 0 167838209).1 (.slice none 0 0) v 0 0 0 0).toArray] u fun e w' => e = .returned (.bool true) ∧ Below u.heap.size u w') :=
    fun u v hb hv => plays_5 (.slice none 0 0) Im.none0 (.slice none 0 0) _ (.slice none 0 0) v _ 0 0 0 0 u (htK.below hb) f1 (by rw [f2]; exact sees_nil _) hv (by rw [f2]; simp) f3
  clear htK f1 f2 f3
  generalize fltP small6 body6 11 0 0 167838209 = AB at *
  generalize fltE small6 body6 11 0 0 167838209 = q at *
  obtain ⟨H, BD⟩ := AB
  simp only at *
  go_enter Tryd.func10, Tryd.ntmps10
  go_wp2_with fail
  refine HR.out.mono ?_
  rintro _ w2 ⟨a1, n1, c1, a2, n2, c2, rfl, ho, hbd, _, hb2⟩
  have HX := hid (HF.out w2 _ _ _ _ _ _ ho hbd)
  generalize pkCells small6 (.slice a1 n1 c1) (.slice a2 n2 c2) = pk at *
  clear ho hbd HR HF
  go_wp2_with fail
  refine HX.out.mono ?_
  rintro _ w3 ⟨a3, n3, c3, rfl, hs3, _, hb3⟩
  obtain ⟨pa, hpa⟩ : ∃ pa : Array Value, pa = pkCells H (.slice none 0 0) (.slice a3 n3 c3) := ⟨_, rfl⟩
  obtain ⟨w4, hw4⟩ : ∃ w4, w4 = (w3.alloc (.cells zeroP 35)).setCells w3.heap.size 0 pa.toList := ⟨_, rfl⟩
  have HZA : Hid ((Tryd.prog.info? 35).map (·.size) = some pa.size) := by unfold Hid; rw [hpa]; exact size_pk
  have HOA : Hid (pa.all (·.oneCell') = true) := by unfold Hid; rw [hpa]; exact pk_one _ (sees_nil w3) hs3
  obtain ⟨hta, hb34, hrg4, hlt3⟩ := put_new (w2 := w3) (T := 35) (Z := zeroP) (pa := pa) (by rw [hpa]; rfl)
  rw [← hw4] at hb34 hrg4 hlt3
  have HTA := hid hta
  have hb24 : Below w.heap.size w w4 := hb2.trans ((hb3.trans (hb34.mono hb3.size)).mono hb2.size)
  have HB4 := hid hb24
  have HLA := hid (load_range (T := 35) hrg4 und29 HZA.out)
  have HXX := hid (HP.out w4 _ hb24 (hs3.below hb34))
  have HW4 : Hid (w4 = (w3.alloc (.cells #[.int .u8 0, .int .u16 0, .bool false, .bool false, .int .i64 0, .int .u8 0, .int .u8 0, .int .u32 0, .int .u32 0, .slice none 0 0, .slice none 0 0] 35)).setCells w3.heap.size 0 pa.toList) := hw4
  have HPA : Hid (pa = #[.int .u8 (H.tos : Int), .int .u16 (H.id : Int), .bool H.df, .bool H.mf, .int .i64 H.off, .int .u8 (H.ttl : Int), .int .u8 (H.proto : Int), .int .u32 (H.src : Int), .int .u32 (H.dst : Int), .slice none 0 0, .slice a3 n3 c3]) := hpa
  rw [← hpa]
  clear hpa hw4 hs3 hb3 hb34 hrg4 hlt3 hta hb24 hb2 HX HP
  go_upto_region 11 with (first
    | (refine wpList_store_mid rfl 35 (.tmp 3) (.tmp 31) rfl w3.heap.size 0 pa rfl rfl HTA.out HZA.out HOA.out ?_)
    | fail)
  rw [← HW4.out]
  rw [HPA.out] at HLA
  unfold op6 at HXX
  go_wp2_with (first
    | (refine wpList_ld 35 ⟨w3.heap.size, 0, none⟩ (.tmp 3) rfl rfl HLA.out rfl ?_)
    | fail)
  refine HXX.out.mono ?_
  rintro _ w5 ⟨rfl, hb5⟩
  go_wp2_with fail
  go_ret
  exact ⟨rfl, HB4.out.trans (hb5.mono HB4.out.size)⟩
end Go.Proofs.YtcboenmmkaochabDoor.N

namespace Go.Proofs.YtcboenmmkaochabDoor.N
open Go.ChangeShapes Go.WideShapes Go.ChangeAt Go.RowKit
set_option maxHeartbeats 4000000
set_option maxRecDepth 100000

theorem head_1 (w : World) :
    Calls Tryd.prog 10 #[.int .i64 1] w fun e w' => e = .returned (.bool true) ∧ Below w.heap.size w w' := by
  have HR := hid (request_any w)
  have HP : Hid (∀ (u : World) (a : Option Addr) (n c : Nat), SeesB u (.slice a n c) reqB → Calls Tryd.prog 11 #[.agg #[.int .i64 1, .slice a n c, .int .u8 0, .int .u8 0, .int .u32 0, .slice none 0 0, .int .u8 0, .int .u16 0, .bool false, .bool false, .int .i64 0, .int .u8 0, .int .u8 0, .int .u32 0, .int .u32 0, .slice none 0 0, .slice none 0 0, .int .u8 0, .int .u8 0, .int .i64 0, .int .u32 0]] u fun e w' => e = .returned (.bool true) ∧ Below u.heap.size u w') :=
    fun u a n c hs => plays_1 (.slice a n c) reqB Im.none0 (.slice none 0 0) zeroHd (.slice none 0 0) (.slice none 0 0) 0 0 0 0 u hs
  go_enter Tryd.func10, Tryd.ntmps10
  go_wp2_with fail
  refine HR.out.mono ?_
  rintro _ w2 ⟨a1, n1, c1, a2, n2, c2, rfl, ho, hbd, hb2⟩
  rw [show pkCells req6 (.slice a1 n1 c1) (.slice a2 n2 c2) = #[.int .u8 0, .int .u16 7, .bool false, .bool false, .int .i64 0, .int .u8 1, .int .u8 1, .int .u32 167838211, .int .u32 167904004, .slice a1 n1 c1, .slice a2 n2 c2] from rfl]
  have HBD := hid hbd
  have hfl : ∀ u : World, (Instr.field 35 (.agg #[.int .u8 0, .int .u16 7, .bool false, .bool false, .int .i64 0, .int .u8 1, .int .u8 1, .int .u32 167838211, .int .u32 167904004, .slice a1 n1 c1, .slice a2 n2 c2]) 1).run Tryd.prog u = .ok (.slice a2 n2 c2) u := fun u => by kernel_rfl
  clear ho hbd HR
  go_wp2_with fail
  refine (HP.out _ _ _ _ HBD.out).mono ?_
  rintro _ w3 ⟨rfl, hb3⟩
  go_wp2_with fail
  go_ret
  exact ⟨rfl, hb2.trans (hb3.mono hb2.size)⟩

theorem head_2 (w : World) :
    Calls Tryd.prog 10 #[.int .i64 2] w fun e w' => e = .returned (.bool true) ∧ Below w.heap.size w w' := by
  obtain ⟨w1, hw1⟩ : ∃ w1, w1 = w.alloc (.cells (bs [97, 98, 99]).toArray 5) := ⟨_, rfl⟩
  have hb1 : Below w.heap.size w w1 := by rw [hw1]; exact (Below.refl _ _).alloc (Nat.le_refl _) _
  have hs : SeesB w1 (.slice (some ⟨w.heap.size, 0, none⟩) 3 3) [97, 98, 99] := sees_blk (t := 5) (by rw [hw1]; exact heap_alloc_new w _) rfl (by decide) (by decide)
  have HP : Hid (Calls Tryd.prog 11 #[.agg #[.int .i64 2, .slice none 0 0, .int .u8 8, .int .u8 0, .int .u32 65538, .slice (some ⟨w.heap.size, 0, none⟩) 3 3, .int .u8 0, .int .u16 0, .bool false, .bool false, .int .i64 0, .int .u8 0, .int .u8 0, .int .u32 0, .int .u32 0, .slice none 0 0, .slice none 0 0, .int .u8 0, .int .u8 0, .int .i64 0, .int .u32 0]] w1 fun e w' => e = .returned (.bool true) ∧ Below w1.heap.size w1 w') :=
    plays_2 (.slice none 0 0) ⟨8, 0, 65538, [97, 98, 99]⟩ _ zeroHd (.slice none 0 0) (.slice none 0 0) 0 0 0 0 w1 ⟨by decide, by decide, by decide⟩ hs
  have HW1 : Hid (w1 = w.alloc (.cells #[.int .u8 97, .int .u8 98, .int .u8 99] 5)) := hw1
  have HB1 := hid hb1
  clear hw1 hb1 hs
  go_enter Tryd.func10, Tryd.ntmps10
  go_wp2_with fail
  rw [← HW1.out]
  refine HP.out.mono ?_
  rintro _ w3 ⟨rfl, hb3⟩
  go_wp2_with fail
  go_ret
  exact ⟨rfl, HB1.out.trans (hb3.mono HB1.out.size)⟩
end Go.Proofs.YtcboenmmkaochabDoor.N
