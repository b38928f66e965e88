/-
  JournalSerial: the walk.
-/
import Derived.Test.YteoebmpfdcbbmaaDoorRD
namespace Go.Proofs.YteoebmpfdcbbmaaDoor
open Go.ChangeShapes Go.WideShapes Go.ChangeAt Go.RowKit Jn N
set_option maxHeartbeats 8000000
set_option maxRecDepth 100000

/-- The disk of a round, in the block db. -/
structure SeX (w : World) (db : Nat) (r : List Nat) (k : Nat) (u : World) : Prop where
  be : Below w.heap.size w u
  dl : w.heap.size ≤ db
  ex : ∃ (d : Dk) (v0 v1 : Value), u.heap[db]? = some (.cells #[v0, v1] 33 (0, 0)) ∧ SeesB u v0 d.1 ∧ SeesB u v1 d.2 ∧ Ser r k d

theorem serial_any (g : Nat) (n : Int) (v : Value) (r : List Nat) (w : World) (hg : g < 4294967296) (hv : SeesB w v r) (ht : TabN w) :
    Calls Tryd.prog 7 #[.int .u32 (g : Int), .int .i64 n, v] w fun e w' => e = .returned (.bool true) ∧ Below w.heap.size w w' := by
  have HV := hid hv
  have HT := hid ht
  have hz := ht.2
  have HF : Hid (∀ u, Below w.heap.size w u → Calls Tryd.prog 9 #[] u fun e w' => e = .returned (.bool true) ∧ Below u.heap.size u w') := fun u hu => first_any u (HT.out.below hu hz)
  obtain ⟨ar, rn, rc, rfl, HRN, hr1, hr2⟩ := hv.shape
  unfold maxLen at hr2
  have HF0 := hid (HF.out w (Below.refl _ _))
  clear hv ht
  by_cases hbig : 60000 < rn
  · go_enter Tryd.func7, Tryd.ntmps7
    go_wp2_with fail
    refine HF0.out.mono ?_
    rintro _ w1 ⟨rfl, hb1⟩
    have HF1 := hid (HF.out w1 hb1)
    have HB1 := hid hb1
    clear hb1
    go_wp2_with fail
    refine HF1.out.mono ?_
    rintro _ w2 ⟨rfl, hb2⟩
    have HB2 : Hid (Below w.heap.size w w2) := HB1.out.trans (hb2.mono HB1.out.size)
    clear hb2
    go_wp2_with fail
    go_ret
    exact ⟨rfl, HB2.out⟩
  · have HRL : Hid (r.length ≤ 60000) := by have := HRN.out; unfold Hid; omega
    rcases (by omega : n < 0 ∨ 9 < n ∨ (0 ≤ n ∧ n ≤ 9)) with hn | hn | hn
    · go_enter Tryd.func7, Tryd.ntmps7
      go_wp2_with fail
      refine HF0.out.mono ?_
      rintro _ w1 ⟨rfl, hb1⟩
      have HB1 := hid hb1
      have HHD := hid (headR_any g 0 w1 hg (by decide))
      clear hb1
      go_wp2_with fail
      refine HHD.out.mono ?_
      rintro _ w2 ⟨vh, rfl, ho2, hb2⟩
      have hB2 : Below w.heap.size w w2 := HB1.out.trans (hb2.mono HB1.out.size)
      have hS2 : SeesB w2 vh (head g 0) := ho2.sees (head_bytes g 0)
      obtain ⟨ah, nh, ch, rfl, -, -, -⟩ := hS2.shape
      obtain ⟨db, HDB⟩ : ∃ db, Hid (db = w2.heap.size) := ⟨_, rfl⟩
      obtain ⟨w3, HW3⟩ : ∃ w3, Hid (w3 = w2.alloc (.cells #[.slice ah nh ch, .slice none 0 0] 33)) := ⟨_, rfl⟩
      have HS0 : Hid (SeX w db r 0 w3) := by
        have hb3 : Below w2.heap.size w2 w3 := by rw [HW3.out]; exact (Below.refl _ _).alloc (Nat.le_refl _) _
        exact ⟨hB2.trans (hb3.mono hB2.size), by rw [HDB.out]; exact hB2.size, (head g 0, []), _, _, by rw [HDB.out, HW3.out]; exact heap_alloc_new w2 _, hS2.below hb3, sees_nil _, ser_first r hg⟩
      clear ho2 hb2 hB2 hS2
      go_upto_region 6 with fail
      rw [← HW3.out, ← HDB.out]
      clear HW3 HDB
      go_wp2_with fail
      go_loopw [8, 9, 10, 11] (fun i _ _ _ wr => ∃ k : Nat, i = .int .i64 (k : Int) ∧ k ≤ 9 + 1 ∧ Hid (SeX w db r k wr)) (fun i _ _ _ _ => 9 + 1 - (intOf i).toNat)
      case atStart => exact ⟨0, rfl, Nat.zero_le _, HS0⟩
      case round =>
        obtain ⟨k, rfl, hk, HS⟩ := hrel
        clear HS0
        by_cases hlt : k ≤ 9
        · obtain ⟨d, v0, v1, hrow, hs0, hs1, hser⟩ := HS.out.ex
          obtain ⟨p0, m0, k0, rfl, -, -, -⟩ := hs0.shape
          obtain ⟨p1, m1, k1, rfl, -, -, -⟩ := hs1.shape
          obtain ⟨y0, y1, -, -⟩ := ar_cells hrow
          have HSER := hid hser
          have hE : opnE d.1 d.2 = false ∧ (0 < k → opnR d.1 d.2 = [[k], r]) := by
            obtain ⟨c, g', rs, fin, hc, hg', h1, h2, h3⟩ := hser
            obtain ⟨q1, -, q3⟩ := opn_of hc h1 rfl hg' h2
            exact ⟨q1, fun h0 => by rw [q3]; exact h3 h0⟩
          have HE := hid hE
          have HOP : Hid (Calls Tryd.prog 16 #[.agg #[.slice p0 m0 k0, .slice p1 m1 k1]] wr fun e w' => ∃ p v S Bd, e = .returned (.tuple #[.pointer (some ⟨p, 0, none⟩), v, .int .i64 0]) ∧ Opened wr w' S Bd p v (opnL d.1 d.2) (opnR d.1 d.2)) := (open_any _ _ d.1 d.2 wr hs0 hs1 (HT.out.below HS.out.be hz)).mono fun e w' h => h.2 hE.1
          have HWS : Hid ((opnL d.1 d.2).ws.length ≤ 1) := by
            obtain ⟨c, g', rs, fin, hc, hg', h1, h2, h3⟩ := hser
            obtain ⟨-, q2, -⟩ := opn_of hc h1 rfl hg' h2
            unfold Hid; rw [q2]; exact Nat.zero_le 1
          have HSZ : Hid (rewE [[k + 1]] = 0 ∧ rewL (opnL d.1 d.2) [[k + 1]] = (opnL d.1 d.2).rew [[k + 1]]) := by
            have h0 : rewE [[k + 1]] = 0 := rfl
            exact ⟨h0, by unfold rewL; rw [if_pos h0]⟩
          have HAP : Hid (appE ((opnL d.1 d.2).rew [[k + 1]]) r = 0 ∧ appL ((opnL d.1 d.2).rew [[k + 1]]) r = ((opnL d.1 d.2).rew [[k + 1]]).app r) := by
            have h0 : appE ((opnL d.1 d.2).rew [[k + 1]]) r = 0 := by
              unfold appE
              rw [if_neg (by have := HRL.out; omega), if_neg]
              show ¬ 1048576 < 16 + baseL [[k + 1]] + (12 + r.length)
              have := HRL.out
              simp [baseL]
              omega
            exact ⟨h0, by unfold appL; rw [if_pos h0]⟩
          have HNX := hid (ser_next HRL.out hser)
          have HROW := hid hrow
          have hdbl : db < wr.heap.size := (Array.getElem?_eq_some_iff.1 hrow).1
          clear hser hs0 hs1 hE hrow
          generalize opnL d.1 d.2 = lo at *
          go_wp2_with fail
          refine HOP.out.mono ?_
          rintro _ w4 ⟨p, vr, S, Bd, rfl, hO⟩
          have HO := hid hO
          have HR4 : Hid (Below wr.heap.size wr w4) := hO.be
          have HSR := hid hO.recs.sees
          obtain ⟨av, nv, cv, rfl, -, -, -⟩ := HSR.out.shape
          clear hO y0 y1
          rcases Nat.eq_zero_or_pos k with hk0' | hk0'
          · subst hk0'
            have HRW0 := HR4
            have HLW := hid HO.out.log
            obtain ⟨w7, HW7⟩ : ∃ w7, Hid (w7 = w4.alloc (.cells #[.int .u8 1] 5)) := ⟨_, rfl⟩
            obtain ⟨w8, HW8⟩ : ∃ w8, Hid (w8 = w7.alloc (.cells #[.slice (some ⟨w4.heap.size, 0, none⟩) 1 1] 31)) := ⟨_, rfl⟩
            have hb7 : Below w4.heap.size w4 w7 := by rw [HW7.out]; exact (Below.refl _ _).alloc (Nat.le_refl _) _
            have hb8 : Below w7.heap.size w7 w8 := by rw [HW8.out]; exact (Below.refl _ _).alloc (Nat.le_refl _) _
            have hs7 : w7.heap.size = w4.heap.size + 1 := by rw [HW7.out]; simp
            have q7 : Blk w7 w4.heap.size 5 [0 + 1] := by rw [HW7.out]; exact heap_alloc_new w4 _
            have r8 : w8.heap[w4.heap.size + 1]? = some (.cells #[.slice (some ⟨w4.heap.size, 0, none⟩) 1 1] 31 (0, 0)) := by rw [HW8.out, ← hs7]; exact heap_alloc_new w7 _
            have hbW8 : Below w4.heap.size w4 w8 := hb7.trans (hb8.mono (by omega))
            have hS8 : SeesBB w8 (.slice (some ⟨w4.heap.size + 1, 0, none⟩) 1 1) [[0 + 1]] := by
              refine ⟨_, 1, rfl, Nat.le_refl _, by unfold maxLen; omega, fun j hj => ?_⟩
              rcases j with _ | j
              · exact ⟨_, 0, _, rfl, (Array.getElem?_eq_some_iff.1 r8).1, by rw [cell_of_row _ _ _ _ _ _ r8]; rfl, (q7.below hb8 (by omega)).sees rfl (by simp) (by intro y hy; simp at hy; omega)⟩
              · simp at hj
            have HR8 : Hid (Below wr.heap.size wr w8) := HRW0.out.trans (hbW8.mono HRW0.out.size)
            have HTW : Hid (∀ u, Below wr.heap.size wr u → TabN u ∧ SeesB u (.slice ar rn rc) r) := fun u hu => by
              have h := HS.out.be.trans (hu.mono HS.out.be.size)
              exact ⟨HT.out.below h hz, HV.out.below h⟩
            have HRW := hid (rewrite_any S p lo _ [[0 + 1]] w8 (HLW.out.below hbW8) HO.out.ok hS8 (by simp) (by have := HWS.out; omega) (HTW.out w8 HR8.out).1)
            rw [HSZ.out.1, HSZ.out.2] at HRW
            have hwk : IntKind.u8.wrap 1 = 1 := by rw [IntKind.wrap_u8']; omega
            have hzr : 0 < wr.heap.size := Nat.lt_of_lt_of_le hz HS.out.be.size
            clear hb7 hb8 q7 r8 hbW8 hS8
            go_wp2_with fail
            rw [← HW7.out, ← HW8.out]
            refine HRW.out.mono ?_
            rintro _ w9 ⟨rfl, hL9⟩
            have hs8 := HR8.out.size
            have hR9 : Below wr.heap.size wr w9 := hL9.kp.below HR8.out hs8 (fun j hj e => by have := HO.out.lo j e; omega)
            have hlo1 : ∀ j, NewS S w8.heap.size w9 j → wr.heap.size ≤ j := fun j hj => by
              rcases hj with hj | ⟨hj, -⟩
              · exact HO.out.lo j hj
              · omega
            have HAA := hid (append_any _ p _ _ r w9 hL9.log hL9.ok (HTW.out w9 hR9).2 (by show (lo.ws ++ [_]).length + 1 ≤ _; rw [List.length_append]; have := HWS.out; simp; omega) (HTW.out w9 hR9).1 (fun j hj => by have := hlo1 j hj; omega))
            rw [HAP.out.1, HAP.out.2] at HAA
            have HLO1 := hid hlo1
            have HR9 := hid hR9
            clear hL9 hR9 hlo1
            go_wp2_with fail
            refine HAA.out.mono ?_
            rintro _ w10 ⟨rfl, hL10⟩
            have hs9 := HR9.out.size
            have hR10 : Below wr.heap.size wr w10 := hL10.kp.below HR9.out hs9 (fun j hj e => by have := HLO1.out j e; omega)
            have hlo2 : ∀ j, NewS (NewS S w8.heap.size w9) w9.heap.size w10 j → wr.heap.size ≤ j := fun j hj => by
              rcases hj with hj | ⟨hj, -⟩
              · exact HLO1.out j hj
              · omega
            have hwl : (((lo.rew [[0 + 1]]).app r).ws).length ≤ 3000000000000 := by
              show ((lo.ws ++ [_]) ++ [_]).length ≤ _
              rw [List.length_append, List.length_append]
              have := HWS.out
              simp
              omega
            have HSY := hid (sync_any _ p _ w10 hL10.log hL10.ok hwl)
            have HR10 := hid hR10
            have HLO2 := hid hlo2
            clear hL10 hR10 hlo2 hwl
            go_wp2_with fail
            refine HSY.out.mono ?_
            rintro _ w11 ⟨rfl, hL11⟩
            have hR11 : Below wr.heap.size wr w11 := hL11.kp.below HR10.out HR10.out.size (fun j hj e => by have := HLO2.out j e; omega)
            have HCR := hid (crash_any _ p _ 0 w11 hL11.log hL11.ok (by show (0 : Nat) ≤ _; omega) (by decide))
            rw [show ((0 : Int)).toNat = 0 from rfl, crash_zero] at HCR
            have HBY : Hid ((∀ y ∈ ((lo.rew [[0 + 1]]).app r).syn.a, y < 256) ∧ ∀ y ∈ ((lo.rew [[0 + 1]]).app r).syn.b, y < 256) := ⟨hL11.ok.ba, hL11.ok.bb⟩
            have HR11 := hid hR11
            clear hL11 hR11
            go_wp2_with fail
            refine HCR.out.mono ?_
            rintro _ w12 ⟨ga, na, ca, gb, nb, cb, rfl, hD⟩
            have hR12 : Below wr.heap.size wr w12 := HR11.out.trans (hD.be.mono HR11.out.size)
            have hrow12 := below_keeps hR12 HROW.out hdbl
            obtain ⟨k0', k1', k2', k3'⟩ := ar_cells hrow12
            have HNEXT : Hid (SeX w db r (0 + 1) ((w12.setCell ⟨db, 0, none⟩ (.slice (some ⟨ga, 0, none⟩) na ca)).setCell ⟨db, 1, none⟩ (.slice (some ⟨gb, 0, none⟩) nb cb))) := by
              obtain ⟨hU, hkU⟩ := ar_put (C := #[.slice p0 m0 k0, .slice p1 m1 k1]) rfl hrow12 (.slice (some ⟨ga, 0, none⟩) na ca) (.slice (some ⟨gb, 0, none⟩) nb cb)
              generalize ((w12.setCell ⟨db, 0, none⟩ (.slice (some ⟨ga, 0, none⟩) na ca)).setCell ⟨db, 1, none⟩ (.slice (some ⟨gb, 0, none⟩) nb cb)) = U at *
              have hB12 : Below w.heap.size w w12 := HS.out.be.trans (hR12.mono HS.out.be.size)
              have s11 := HR11.out.size
              have hdl := HS.out.dl
              refine ⟨hkU.below hB12 hB12.size (fun j hj e => by unfold At1 at e; omega), hdl, _, _, _, hU, (hD.a.sees HBY.out.1).keeps hkU (fun a n c e hk => by simp at e; obtain ⟨rfl, -, -⟩ := e; have hk2 : ga = db := hk; have := hD.la; omega), (hD.b.sees HBY.out.2).keeps hkU (fun a n c e hk => by simp at e; obtain ⟨rfl, -, -⟩ := e; have hk2 : gb = db := hk; have := hD.lb; omega), HNX.out⟩
            clear hD hR12 hrow12
            go_wp2_with fail
            go_roundw
            case rel => exact ⟨0 + 1, by go_num, by omega, HNEXT⟩
            case measure => simp [intOf] <;> omega
          · obtain ⟨w5a, HW5a⟩ : ∃ w5a, Hid (w5a = w4.alloc (.cells #[.int .u8 (k : Int)] 5)) := ⟨_, rfl⟩
            obtain ⟨w5, HW5⟩ : ∃ w5, Hid (w5 = w5a.alloc (.cells #[.slice (some ⟨w4.heap.size, 0, none⟩) 1 1, .slice ar rn rc] 31)) := ⟨_, rfl⟩
            have hb5a : Below w4.heap.size w4 w5a := by rw [HW5a.out]; exact (Below.refl _ _).alloc (Nat.le_refl _) _
            have hb5b : Below w5a.heap.size w5a w5 := by rw [HW5.out]; exact (Below.refl _ _).alloc (Nat.le_refl _) _
            have hs5a : w5a.heap.size = w4.heap.size + 1 := by rw [HW5a.out]; simp
            have q5 : Blk w5a w4.heap.size 5 [k] := by rw [HW5a.out]; exact heap_alloc_new w4 _
            have r5 : w5.heap[w4.heap.size + 1]? = some (.cells #[.slice (some ⟨w4.heap.size, 0, none⟩) 1 1, .slice ar rn rc] 31 (0, 0)) := by rw [HW5.out, ← hs5a]; exact heap_alloc_new w5a _
            have hb45 : Below w4.heap.size w4 w5 := hb5a.trans (hb5b.mono (by omega))
            have hR5 : Below wr.heap.size wr w5 := HR4.out.trans (hb45.mono HR4.out.size)
            have hV5 : SeesB w5 (.slice ar rn rc) r := HV.out.below (HS.out.be.trans (hR5.mono HS.out.be.size))
            have hS5 : SeesBB w5 (.slice (some ⟨w4.heap.size + 1, 0, none⟩) 2 2) [[k], r] := by
              refine ⟨_, 2, rfl, Nat.le_refl _, by unfold maxLen; omega, fun j hj => ?_⟩
              rcases j with _ | _ | j
              · exact ⟨_, 0, _, rfl, (Array.getElem?_eq_some_iff.1 r5).1, by rw [cell_of_row _ _ _ _ _ _ r5]; rfl, (q5.below hb5b (by omega)).sees rfl (by simp) (by intro y hy; simp at hy; omega)⟩
              · exact ⟨_, 0, _, rfl, (Array.getElem?_eq_some_iff.1 r5).1, by rw [cell_of_row _ _ _ _ _ _ r5]; rfl, hV5⟩
              · simp at hj; omega
            have hsr := HSR.out
            rw [HE.out.2 hk0'] at hsr
            have HLS := hid (lists_eq _ _ _ w5 (hsr.below hb45) hS5)
            have HL5 := hid (HO.out.log.below hb45)
            have HR5 := hid hR5
            have q0 : (0 : Int) < (k : Int) := by omega
            have hwk0 : IntKind.u8.wrap (k : Int) = (k : Int) := by rw [IntKind.wrap_u8']; omega
            clear hb5a hb5b q5 r5 hb45 hR5 hV5 hS5 hsr
            go_wp2_with fail
            rw [← HW5a.out, ← HW5.out]
            refine HLS.out.mono ?_
            rintro _ w6 ⟨rfl, hb6⟩
            have HRW0 : Hid (Below wr.heap.size wr w6) := HR5.out.trans (hb6.mono HR5.out.size)
            have HLW := hid (HL5.out.below hb6)
            clear hb6
            obtain ⟨w7, HW7⟩ : ∃ w7, Hid (w7 = w6.alloc (.cells #[.int .u8 ((k : Int) + 1)] 5)) := ⟨_, rfl⟩
            obtain ⟨w8, HW8⟩ : ∃ w8, Hid (w8 = w7.alloc (.cells #[.slice (some ⟨w6.heap.size, 0, none⟩) 1 1] 31)) := ⟨_, rfl⟩
            have hb7 : Below w6.heap.size w6 w7 := by rw [HW7.out]; exact (Below.refl _ _).alloc (Nat.le_refl _) _
            have hb8 : Below w7.heap.size w7 w8 := by rw [HW8.out]; exact (Below.refl _ _).alloc (Nat.le_refl _) _
            have hs7 : w7.heap.size = w6.heap.size + 1 := by rw [HW7.out]; simp
            have q7 : Blk w7 w6.heap.size 5 [k + 1] := by rw [HW7.out]; exact heap_alloc_new w6 _
            have r8 : w8.heap[w6.heap.size + 1]? = some (.cells #[.slice (some ⟨w6.heap.size, 0, none⟩) 1 1] 31 (0, 0)) := by rw [HW8.out, ← hs7]; exact heap_alloc_new w7 _
            have hbW8 : Below w6.heap.size w6 w8 := hb7.trans (hb8.mono (by omega))
            have hS8 : SeesBB w8 (.slice (some ⟨w6.heap.size + 1, 0, none⟩) 1 1) [[k + 1]] := by
              refine ⟨_, 1, rfl, Nat.le_refl _, by unfold maxLen; omega, fun j hj => ?_⟩
              rcases j with _ | j
              · exact ⟨_, 0, _, rfl, (Array.getElem?_eq_some_iff.1 r8).1, by rw [cell_of_row _ _ _ _ _ _ r8]; rfl, (q7.below hb8 (by omega)).sees rfl (by simp) (by intro y hy; simp at hy; omega)⟩
              · simp at hj
            have HR8 : Hid (Below wr.heap.size wr w8) := HRW0.out.trans (hbW8.mono HRW0.out.size)
            have HTW : Hid (∀ u, Below wr.heap.size wr u → TabN u ∧ SeesB u (.slice ar rn rc) r) := fun u hu => by
              have h := HS.out.be.trans (hu.mono HS.out.be.size)
              exact ⟨HT.out.below h hz, HV.out.below h⟩
            have HRW := hid (rewrite_any S p lo _ [[k + 1]] w8 (HLW.out.below hbW8) HO.out.ok hS8 (by simp) (by have := HWS.out; omega) (HTW.out w8 HR8.out).1)
            rw [HSZ.out.1, HSZ.out.2] at HRW
            have hwk : IntKind.u8.wrap ((k : Int) + 1) = (k : Int) + 1 := by rw [IntKind.wrap_u8']; omega
            have hzr : 0 < wr.heap.size := Nat.lt_of_lt_of_le hz HS.out.be.size
            clear hb7 hb8 q7 r8 hbW8 hS8
            go_wp2_with fail
            rw [← HW7.out, ← HW8.out]
            refine HRW.out.mono ?_
            rintro _ w9 ⟨rfl, hL9⟩
            have hs8 := HR8.out.size
            have hR9 : Below wr.heap.size wr w9 := hL9.kp.below HR8.out hs8 (fun j hj e => by have := HO.out.lo j e; omega)
            have hlo1 : ∀ j, NewS S w8.heap.size w9 j → wr.heap.size ≤ j := fun j hj => by
              rcases hj with hj | ⟨hj, -⟩
              · exact HO.out.lo j hj
              · omega
            have HAA := hid (append_any _ p _ _ r w9 hL9.log hL9.ok (HTW.out w9 hR9).2 (by show (lo.ws ++ [_]).length + 1 ≤ _; rw [List.length_append]; have := HWS.out; simp; omega) (HTW.out w9 hR9).1 (fun j hj => by have := hlo1 j hj; omega))
            rw [HAP.out.1, HAP.out.2] at HAA
            have HLO1 := hid hlo1
            have HR9 := hid hR9
            clear hL9 hR9 hlo1
            go_wp2_with fail
            refine HAA.out.mono ?_
            rintro _ w10 ⟨rfl, hL10⟩
            have hs9 := HR9.out.size
            have hR10 : Below wr.heap.size wr w10 := hL10.kp.below HR9.out hs9 (fun j hj e => by have := HLO1.out j e; omega)
            have hlo2 : ∀ j, NewS (NewS S w8.heap.size w9) w9.heap.size w10 j → wr.heap.size ≤ j := fun j hj => by
              rcases hj with hj | ⟨hj, -⟩
              · exact HLO1.out j hj
              · omega
            have hwl : (((lo.rew [[k + 1]]).app r).ws).length ≤ 3000000000000 := by
              show ((lo.ws ++ [_]) ++ [_]).length ≤ _
              rw [List.length_append, List.length_append]
              have := HWS.out
              simp
              omega
            have HSY := hid (sync_any _ p _ w10 hL10.log hL10.ok hwl)
            have HR10 := hid hR10
            have HLO2 := hid hlo2
            clear hL10 hR10 hlo2 hwl
            go_wp2_with fail
            refine HSY.out.mono ?_
            rintro _ w11 ⟨rfl, hL11⟩
            have hR11 : Below wr.heap.size wr w11 := hL11.kp.below HR10.out HR10.out.size (fun j hj e => by have := HLO2.out j e; omega)
            have HCR := hid (crash_any _ p _ 0 w11 hL11.log hL11.ok (by show (0 : Nat) ≤ _; omega) (by decide))
            rw [show ((0 : Int)).toNat = 0 from rfl, crash_zero] at HCR
            have HBY : Hid ((∀ y ∈ ((lo.rew [[k + 1]]).app r).syn.a, y < 256) ∧ ∀ y ∈ ((lo.rew [[k + 1]]).app r).syn.b, y < 256) := ⟨hL11.ok.ba, hL11.ok.bb⟩
            have HR11 := hid hR11
            clear hL11 hR11
            go_wp2_with fail
            refine HCR.out.mono ?_
            rintro _ w12 ⟨ga, na, ca, gb, nb, cb, rfl, hD⟩
            have hR12 : Below wr.heap.size wr w12 := HR11.out.trans (hD.be.mono HR11.out.size)
            have hrow12 := below_keeps hR12 HROW.out hdbl
            obtain ⟨k0', k1', k2', k3'⟩ := ar_cells hrow12
            have HNEXT : Hid (SeX w db r (k + 1) ((w12.setCell ⟨db, 0, none⟩ (.slice (some ⟨ga, 0, none⟩) na ca)).setCell ⟨db, 1, none⟩ (.slice (some ⟨gb, 0, none⟩) nb cb))) := by
              obtain ⟨hU, hkU⟩ := ar_put (C := #[.slice p0 m0 k0, .slice p1 m1 k1]) rfl hrow12 (.slice (some ⟨ga, 0, none⟩) na ca) (.slice (some ⟨gb, 0, none⟩) nb cb)
              generalize ((w12.setCell ⟨db, 0, none⟩ (.slice (some ⟨ga, 0, none⟩) na ca)).setCell ⟨db, 1, none⟩ (.slice (some ⟨gb, 0, none⟩) nb cb)) = U at *
              have hB12 : Below w.heap.size w w12 := HS.out.be.trans (hR12.mono HS.out.be.size)
              have s11 := HR11.out.size
              have hdl := HS.out.dl
              refine ⟨hkU.below hB12 hB12.size (fun j hj e => by unfold At1 at e; omega), hdl, _, _, _, hU, (hD.a.sees HBY.out.1).keeps hkU (fun a n c e hk => by simp at e; obtain ⟨rfl, -, -⟩ := e; have hk2 : ga = db := hk; have := hD.la; omega), (hD.b.sees HBY.out.2).keeps hkU (fun a n c e hk => by simp at e; obtain ⟨rfl, -, -⟩ := e; have hk2 : gb = db := hk; have := hD.lb; omega), HNX.out⟩
            clear hD hR12 hrow12
            go_wp2_with fail
            go_roundw
            case rel => exact ⟨k + 1, by go_num, by omega, HNEXT⟩
            case measure => simp [intOf] <;> omega
        · go_wp2_with fail
          go_ret
          exact ⟨rfl, HS.out.be⟩
    · have hn0 : ¬ n < 0 := by omega
      go_enter Tryd.func7, Tryd.ntmps7
      go_wp2_with fail
      refine HF0.out.mono ?_
      rintro _ w1 ⟨rfl, hb1⟩
      have HB1 := hid hb1
      have HHD := hid (headR_any g 0 w1 hg (by decide))
      clear hb1
      go_wp2_with fail
      refine HHD.out.mono ?_
      rintro _ w2 ⟨vh, rfl, ho2, hb2⟩
      have hB2 : Below w.heap.size w w2 := HB1.out.trans (hb2.mono HB1.out.size)
      have hS2 : SeesB w2 vh (head g 0) := ho2.sees (head_bytes g 0)
      obtain ⟨ah, nh, ch, rfl, -, -, -⟩ := hS2.shape
      obtain ⟨db, HDB⟩ : ∃ db, Hid (db = w2.heap.size) := ⟨_, rfl⟩
      obtain ⟨w3, HW3⟩ : ∃ w3, Hid (w3 = w2.alloc (.cells #[.slice ah nh ch, .slice none 0 0] 33)) := ⟨_, rfl⟩
      have HS0 : Hid (SeX w db r 0 w3) := by
        have hb3 : Below w2.heap.size w2 w3 := by rw [HW3.out]; exact (Below.refl _ _).alloc (Nat.le_refl _) _
        exact ⟨hB2.trans (hb3.mono hB2.size), by rw [HDB.out]; exact hB2.size, (head g 0, []), _, _, by rw [HDB.out, HW3.out]; exact heap_alloc_new w2 _, hS2.below hb3, sees_nil _, ser_first r hg⟩
      clear ho2 hb2 hB2 hS2
      go_upto_region 6 with fail
      rw [← HW3.out, ← HDB.out]
      clear HW3 HDB
      go_wp2_with fail
      go_loopw [8, 9, 10, 11] (fun i _ _ _ wr => ∃ k : Nat, i = .int .i64 (k : Int) ∧ k ≤ 9 + 1 ∧ Hid (SeX w db r k wr)) (fun i _ _ _ _ => 9 + 1 - (intOf i).toNat)
      case atStart => exact ⟨0, rfl, Nat.zero_le _, HS0⟩
      case round =>
        obtain ⟨k, rfl, hk, HS⟩ := hrel
        clear HS0
        by_cases hlt : k ≤ 9
        · obtain ⟨d, v0, v1, hrow, hs0, hs1, hser⟩ := HS.out.ex
          obtain ⟨p0, m0, k0, rfl, -, -, -⟩ := hs0.shape
          obtain ⟨p1, m1, k1, rfl, -, -, -⟩ := hs1.shape
          obtain ⟨y0, y1, -, -⟩ := ar_cells hrow
          have HSER := hid hser
          have hE : opnE d.1 d.2 = false ∧ (0 < k → opnR d.1 d.2 = [[k], r]) := by
            obtain ⟨c, g', rs, fin, hc, hg', h1, h2, h3⟩ := hser
            obtain ⟨q1, -, q3⟩ := opn_of hc h1 rfl hg' h2
            exact ⟨q1, fun h0 => by rw [q3]; exact h3 h0⟩
          have HE := hid hE
          have HOP : Hid (Calls Tryd.prog 16 #[.agg #[.slice p0 m0 k0, .slice p1 m1 k1]] wr fun e w' => ∃ p v S Bd, e = .returned (.tuple #[.pointer (some ⟨p, 0, none⟩), v, .int .i64 0]) ∧ Opened wr w' S Bd p v (opnL d.1 d.2) (opnR d.1 d.2)) := (open_any _ _ d.1 d.2 wr hs0 hs1 (HT.out.below HS.out.be hz)).mono fun e w' h => h.2 hE.1
          have HWS : Hid ((opnL d.1 d.2).ws.length ≤ 1) := by
            obtain ⟨c, g', rs, fin, hc, hg', h1, h2, h3⟩ := hser
            obtain ⟨-, q2, -⟩ := opn_of hc h1 rfl hg' h2
            unfold Hid; rw [q2]; exact Nat.zero_le 1
          have HSZ : Hid (rewE [[k + 1]] = 0 ∧ rewL (opnL d.1 d.2) [[k + 1]] = (opnL d.1 d.2).rew [[k + 1]]) := by
            have h0 : rewE [[k + 1]] = 0 := rfl
            exact ⟨h0, by unfold rewL; rw [if_pos h0]⟩
          have HAP : Hid (appE ((opnL d.1 d.2).rew [[k + 1]]) r = 0 ∧ appL ((opnL d.1 d.2).rew [[k + 1]]) r = ((opnL d.1 d.2).rew [[k + 1]]).app r) := by
            have h0 : appE ((opnL d.1 d.2).rew [[k + 1]]) r = 0 := by
              unfold appE
              rw [if_neg (by have := HRL.out; omega), if_neg]
              show ¬ 1048576 < 16 + baseL [[k + 1]] + (12 + r.length)
              have := HRL.out
              simp [baseL]
              omega
            exact ⟨h0, by unfold appL; rw [if_pos h0]⟩
          have HNX := hid (ser_next HRL.out hser)
          have HROW := hid hrow
          have hdbl : db < wr.heap.size := (Array.getElem?_eq_some_iff.1 hrow).1
          clear hser hs0 hs1 hE hrow
          generalize opnL d.1 d.2 = lo at *
          go_wp2_with fail
          refine HOP.out.mono ?_
          rintro _ w4 ⟨p, vr, S, Bd, rfl, hO⟩
          have HO := hid hO
          have HR4 : Hid (Below wr.heap.size wr w4) := hO.be
          have HSR := hid hO.recs.sees
          obtain ⟨av, nv, cv, rfl, -, -, -⟩ := HSR.out.shape
          clear hO y0 y1
          rcases Nat.eq_zero_or_pos k with hk0' | hk0'
          · subst hk0'
            have HRW0 := HR4
            have HLW := hid HO.out.log
            obtain ⟨w7, HW7⟩ : ∃ w7, Hid (w7 = w4.alloc (.cells #[.int .u8 1] 5)) := ⟨_, rfl⟩
            obtain ⟨w8, HW8⟩ : ∃ w8, Hid (w8 = w7.alloc (.cells #[.slice (some ⟨w4.heap.size, 0, none⟩) 1 1] 31)) := ⟨_, rfl⟩
            have hb7 : Below w4.heap.size w4 w7 := by rw [HW7.out]; exact (Below.refl _ _).alloc (Nat.le_refl _) _
            have hb8 : Below w7.heap.size w7 w8 := by rw [HW8.out]; exact (Below.refl _ _).alloc (Nat.le_refl _) _
            have hs7 : w7.heap.size = w4.heap.size + 1 := by rw [HW7.out]; simp
            have q7 : Blk w7 w4.heap.size 5 [0 + 1] := by rw [HW7.out]; exact heap_alloc_new w4 _
            have r8 : w8.heap[w4.heap.size + 1]? = some (.cells #[.slice (some ⟨w4.heap.size, 0, none⟩) 1 1] 31 (0, 0)) := by rw [HW8.out, ← hs7]; exact heap_alloc_new w7 _
            have hbW8 : Below w4.heap.size w4 w8 := hb7.trans (hb8.mono (by omega))
            have hS8 : SeesBB w8 (.slice (some ⟨w4.heap.size + 1, 0, none⟩) 1 1) [[0 + 1]] := by
              refine ⟨_, 1, rfl, Nat.le_refl _, by unfold maxLen; omega, fun j hj => ?_⟩
              rcases j with _ | j
              · exact ⟨_, 0, _, rfl, (Array.getElem?_eq_some_iff.1 r8).1, by rw [cell_of_row _ _ _ _ _ _ r8]; rfl, (q7.below hb8 (by omega)).sees rfl (by simp) (by intro y hy; simp at hy; omega)⟩
              · simp at hj
            have HR8 : Hid (Below wr.heap.size wr w8) := HRW0.out.trans (hbW8.mono HRW0.out.size)
            have HTW : Hid (∀ u, Below wr.heap.size wr u → TabN u ∧ SeesB u (.slice ar rn rc) r) := fun u hu => by
              have h := HS.out.be.trans (hu.mono HS.out.be.size)
              exact ⟨HT.out.below h hz, HV.out.below h⟩
            have HRW := hid (rewrite_any S p lo _ [[0 + 1]] w8 (HLW.out.below hbW8) HO.out.ok hS8 (by simp) (by have := HWS.out; omega) (HTW.out w8 HR8.out).1)
            rw [HSZ.out.1, HSZ.out.2] at HRW
            have hwk : IntKind.u8.wrap 1 = 1 := by rw [IntKind.wrap_u8']; omega
            have hzr : 0 < wr.heap.size := Nat.lt_of_lt_of_le hz HS.out.be.size
            clear hb7 hb8 q7 r8 hbW8 hS8
            go_wp2_with fail
            rw [← HW7.out, ← HW8.out]
            refine HRW.out.mono ?_
            rintro _ w9 ⟨rfl, hL9⟩
            have hs8 := HR8.out.size
            have hR9 : Below wr.heap.size wr w9 := hL9.kp.below HR8.out hs8 (fun j hj e => by have := HO.out.lo j e; omega)
            have hlo1 : ∀ j, NewS S w8.heap.size w9 j → wr.heap.size ≤ j := fun j hj => by
              rcases hj with hj | ⟨hj, -⟩
              · exact HO.out.lo j hj
              · omega
            have HAA := hid (append_any _ p _ _ r w9 hL9.log hL9.ok (HTW.out w9 hR9).2 (by show (lo.ws ++ [_]).length + 1 ≤ _; rw [List.length_append]; have := HWS.out; simp; omega) (HTW.out w9 hR9).1 (fun j hj => by have := hlo1 j hj; omega))
            rw [HAP.out.1, HAP.out.2] at HAA
            have HLO1 := hid hlo1
            have HR9 := hid hR9
            clear hL9 hR9 hlo1
            go_wp2_with fail
            refine HAA.out.mono ?_
            rintro _ w10 ⟨rfl, hL10⟩
            have hs9 := HR9.out.size
            have hR10 : Below wr.heap.size wr w10 := hL10.kp.below HR9.out hs9 (fun j hj e => by have := HLO1.out j e; omega)
            have hlo2 : ∀ j, NewS (NewS S w8.heap.size w9) w9.heap.size w10 j → wr.heap.size ≤ j := fun j hj => by
              rcases hj with hj | ⟨hj, -⟩
              · exact HLO1.out j hj
              · omega
            have hwl : (((lo.rew [[0 + 1]]).app r).ws).length ≤ 3000000000000 := by
              show ((lo.ws ++ [_]) ++ [_]).length ≤ _
              rw [List.length_append, List.length_append]
              have := HWS.out
              simp
              omega
            have HSY := hid (sync_any _ p _ w10 hL10.log hL10.ok hwl)
            have HR10 := hid hR10
            have HLO2 := hid hlo2
            clear hL10 hR10 hlo2 hwl
            go_wp2_with fail
            refine HSY.out.mono ?_
            rintro _ w11 ⟨rfl, hL11⟩
            have hR11 : Below wr.heap.size wr w11 := hL11.kp.below HR10.out HR10.out.size (fun j hj e => by have := HLO2.out j e; omega)
            have HCR := hid (crash_any _ p _ 0 w11 hL11.log hL11.ok (by show (0 : Nat) ≤ _; omega) (by decide))
            rw [show ((0 : Int)).toNat = 0 from rfl, crash_zero] at HCR
            have HBY : Hid ((∀ y ∈ ((lo.rew [[0 + 1]]).app r).syn.a, y < 256) ∧ ∀ y ∈ ((lo.rew [[0 + 1]]).app r).syn.b, y < 256) := ⟨hL11.ok.ba, hL11.ok.bb⟩
            have HR11 := hid hR11
            clear hL11 hR11
            go_wp2_with fail
            refine HCR.out.mono ?_
            rintro _ w12 ⟨ga, na, ca, gb, nb, cb, rfl, hD⟩
            have hR12 : Below wr.heap.size wr w12 := HR11.out.trans (hD.be.mono HR11.out.size)
            have hrow12 := below_keeps hR12 HROW.out hdbl
            obtain ⟨k0', k1', k2', k3'⟩ := ar_cells hrow12
            have HNEXT : Hid (SeX w db r (0 + 1) ((w12.setCell ⟨db, 0, none⟩ (.slice (some ⟨ga, 0, none⟩) na ca)).setCell ⟨db, 1, none⟩ (.slice (some ⟨gb, 0, none⟩) nb cb))) := by
              obtain ⟨hU, hkU⟩ := ar_put (C := #[.slice p0 m0 k0, .slice p1 m1 k1]) rfl hrow12 (.slice (some ⟨ga, 0, none⟩) na ca) (.slice (some ⟨gb, 0, none⟩) nb cb)
              generalize ((w12.setCell ⟨db, 0, none⟩ (.slice (some ⟨ga, 0, none⟩) na ca)).setCell ⟨db, 1, none⟩ (.slice (some ⟨gb, 0, none⟩) nb cb)) = U at *
              have hB12 : Below w.heap.size w w12 := HS.out.be.trans (hR12.mono HS.out.be.size)
              have s11 := HR11.out.size
              have hdl := HS.out.dl
              refine ⟨hkU.below hB12 hB12.size (fun j hj e => by unfold At1 at e; omega), hdl, _, _, _, hU, (hD.a.sees HBY.out.1).keeps hkU (fun a n c e hk => by simp at e; obtain ⟨rfl, -, -⟩ := e; have hk2 : ga = db := hk; have := hD.la; omega), (hD.b.sees HBY.out.2).keeps hkU (fun a n c e hk => by simp at e; obtain ⟨rfl, -, -⟩ := e; have hk2 : gb = db := hk; have := hD.lb; omega), HNX.out⟩
            clear hD hR12 hrow12
            go_wp2_with fail
            go_roundw
            case rel => exact ⟨0 + 1, by go_num, by omega, HNEXT⟩
            case measure => simp [intOf] <;> omega
          · obtain ⟨w5a, HW5a⟩ : ∃ w5a, Hid (w5a = w4.alloc (.cells #[.int .u8 (k : Int)] 5)) := ⟨_, rfl⟩
            obtain ⟨w5, HW5⟩ : ∃ w5, Hid (w5 = w5a.alloc (.cells #[.slice (some ⟨w4.heap.size, 0, none⟩) 1 1, .slice ar rn rc] 31)) := ⟨_, rfl⟩
            have hb5a : Below w4.heap.size w4 w5a := by rw [HW5a.out]; exact (Below.refl _ _).alloc (Nat.le_refl _) _
            have hb5b : Below w5a.heap.size w5a w5 := by rw [HW5.out]; exact (Below.refl _ _).alloc (Nat.le_refl _) _
            have hs5a : w5a.heap.size = w4.heap.size + 1 := by rw [HW5a.out]; simp
            have q5 : Blk w5a w4.heap.size 5 [k] := by rw [HW5a.out]; exact heap_alloc_new w4 _
            have r5 : w5.heap[w4.heap.size + 1]? = some (.cells #[.slice (some ⟨w4.heap.size, 0, none⟩) 1 1, .slice ar rn rc] 31 (0, 0)) := by rw [HW5.out, ← hs5a]; exact heap_alloc_new w5a _
            have hb45 : Below w4.heap.size w4 w5 := hb5a.trans (hb5b.mono (by omega))
            have hR5 : Below wr.heap.size wr w5 := HR4.out.trans (hb45.mono HR4.out.size)
            have hV5 : SeesB w5 (.slice ar rn rc) r := HV.out.below (HS.out.be.trans (hR5.mono HS.out.be.size))
            have hS5 : SeesBB w5 (.slice (some ⟨w4.heap.size + 1, 0, none⟩) 2 2) [[k], r] := by
              refine ⟨_, 2, rfl, Nat.le_refl _, by unfold maxLen; omega, fun j hj => ?_⟩
              rcases j with _ | _ | j
              · exact ⟨_, 0, _, rfl, (Array.getElem?_eq_some_iff.1 r5).1, by rw [cell_of_row _ _ _ _ _ _ r5]; rfl, (q5.below hb5b (by omega)).sees rfl (by simp) (by intro y hy; simp at hy; omega)⟩
              · exact ⟨_, 0, _, rfl, (Array.getElem?_eq_some_iff.1 r5).1, by rw [cell_of_row _ _ _ _ _ _ r5]; rfl, hV5⟩
              · simp at hj; omega
            have hsr := HSR.out
            rw [HE.out.2 hk0'] at hsr
            have HLS := hid (lists_eq _ _ _ w5 (hsr.below hb45) hS5)
            have HL5 := hid (HO.out.log.below hb45)
            have HR5 := hid hR5
            have q0 : (0 : Int) < (k : Int) := by omega
            have hwk0 : IntKind.u8.wrap (k : Int) = (k : Int) := by rw [IntKind.wrap_u8']; omega
            clear hb5a hb5b q5 r5 hb45 hR5 hV5 hS5 hsr
            go_wp2_with fail
            rw [← HW5a.out, ← HW5.out]
            refine HLS.out.mono ?_
            rintro _ w6 ⟨rfl, hb6⟩
            have HRW0 : Hid (Below wr.heap.size wr w6) := HR5.out.trans (hb6.mono HR5.out.size)
            have HLW := hid (HL5.out.below hb6)
            clear hb6
            obtain ⟨w7, HW7⟩ : ∃ w7, Hid (w7 = w6.alloc (.cells #[.int .u8 ((k : Int) + 1)] 5)) := ⟨_, rfl⟩
            obtain ⟨w8, HW8⟩ : ∃ w8, Hid (w8 = w7.alloc (.cells #[.slice (some ⟨w6.heap.size, 0, none⟩) 1 1] 31)) := ⟨_, rfl⟩
            have hb7 : Below w6.heap.size w6 w7 := by rw [HW7.out]; exact (Below.refl _ _).alloc (Nat.le_refl _) _
            have hb8 : Below w7.heap.size w7 w8 := by rw [HW8.out]; exact (Below.refl _ _).alloc (Nat.le_refl _) _
            have hs7 : w7.heap.size = w6.heap.size + 1 := by rw [HW7.out]; simp
            have q7 : Blk w7 w6.heap.size 5 [k + 1] := by rw [HW7.out]; exact heap_alloc_new w6 _
            have r8 : w8.heap[w6.heap.size + 1]? = some (.cells #[.slice (some ⟨w6.heap.size, 0, none⟩) 1 1] 31 (0, 0)) := by rw [HW8.out, ← hs7]; exact heap_alloc_new w7 _
            have hbW8 : Below w6.heap.size w6 w8 := hb7.trans (hb8.mono (by omega))
            have hS8 : SeesBB w8 (.slice (some ⟨w6.heap.size + 1, 0, none⟩) 1 1) [[k + 1]] := by
              refine ⟨_, 1, rfl, Nat.le_refl _, by unfold maxLen; omega, fun j hj => ?_⟩
              rcases j with _ | j
              · exact ⟨_, 0, _, rfl, (Array.getElem?_eq_some_iff.1 r8).1, by rw [cell_of_row _ _ _ _ _ _ r8]; rfl, (q7.below hb8 (by omega)).sees rfl (by simp) (by intro y hy; simp at hy; omega)⟩
              · simp at hj
            have HR8 : Hid (Below wr.heap.size wr w8) := HRW0.out.trans (hbW8.mono HRW0.out.size)
            have HTW : Hid (∀ u, Below wr.heap.size wr u → TabN u ∧ SeesB u (.slice ar rn rc) r) := fun u hu => by
              have h := HS.out.be.trans (hu.mono HS.out.be.size)
              exact ⟨HT.out.below h hz, HV.out.below h⟩
            have HRW := hid (rewrite_any S p lo _ [[k + 1]] w8 (HLW.out.below hbW8) HO.out.ok hS8 (by simp) (by have := HWS.out; omega) (HTW.out w8 HR8.out).1)
            rw [HSZ.out.1, HSZ.out.2] at HRW
            have hwk : IntKind.u8.wrap ((k : Int) + 1) = (k : Int) + 1 := by rw [IntKind.wrap_u8']; omega
            have hzr : 0 < wr.heap.size := Nat.lt_of_lt_of_le hz HS.out.be.size
            clear hb7 hb8 q7 r8 hbW8 hS8
            go_wp2_with fail
            rw [← HW7.out, ← HW8.out]
            refine HRW.out.mono ?_
            rintro _ w9 ⟨rfl, hL9⟩
            have hs8 := HR8.out.size
            have hR9 : Below wr.heap.size wr w9 := hL9.kp.below HR8.out hs8 (fun j hj e => by have := HO.out.lo j e; omega)
            have hlo1 : ∀ j, NewS S w8.heap.size w9 j → wr.heap.size ≤ j := fun j hj => by
              rcases hj with hj | ⟨hj, -⟩
              · exact HO.out.lo j hj
              · omega
            have HAA := hid (append_any _ p _ _ r w9 hL9.log hL9.ok (HTW.out w9 hR9).2 (by show (lo.ws ++ [_]).length + 1 ≤ _; rw [List.length_append]; have := HWS.out; simp; omega) (HTW.out w9 hR9).1 (fun j hj => by have := hlo1 j hj; omega))
            rw [HAP.out.1, HAP.out.2] at HAA
            have HLO1 := hid hlo1
            have HR9 := hid hR9
            clear hL9 hR9 hlo1
            go_wp2_with fail
            refine HAA.out.mono ?_
            rintro _ w10 ⟨rfl, hL10⟩
            have hs9 := HR9.out.size
            have hR10 : Below wr.heap.size wr w10 := hL10.kp.below HR9.out hs9 (fun j hj e => by have := HLO1.out j e; omega)
            have hlo2 : ∀ j, NewS (NewS S w8.heap.size w9) w9.heap.size w10 j → wr.heap.size ≤ j := fun j hj => by
              rcases hj with hj | ⟨hj, -⟩
              · exact HLO1.out j hj
              · omega
            have hwl : (((lo.rew [[k + 1]]).app r).ws).length ≤ 3000000000000 := by
              show ((lo.ws ++ [_]) ++ [_]).length ≤ _
              rw [List.length_append, List.length_append]
              have := HWS.out
              simp
              omega
            have HSY := hid (sync_any _ p _ w10 hL10.log hL10.ok hwl)
            have HR10 := hid hR10
            have HLO2 := hid hlo2
            clear hL10 hR10 hlo2 hwl
            go_wp2_with fail
            refine HSY.out.mono ?_
            rintro _ w11 ⟨rfl, hL11⟩
            have hR11 : Below wr.heap.size wr w11 := hL11.kp.below HR10.out HR10.out.size (fun j hj e => by have := HLO2.out j e; omega)
            have HCR := hid (crash_any _ p _ 0 w11 hL11.log hL11.ok (by show (0 : Nat) ≤ _; omega) (by decide))
            rw [show ((0 : Int)).toNat = 0 from rfl, crash_zero] at HCR
            have HBY : Hid ((∀ y ∈ ((lo.rew [[k + 1]]).app r).syn.a, y < 256) ∧ ∀ y ∈ ((lo.rew [[k + 1]]).app r).syn.b, y < 256) := ⟨hL11.ok.ba, hL11.ok.bb⟩
            have HR11 := hid hR11
            clear hL11 hR11
            go_wp2_with fail
            refine HCR.out.mono ?_
            rintro _ w12 ⟨ga, na, ca, gb, nb, cb, rfl, hD⟩
            have hR12 : Below wr.heap.size wr w12 := HR11.out.trans (hD.be.mono HR11.out.size)
            have hrow12 := below_keeps hR12 HROW.out hdbl
            obtain ⟨k0', k1', k2', k3'⟩ := ar_cells hrow12
            have HNEXT : Hid (SeX w db r (k + 1) ((w12.setCell ⟨db, 0, none⟩ (.slice (some ⟨ga, 0, none⟩) na ca)).setCell ⟨db, 1, none⟩ (.slice (some ⟨gb, 0, none⟩) nb cb))) := by
              obtain ⟨hU, hkU⟩ := ar_put (C := #[.slice p0 m0 k0, .slice p1 m1 k1]) rfl hrow12 (.slice (some ⟨ga, 0, none⟩) na ca) (.slice (some ⟨gb, 0, none⟩) nb cb)
              generalize ((w12.setCell ⟨db, 0, none⟩ (.slice (some ⟨ga, 0, none⟩) na ca)).setCell ⟨db, 1, none⟩ (.slice (some ⟨gb, 0, none⟩) nb cb)) = U at *
              have hB12 : Below w.heap.size w w12 := HS.out.be.trans (hR12.mono HS.out.be.size)
              have s11 := HR11.out.size
              have hdl := HS.out.dl
              refine ⟨hkU.below hB12 hB12.size (fun j hj e => by unfold At1 at e; omega), hdl, _, _, _, hU, (hD.a.sees HBY.out.1).keeps hkU (fun a n c e hk => by simp at e; obtain ⟨rfl, -, -⟩ := e; have hk2 : ga = db := hk; have := hD.la; omega), (hD.b.sees HBY.out.2).keeps hkU (fun a n c e hk => by simp at e; obtain ⟨rfl, -, -⟩ := e; have hk2 : gb = db := hk; have := hD.lb; omega), HNX.out⟩
            clear hD hR12 hrow12
            go_wp2_with fail
            go_roundw
            case rel => exact ⟨k + 1, by go_num, by omega, HNEXT⟩
            case measure => simp [intOf] <;> omega
        · go_wp2_with fail
          go_ret
          exact ⟨rfl, HS.out.be⟩
    · obtain ⟨m, rfl⟩ : ∃ m : Nat, n = (m : Int) := ⟨n.toNat, by omega⟩
      have hm9 : m ≤ 9 := by omega
      go_enter Tryd.func7, Tryd.ntmps7
      go_wp2_with fail
      refine HF0.out.mono ?_
      rintro _ w1 ⟨rfl, hb1⟩
      have HB1 := hid hb1
      have HHD := hid (headR_any g 0 w1 hg (by decide))
      clear hb1
      go_wp2_with fail
      refine HHD.out.mono ?_
      rintro _ w2 ⟨vh, rfl, ho2, hb2⟩
      have hB2 : Below w.heap.size w w2 := HB1.out.trans (hb2.mono HB1.out.size)
      have hS2 : SeesB w2 vh (head g 0) := ho2.sees (head_bytes g 0)
      obtain ⟨ah, nh, ch, rfl, -, -, -⟩ := hS2.shape
      obtain ⟨db, HDB⟩ : ∃ db, Hid (db = w2.heap.size) := ⟨_, rfl⟩
      obtain ⟨w3, HW3⟩ : ∃ w3, Hid (w3 = w2.alloc (.cells #[.slice ah nh ch, .slice none 0 0] 33)) := ⟨_, rfl⟩
      have HS0 : Hid (SeX w db r 0 w3) := by
        have hb3 : Below w2.heap.size w2 w3 := by rw [HW3.out]; exact (Below.refl _ _).alloc (Nat.le_refl _) _
        exact ⟨hB2.trans (hb3.mono hB2.size), by rw [HDB.out]; exact hB2.size, (head g 0, []), _, _, by rw [HDB.out, HW3.out]; exact heap_alloc_new w2 _, hS2.below hb3, sees_nil _, ser_first r hg⟩
      clear ho2 hb2 hB2 hS2
      go_upto_region 6 with fail
      rw [← HW3.out, ← HDB.out]
      clear HW3 HDB
      go_wp2_with fail
      go_loopw [8, 9, 10, 11] (fun i _ _ _ wr => ∃ k : Nat, i = .int .i64 (k : Int) ∧ k ≤ m + 1 ∧ Hid (SeX w db r k wr)) (fun i _ _ _ _ => m + 1 - (intOf i).toNat)
      case atStart => exact ⟨0, rfl, Nat.zero_le _, HS0⟩
      case round =>
        obtain ⟨k, rfl, hk, HS⟩ := hrel
        clear HS0
        by_cases hlt : k ≤ m
        · obtain ⟨d, v0, v1, hrow, hs0, hs1, hser⟩ := HS.out.ex
          obtain ⟨p0, m0, k0, rfl, -, -, -⟩ := hs0.shape
          obtain ⟨p1, m1, k1, rfl, -, -, -⟩ := hs1.shape
          obtain ⟨y0, y1, -, -⟩ := ar_cells hrow
          have HSER := hid hser
          have hE : opnE d.1 d.2 = false ∧ (0 < k → opnR d.1 d.2 = [[k], r]) := by
            obtain ⟨c, g', rs, fin, hc, hg', h1, h2, h3⟩ := hser
            obtain ⟨q1, -, q3⟩ := opn_of hc h1 rfl hg' h2
            exact ⟨q1, fun h0 => by rw [q3]; exact h3 h0⟩
          have HE := hid hE
          have HOP : Hid (Calls Tryd.prog 16 #[.agg #[.slice p0 m0 k0, .slice p1 m1 k1]] wr fun e w' => ∃ p v S Bd, e = .returned (.tuple #[.pointer (some ⟨p, 0, none⟩), v, .int .i64 0]) ∧ Opened wr w' S Bd p v (opnL d.1 d.2) (opnR d.1 d.2)) := (open_any _ _ d.1 d.2 wr hs0 hs1 (HT.out.below HS.out.be hz)).mono fun e w' h => h.2 hE.1
          have HWS : Hid ((opnL d.1 d.2).ws.length ≤ 1) := by
            obtain ⟨c, g', rs, fin, hc, hg', h1, h2, h3⟩ := hser
            obtain ⟨-, q2, -⟩ := opn_of hc h1 rfl hg' h2
            unfold Hid; rw [q2]; exact Nat.zero_le 1
          have HSZ : Hid (rewE [[k + 1]] = 0 ∧ rewL (opnL d.1 d.2) [[k + 1]] = (opnL d.1 d.2).rew [[k + 1]]) := by
            have h0 : rewE [[k + 1]] = 0 := rfl
            exact ⟨h0, by unfold rewL; rw [if_pos h0]⟩
          have HAP : Hid (appE ((opnL d.1 d.2).rew [[k + 1]]) r = 0 ∧ appL ((opnL d.1 d.2).rew [[k + 1]]) r = ((opnL d.1 d.2).rew [[k + 1]]).app r) := by
            have h0 : appE ((opnL d.1 d.2).rew [[k + 1]]) r = 0 := by
              unfold appE
              rw [if_neg (by have := HRL.out; omega), if_neg]
              show ¬ 1048576 < 16 + baseL [[k + 1]] + (12 + r.length)
              have := HRL.out
              simp [baseL]
              omega
            exact ⟨h0, by unfold appL; rw [if_pos h0]⟩
          have HNX := hid (ser_next HRL.out hser)
          have HROW := hid hrow
          have hdbl : db < wr.heap.size := (Array.getElem?_eq_some_iff.1 hrow).1
          clear hser hs0 hs1 hE hrow
          generalize opnL d.1 d.2 = lo at *
          go_wp2_with fail
          refine HOP.out.mono ?_
          rintro _ w4 ⟨p, vr, S, Bd, rfl, hO⟩
          have HO := hid hO
          have HR4 : Hid (Below wr.heap.size wr w4) := hO.be
          have HSR := hid hO.recs.sees
          obtain ⟨av, nv, cv, rfl, -, -, -⟩ := HSR.out.shape
          clear hO y0 y1
          rcases Nat.eq_zero_or_pos k with hk0' | hk0'
          · subst hk0'
            have HRW0 := HR4
            have HLW := hid HO.out.log
            obtain ⟨w7, HW7⟩ : ∃ w7, Hid (w7 = w4.alloc (.cells #[.int .u8 1] 5)) := ⟨_, rfl⟩
            obtain ⟨w8, HW8⟩ : ∃ w8, Hid (w8 = w7.alloc (.cells #[.slice (some ⟨w4.heap.size, 0, none⟩) 1 1] 31)) := ⟨_, rfl⟩
            have hb7 : Below w4.heap.size w4 w7 := by rw [HW7.out]; exact (Below.refl _ _).alloc (Nat.le_refl _) _
            have hb8 : Below w7.heap.size w7 w8 := by rw [HW8.out]; exact (Below.refl _ _).alloc (Nat.le_refl _) _
            have hs7 : w7.heap.size = w4.heap.size + 1 := by rw [HW7.out]; simp
            have q7 : Blk w7 w4.heap.size 5 [0 + 1] := by rw [HW7.out]; exact heap_alloc_new w4 _
            have r8 : w8.heap[w4.heap.size + 1]? = some (.cells #[.slice (some ⟨w4.heap.size, 0, none⟩) 1 1] 31 (0, 0)) := by rw [HW8.out, ← hs7]; exact heap_alloc_new w7 _
            have hbW8 : Below w4.heap.size w4 w8 := hb7.trans (hb8.mono (by omega))
            have hS8 : SeesBB w8 (.slice (some ⟨w4.heap.size + 1, 0, none⟩) 1 1) [[0 + 1]] := by
              refine ⟨_, 1, rfl, Nat.le_refl _, by unfold maxLen; omega, fun j hj => ?_⟩
              rcases j with _ | j
              · exact ⟨_, 0, _, rfl, (Array.getElem?_eq_some_iff.1 r8).1, by rw [cell_of_row _ _ _ _ _ _ r8]; rfl, (q7.below hb8 (by omega)).sees rfl (by simp) (by intro y hy; simp at hy; omega)⟩
              · simp at hj
            have HR8 : Hid (Below wr.heap.size wr w8) := HRW0.out.trans (hbW8.mono HRW0.out.size)
            have HTW : Hid (∀ u, Below wr.heap.size wr u → TabN u ∧ SeesB u (.slice ar rn rc) r) := fun u hu => by
              have h := HS.out.be.trans (hu.mono HS.out.be.size)
              exact ⟨HT.out.below h hz, HV.out.below h⟩
            have HRW := hid (rewrite_any S p lo _ [[0 + 1]] w8 (HLW.out.below hbW8) HO.out.ok hS8 (by simp) (by have := HWS.out; omega) (HTW.out w8 HR8.out).1)
            rw [HSZ.out.1, HSZ.out.2] at HRW
            have hwk : IntKind.u8.wrap 1 = 1 := by rw [IntKind.wrap_u8']; omega
            have hzr : 0 < wr.heap.size := Nat.lt_of_lt_of_le hz HS.out.be.size
            clear hb7 hb8 q7 r8 hbW8 hS8
            go_wp2_with fail
            rw [← HW7.out, ← HW8.out]
            refine HRW.out.mono ?_
            rintro _ w9 ⟨rfl, hL9⟩
            have hs8 := HR8.out.size
            have hR9 : Below wr.heap.size wr w9 := hL9.kp.below HR8.out hs8 (fun j hj e => by have := HO.out.lo j e; omega)
            have hlo1 : ∀ j, NewS S w8.heap.size w9 j → wr.heap.size ≤ j := fun j hj => by
              rcases hj with hj | ⟨hj, -⟩
              · exact HO.out.lo j hj
              · omega
            have HAA := hid (append_any _ p _ _ r w9 hL9.log hL9.ok (HTW.out w9 hR9).2 (by show (lo.ws ++ [_]).length + 1 ≤ _; rw [List.length_append]; have := HWS.out; simp; omega) (HTW.out w9 hR9).1 (fun j hj => by have := hlo1 j hj; omega))
            rw [HAP.out.1, HAP.out.2] at HAA
            have HLO1 := hid hlo1
            have HR9 := hid hR9
            clear hL9 hR9 hlo1
            go_wp2_with fail
            refine HAA.out.mono ?_
            rintro _ w10 ⟨rfl, hL10⟩
            have hs9 := HR9.out.size
            have hR10 : Below wr.heap.size wr w10 := hL10.kp.below HR9.out hs9 (fun j hj e => by have := HLO1.out j e; omega)
            have hlo2 : ∀ j, NewS (NewS S w8.heap.size w9) w9.heap.size w10 j → wr.heap.size ≤ j := fun j hj => by
              rcases hj with hj | ⟨hj, -⟩
              · exact HLO1.out j hj
              · omega
            have hwl : (((lo.rew [[0 + 1]]).app r).ws).length ≤ 3000000000000 := by
              show ((lo.ws ++ [_]) ++ [_]).length ≤ _
              rw [List.length_append, List.length_append]
              have := HWS.out
              simp
              omega
            have HSY := hid (sync_any _ p _ w10 hL10.log hL10.ok hwl)
            have HR10 := hid hR10
            have HLO2 := hid hlo2
            clear hL10 hR10 hlo2 hwl
            go_wp2_with fail
            refine HSY.out.mono ?_
            rintro _ w11 ⟨rfl, hL11⟩
            have hR11 : Below wr.heap.size wr w11 := hL11.kp.below HR10.out HR10.out.size (fun j hj e => by have := HLO2.out j e; omega)
            have HCR := hid (crash_any _ p _ 0 w11 hL11.log hL11.ok (by show (0 : Nat) ≤ _; omega) (by decide))
            rw [show ((0 : Int)).toNat = 0 from rfl, crash_zero] at HCR
            have HBY : Hid ((∀ y ∈ ((lo.rew [[0 + 1]]).app r).syn.a, y < 256) ∧ ∀ y ∈ ((lo.rew [[0 + 1]]).app r).syn.b, y < 256) := ⟨hL11.ok.ba, hL11.ok.bb⟩
            have HR11 := hid hR11
            clear hL11 hR11
            go_wp2_with fail
            refine HCR.out.mono ?_
            rintro _ w12 ⟨ga, na, ca, gb, nb, cb, rfl, hD⟩
            have hR12 : Below wr.heap.size wr w12 := HR11.out.trans (hD.be.mono HR11.out.size)
            have hrow12 := below_keeps hR12 HROW.out hdbl
            obtain ⟨k0', k1', k2', k3'⟩ := ar_cells hrow12
            have HNEXT : Hid (SeX w db r (0 + 1) ((w12.setCell ⟨db, 0, none⟩ (.slice (some ⟨ga, 0, none⟩) na ca)).setCell ⟨db, 1, none⟩ (.slice (some ⟨gb, 0, none⟩) nb cb))) := by
              obtain ⟨hU, hkU⟩ := ar_put (C := #[.slice p0 m0 k0, .slice p1 m1 k1]) rfl hrow12 (.slice (some ⟨ga, 0, none⟩) na ca) (.slice (some ⟨gb, 0, none⟩) nb cb)
              generalize ((w12.setCell ⟨db, 0, none⟩ (.slice (some ⟨ga, 0, none⟩) na ca)).setCell ⟨db, 1, none⟩ (.slice (some ⟨gb, 0, none⟩) nb cb)) = U at *
              have hB12 : Below w.heap.size w w12 := HS.out.be.trans (hR12.mono HS.out.be.size)
              have s11 := HR11.out.size
              have hdl := HS.out.dl
              refine ⟨hkU.below hB12 hB12.size (fun j hj e => by unfold At1 at e; omega), hdl, _, _, _, hU, (hD.a.sees HBY.out.1).keeps hkU (fun a n c e hk => by simp at e; obtain ⟨rfl, -, -⟩ := e; have hk2 : ga = db := hk; have := hD.la; omega), (hD.b.sees HBY.out.2).keeps hkU (fun a n c e hk => by simp at e; obtain ⟨rfl, -, -⟩ := e; have hk2 : gb = db := hk; have := hD.lb; omega), HNX.out⟩
            clear hD hR12 hrow12
            go_wp2_with fail
            go_roundw
            case rel => exact ⟨0 + 1, by go_num, by omega, HNEXT⟩
            case measure => simp [intOf] <;> omega
          · obtain ⟨w5a, HW5a⟩ : ∃ w5a, Hid (w5a = w4.alloc (.cells #[.int .u8 (k : Int)] 5)) := ⟨_, rfl⟩
            obtain ⟨w5, HW5⟩ : ∃ w5, Hid (w5 = w5a.alloc (.cells #[.slice (some ⟨w4.heap.size, 0, none⟩) 1 1, .slice ar rn rc] 31)) := ⟨_, rfl⟩
            have hb5a : Below w4.heap.size w4 w5a := by rw [HW5a.out]; exact (Below.refl _ _).alloc (Nat.le_refl _) _
            have hb5b : Below w5a.heap.size w5a w5 := by rw [HW5.out]; exact (Below.refl _ _).alloc (Nat.le_refl _) _
            have hs5a : w5a.heap.size = w4.heap.size + 1 := by rw [HW5a.out]; simp
            have q5 : Blk w5a w4.heap.size 5 [k] := by rw [HW5a.out]; exact heap_alloc_new w4 _
            have r5 : w5.heap[w4.heap.size + 1]? = some (.cells #[.slice (some ⟨w4.heap.size, 0, none⟩) 1 1, .slice ar rn rc] 31 (0, 0)) := by rw [HW5.out, ← hs5a]; exact heap_alloc_new w5a _
            have hb45 : Below w4.heap.size w4 w5 := hb5a.trans (hb5b.mono (by omega))
            have hR5 : Below wr.heap.size wr w5 := HR4.out.trans (hb45.mono HR4.out.size)
            have hV5 : SeesB w5 (.slice ar rn rc) r := HV.out.below (HS.out.be.trans (hR5.mono HS.out.be.size))
            have hS5 : SeesBB w5 (.slice (some ⟨w4.heap.size + 1, 0, none⟩) 2 2) [[k], r] := by
              refine ⟨_, 2, rfl, Nat.le_refl _, by unfold maxLen; omega, fun j hj => ?_⟩
              rcases j with _ | _ | j
              · exact ⟨_, 0, _, rfl, (Array.getElem?_eq_some_iff.1 r5).1, by rw [cell_of_row _ _ _ _ _ _ r5]; rfl, (q5.below hb5b (by omega)).sees rfl (by simp) (by intro y hy; simp at hy; omega)⟩
              · exact ⟨_, 0, _, rfl, (Array.getElem?_eq_some_iff.1 r5).1, by rw [cell_of_row _ _ _ _ _ _ r5]; rfl, hV5⟩
              · simp at hj; omega
            have hsr := HSR.out
            rw [HE.out.2 hk0'] at hsr
            have HLS := hid (lists_eq _ _ _ w5 (hsr.below hb45) hS5)
            have HL5 := hid (HO.out.log.below hb45)
            have HR5 := hid hR5
            have q0 : (0 : Int) < (k : Int) := by omega
            have hwk0 : IntKind.u8.wrap (k : Int) = (k : Int) := by rw [IntKind.wrap_u8']; omega
            clear hb5a hb5b q5 r5 hb45 hR5 hV5 hS5 hsr
            go_wp2_with fail
            rw [← HW5a.out, ← HW5.out]
            refine HLS.out.mono ?_
            rintro _ w6 ⟨rfl, hb6⟩
            have HRW0 : Hid (Below wr.heap.size wr w6) := HR5.out.trans (hb6.mono HR5.out.size)
            have HLW := hid (HL5.out.below hb6)
            clear hb6
            obtain ⟨w7, HW7⟩ : ∃ w7, Hid (w7 = w6.alloc (.cells #[.int .u8 ((k : Int) + 1)] 5)) := ⟨_, rfl⟩
            obtain ⟨w8, HW8⟩ : ∃ w8, Hid (w8 = w7.alloc (.cells #[.slice (some ⟨w6.heap.size, 0, none⟩) 1 1] 31)) := ⟨_, rfl⟩
            have hb7 : Below w6.heap.size w6 w7 := by rw [HW7.out]; exact (Below.refl _ _).alloc (Nat.le_refl _) _
            have hb8 : Below w7.heap.size w7 w8 := by rw [HW8.out]; exact (Below.refl _ _).alloc (Nat.le_refl _) _
            have hs7 : w7.heap.size = w6.heap.size + 1 := by rw [HW7.out]; simp
            have q7 : Blk w7 w6.heap.size 5 [k + 1] := by rw [HW7.out]; exact heap_alloc_new w6 _
            have r8 : w8.heap[w6.heap.size + 1]? = some (.cells #[.slice (some ⟨w6.heap.size, 0, none⟩) 1 1] 31 (0, 0)) := by rw [HW8.out, ← hs7]; exact heap_alloc_new w7 _
            have hbW8 : Below w6.heap.size w6 w8 := hb7.trans (hb8.mono (by omega))
            have hS8 : SeesBB w8 (.slice (some ⟨w6.heap.size + 1, 0, none⟩) 1 1) [[k + 1]] := by
              refine ⟨_, 1, rfl, Nat.le_refl _, by unfold maxLen; omega, fun j hj => ?_⟩
              rcases j with _ | j
              · exact ⟨_, 0, _, rfl, (Array.getElem?_eq_some_iff.1 r8).1, by rw [cell_of_row _ _ _ _ _ _ r8]; rfl, (q7.below hb8 (by omega)).sees rfl (by simp) (by intro y hy; simp at hy; omega)⟩
              · simp at hj
            have HR8 : Hid (Below wr.heap.size wr w8) := HRW0.out.trans (hbW8.mono HRW0.out.size)
            have HTW : Hid (∀ u, Below wr.heap.size wr u → TabN u ∧ SeesB u (.slice ar rn rc) r) := fun u hu => by
              have h := HS.out.be.trans (hu.mono HS.out.be.size)
              exact ⟨HT.out.below h hz, HV.out.below h⟩
            have HRW := hid (rewrite_any S p lo _ [[k + 1]] w8 (HLW.out.below hbW8) HO.out.ok hS8 (by simp) (by have := HWS.out; omega) (HTW.out w8 HR8.out).1)
            rw [HSZ.out.1, HSZ.out.2] at HRW
            have hwk : IntKind.u8.wrap ((k : Int) + 1) = (k : Int) + 1 := by rw [IntKind.wrap_u8']; omega
            have hzr : 0 < wr.heap.size := Nat.lt_of_lt_of_le hz HS.out.be.size
            clear hb7 hb8 q7 r8 hbW8 hS8
            go_wp2_with fail
            rw [← HW7.out, ← HW8.out]
            refine HRW.out.mono ?_
            rintro _ w9 ⟨rfl, hL9⟩
            have hs8 := HR8.out.size
            have hR9 : Below wr.heap.size wr w9 := hL9.kp.below HR8.out hs8 (fun j hj e => by have := HO.out.lo j e; omega)
            have hlo1 : ∀ j, NewS S w8.heap.size w9 j → wr.heap.size ≤ j := fun j hj => by
              rcases hj with hj | ⟨hj, -⟩
              · exact HO.out.lo j hj
              · omega
            have HAA := hid (append_any _ p _ _ r w9 hL9.log hL9.ok (HTW.out w9 hR9).2 (by show (lo.ws ++ [_]).length + 1 ≤ _; rw [List.length_append]; have := HWS.out; simp; omega) (HTW.out w9 hR9).1 (fun j hj => by have := hlo1 j hj; omega))
            rw [HAP.out.1, HAP.out.2] at HAA
            have HLO1 := hid hlo1
            have HR9 := hid hR9
            clear hL9 hR9 hlo1
            go_wp2_with fail
            refine HAA.out.mono ?_
            rintro _ w10 ⟨rfl, hL10⟩
            have hs9 := HR9.out.size
            have hR10 : Below wr.heap.size wr w10 := hL10.kp.below HR9.out hs9 (fun j hj e => by have := HLO1.out j e; omega)
            have hlo2 : ∀ j, NewS (NewS S w8.heap.size w9) w9.heap.size w10 j → wr.heap.size ≤ j := fun j hj => by
              rcases hj with hj | ⟨hj, -⟩
              · exact HLO1.out j hj
              · omega
            have hwl : (((lo.rew [[k + 1]]).app r).ws).length ≤ 3000000000000 := by
              show ((lo.ws ++ [_]) ++ [_]).length ≤ _
              rw [List.length_append, List.length_append]
              have := HWS.out
              simp
              omega
            have HSY := hid (sync_any _ p _ w10 hL10.log hL10.ok hwl)
            have HR10 := hid hR10
            have HLO2 := hid hlo2
            clear hL10 hR10 hlo2 hwl
            go_wp2_with fail
            refine HSY.out.mono ?_
            rintro _ w11 ⟨rfl, hL11⟩
            have hR11 : Below wr.heap.size wr w11 := hL11.kp.below HR10.out HR10.out.size (fun j hj e => by have := HLO2.out j e; omega)
            have HCR := hid (crash_any _ p _ 0 w11 hL11.log hL11.ok (by show (0 : Nat) ≤ _; omega) (by decide))
            rw [show ((0 : Int)).toNat = 0 from rfl, crash_zero] at HCR
            have HBY : Hid ((∀ y ∈ ((lo.rew [[k + 1]]).app r).syn.a, y < 256) ∧ ∀ y ∈ ((lo.rew [[k + 1]]).app r).syn.b, y < 256) := ⟨hL11.ok.ba, hL11.ok.bb⟩
            have HR11 := hid hR11
            clear hL11 hR11
            go_wp2_with fail
            refine HCR.out.mono ?_
            rintro _ w12 ⟨ga, na, ca, gb, nb, cb, rfl, hD⟩
            have hR12 : Below wr.heap.size wr w12 := HR11.out.trans (hD.be.mono HR11.out.size)
            have hrow12 := below_keeps hR12 HROW.out hdbl
            obtain ⟨k0', k1', k2', k3'⟩ := ar_cells hrow12
            have HNEXT : Hid (SeX w db r (k + 1) ((w12.setCell ⟨db, 0, none⟩ (.slice (some ⟨ga, 0, none⟩) na ca)).setCell ⟨db, 1, none⟩ (.slice (some ⟨gb, 0, none⟩) nb cb))) := by
              obtain ⟨hU, hkU⟩ := ar_put (C := #[.slice p0 m0 k0, .slice p1 m1 k1]) rfl hrow12 (.slice (some ⟨ga, 0, none⟩) na ca) (.slice (some ⟨gb, 0, none⟩) nb cb)
              generalize ((w12.setCell ⟨db, 0, none⟩ (.slice (some ⟨ga, 0, none⟩) na ca)).setCell ⟨db, 1, none⟩ (.slice (some ⟨gb, 0, none⟩) nb cb)) = U at *
              have hB12 : Below w.heap.size w w12 := HS.out.be.trans (hR12.mono HS.out.be.size)
              have s11 := HR11.out.size
              have hdl := HS.out.dl
              refine ⟨hkU.below hB12 hB12.size (fun j hj e => by unfold At1 at e; omega), hdl, _, _, _, hU, (hD.a.sees HBY.out.1).keeps hkU (fun a n c e hk => by simp at e; obtain ⟨rfl, -, -⟩ := e; have hk2 : ga = db := hk; have := hD.la; omega), (hD.b.sees HBY.out.2).keeps hkU (fun a n c e hk => by simp at e; obtain ⟨rfl, -, -⟩ := e; have hk2 : gb = db := hk; have := hD.lb; omega), HNX.out⟩
            clear hD hR12 hrow12
            go_wp2_with fail
            go_roundw
            case rel => exact ⟨k + 1, by go_num, by omega, HNEXT⟩
            case measure => simp [intOf] <;> omega
        · go_wp2_with fail
          go_ret
          exact ⟨rfl, HS.out.be⟩
end Go.Proofs.YteoebmpfdcbbmaaDoor
