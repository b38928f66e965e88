/-
  TrieLeft's walk.
-/
import Derived.Test.YtmnafocmbcgdiaaYM
namespace Go.Proofs.Ytmnafocmbcgdiaa
open Go.ChangeShapes Go.WideShapes Go.ChangeAt Go.RowKit Go.Shelf Tri N
attribute [local go_sem] Oper.semAt_some
set_option maxHeartbeats 16000000
set_option maxRecDepth 100000

/-- The stop that is meant: no number below 0. -/
def stopN (z : Int) : Nat := if z < 0 then (-1 - z).toNat else z.toNat

theorem left_walk (v0 : Value) (P : List (Nat × Int)) (z : Int) (w : World) (hs0 : Sees w v0 P) (ha : AdrP P) (hz : In64 z) :
    Calls Try.prog 5 #[v0, .int .i64 z] w fun e w' => e = .returned (.bool true) ∧ Below w.heap.size w w' := by
  obtain ⟨ap, np, capp, rfl, HNP, hnp1, hnp2⟩ := hs0.shape
  obtain ⟨w1, HW1⟩ : ∃ w1, Hid (w1 = (w.alloc (.cells #[.int .i64 z] 3)).alloc (.cells #[.bool false] 4)) := ⟨_, rfl⟩
  have hb1 : Below w.heap.size w w1 := by rw [HW1.out]; exact ((Below.refl _ _).alloc (Nat.le_refl _) _).alloc (by simp) _
  have ra : w1.heap[w.heap.size]? = some (.cells #[.int .i64 z] 3) := by rw [HW1.out, Below.heap_alloc _ _ _ (by simp)]; exact heap_alloc_new w _
  have rb : w1.heap[w.heap.size + 1]? = some (.cells #[.bool false] 4) := by
    have h := heap_alloc_new (w.alloc (.cells #[.int .i64 z] 3)) (.cells #[.bool false] 4)
    rw [World.size_alloc] at h
    rw [HW1.out]; exact h
  have HB1 := hid hb1
  have HVAL := hid (valids_any _ P w1 (hs0.below hb1) ha)
  have hOK : ∀ k ∈ valL P, k.Ok := fun k hk => by
    obtain ⟨p, hp, rfl⟩ := List.mem_map.1 hk
    exact preK_ok _ _ (ha p (List.mem_of_mem_take hp)).1
  have hlen : (valL P).length ≤ 200 := by unfold valL; simp; omega
  obtain ⟨L, hL⟩ : ∃ L, L = valL P := ⟨_, rfl⟩
  rw [← hL] at HVAL hOK hlen
  have HOK := hid hOK
  have HRA := hid ra
  have HRB := hid rb
  have HZ := hid hz
  clear hs0 ha hz hb1 ra rb hOK hL
  refine (callsIn_wide (n := 9)).1 ?_
  refine callsIn_of_wp_marks Try.func5 rfl trivial ?_ rfl
  refine wpIn_wide.2 ?_
  simp only [Try.ntmps5, List.size_toArray, List.length_cons, List.length_nil, Nat.reduceAdd, Nat.reduceSub, Array.replicate_succ, Array.replicate_zero, List.push_toArray, List.append_toArray, List.nil_append, List.cons_append]
  go_upto_region 1 with fail
  rw [← HW1.out]
  go_wp2_with fail
  refine HVAL.out.mono ?_
  rintro _ w2 ⟨vl, rfl, hown, hb2⟩
  have HSL := hid (sees_of_owns hown)
  obtain ⟨al, nl, capl, rfl, HNL0, hnl1, hnl2⟩ := HSL.out.shape
  have HNL : Hid (nl = L.length) := by have := HNL0.out; rw [List.length_map] at this; exact this
  have hnl : nl ≤ 200 := by have := HNL.out; omega
  have HR2 : Hid (w2.heap[w.heap.size]? = some (.cells #[.int .i64 z] 3) ∧ w2.heap[w.heap.size + 1]? = some (.cells #[.bool false] 4)) := ⟨below_keeps hb2 HRA.out (Array.getElem?_eq_some_iff.1 HRA.out).1, below_keeps hb2 HRB.out (Array.getElem?_eq_some_iff.1 HRB.out).1⟩
  have HB2 : Hid (Below w.heap.size w w2) := HB1.out.trans (hb2.mono HB1.out.size)
  have HNEW := hid (new_any w2)
  obtain ⟨w5, hw5⟩ : ∃ w5, w5 = w2.alloc (.cells #[.pointer none] 77) := ⟨_, rfl⟩
  rw [← hw5] at HNEW
  have hb5 : Below w2.heap.size w2 w5 := by rw [hw5]; exact (Below.refl _ _).alloc (Nat.le_refl _) _
  have hlt2 := (Array.getElem?_eq_some_iff.1 HR2.out.1).1
  have HT0 : Hid (TrieAt w5 (fun b => b = w2.heap.size ∨ b = w.heap.size) w2.heap.size .nil) := by
    rw [hw5]
    exact ⟨.inl rfl, fun b hb => by rw [World.size_alloc]; omega, ⟨.nil, heap_alloc_new w2 _, rfl, trivial⟩, trivial⟩
  have HB5 := hid hb5
  obtain ⟨tb, HTB⟩ : ∃ tb, Hid (tb = w2.heap.size) := ⟨_, rfl⟩
  rw [← HTB.out] at HT0 HB5 HNEW
  have HTS : Hid (w.heap.size + 1 < tb) := by unfold Hid; rw [HTB.out]; exact (Array.getElem?_eq_some_iff.1 HR2.out.2).1
  unfold maxLen at hnl2
  clear hown hb2 HVAL HNL0 HRA HRB HW1 hb5 hw5 hlt2 HB1
  go_wp2_with fail
  refine HNEW.out.mono ?_
  rintro _ _ ⟨rfl, ew⟩
  obtain rfl := ew.symm
  go_upto_region 6 with fail
  go_loopw [7] (fun i wr => ∃ (j : Nat) (T : Tr), i = .int .i64 (j : Int) ∧ j ≤ nl ∧ Hid (TrieAt wr (fun b => b = tb ∨ b = w.heap.size) tb T) ∧ Hid (PutK L j T) ∧ Hid (Below tb w2 wr)) (fun i _ => nl - (intOf i).toNat)
  case atStart => exact ⟨0, .nil, rfl, by omega, HT0, ⟨by simp [ents], fun i k hi => absurd hi (by omega)⟩, HB5⟩
  case round =>
    obtain ⟨j, T, rfl, hj, HT, HP, HB⟩ := hrel
    by_cases hjn : j < nl
    · have hsl := HB.out
      rw [HTB.out] at hsl
      obtain ⟨g, off, p, hao, hg, c0, c1, HQ⟩ := (HSL.out.below hsl).at j hjn
      subst hao
      obtain ⟨k, hk, rfl⟩ := kp_at HQ.out
      simp only [kp] at c0 c1
      have b1 : (j : Int) < (nl : Int) := by omega
      have hok : k.Ok := HOK.out k (List.mem_of_getElem? hk)
      have HPUT := hid (put_any k (j : Int) wr HT.out hok)
      have HPN : Hid (PutK L (j + 1) (hang T k (some (j : Int)))) := HP.out.step HT.out.wf hk hok _
      unfold pv at HPUT
      clear hk HQ hok hsl hg
      go_wp2_with fail
      refine HPUT.out.mono ?_
      rintro _ w7 ⟨rfl, hT7, hc7⟩
      have HB7 : Hid (Below tb w2 w7) := by
        have hle := Nat.le_of_lt (HT.out.lt tb (.inl rfl))
        exact ⟨hc7.os.trans HB.out.os, hc7.tape.trans HB.out.tape, hc7.output.trans HB.out.output, Nat.le_trans HB.out.size hc7.size, fun i hi => (hc7.block i (by omega) (by omega)).trans (HB.out.block i hi)⟩
      have HT7 := hid hT7
      clear hT7 hc7 c0 c1
      go_wp2_with fail
      go_roundw
      case rel => exact ⟨j + 1, _, by go_num, by omega, HT7, HPN, HB7⟩
      case measure => simp [intOf]; omega
    · have b1 : ¬ (j : Int) < (nl : Int) := by omega
      have HPL : Hid (PutK L L.length T) := by
        have h := HP.out
        rw [show j = L.length by have := HNL.out; omega] at h
        exact h
      have HLE0 : Hid ((ents T).length ≤ 400) := by have := HP.out.1; unfold Hid; omega
      have hR := HR2.out.1
      have rs := below_keeps HB.out hR (by have := HTS.out; omega)
      have rr := below_keeps HB.out HR2.out.2 HTS.out
      have HRS := hid rs
      have HRR := hid rr
      have s0 : wr.cell? ⟨w.heap.size, 0, none⟩ = some (.int .i64 z) := by rw [cell_of_row _ _ _ _ _ _ rs]; rfl
      have sf : wr.frozen? ⟨w.heap.size, 0, none⟩ = false := frozen_of_row _ _ _ _ _ rs
      have HBW : Hid (Below w.heap.size w wr) := HB2.out.trans (HB.out.mono (by rw [HTB.out]; exact HB2.out.size))
      obtain ⟨wo, hwo⟩ : ∃ wo, wo = wr := ⟨_, rfl⟩
      subst hwo
      clear rs rr hR HP HB HT0 HB5 HNEW HR2 hjn hj HSL
      go_upto_if 35 with fail
      go_cut [] from 16 (fun wx => Hid (wx.heap[w.heap.size]? = some (.cells #[.int .i64 ((stopN z : Nat) : Int)] 3)) ∧ Hid (TrieAt wx (fun b => b = tb ∨ b = w.heap.size) tb T) ∧ Hid (Chg (fun b => b = w.heap.size) wo wx))
      case first =>
        by_cases hz0 : z < 0
        · have hzl : -9223372036854775808 ≤ z := HZ.out.1
          have HRX : Hid ((wo.setCell ⟨w.heap.size, 0, none⟩ (.int .i64 (-1 - z))).heap[w.heap.size]? = some (.cells #[.int .i64 ((stopN z : Nat) : Int)] 3)) := by
            have h := set_row (i := 0) (v := .int .i64 (-1 - z)) HRS.out
            unfold Hid
            rw [h, show ((stopN z : Nat) : Int) = -1 - z by unfold stopN; rw [if_pos hz0]; omega]
            rfl
          have HTX : Hid (TrieAt (wo.setCell ⟨w.heap.size, 0, none⟩ (.int .i64 (-1 - z))) (fun b => b = tb ∨ b = w.heap.size) tb T) := HT.out.setBox (by have := HTS.out; omega) _
          go_wp2_with fail
          go_meet
          case rel => exact ⟨HRX, HTX, Chg.of_but (But.set _ _ _ _) rfl⟩
        · have HRX : Hid (wo.heap[w.heap.size]? = some (.cells #[.int .i64 ((stopN z : Nat) : Int)] 3)) := by
            unfold Hid
            rw [HRS.out, show ((stopN z : Nat) : Int) = z by unfold stopN; rw [if_neg hz0]; omega]
          go_wp2_with fail
          go_meet
          case rel => exact ⟨HRX, HT, Chg.refl _ _⟩
      case rest =>
        obtain ⟨HRX, HTX, HCX⟩ := hcut
        obtain ⟨x1, hx1⟩ : ∃ x1, x1 = wc := ⟨_, rfl⟩
        rw [← hx1] at HRX HTX HCX ⊢
        clear hx1 s0 sf
        have HLN1 := hid (len_any x1 HTX.out)
        rw [vals_len] at HLN1
        obtain ⟨N, HN⟩ : ∃ N, Hid (N = (ents T).length) := ⟨_, rfl⟩
        rw [← HN.out] at HLN1
        have hN4 : N ≤ 400 := by rw [HN.out]; exact HLE0.out
        have HNN : Hid (0 < nl → 0 < N) := fun h => by
          have h0 : 0 < L.length := by have := HNL.out; omega
          have hm := HPL.out.2 0 L[0] h0 (List.getElem?_eq_getElem h0)
          rw [HN.out]
          have h1 := List.length_pos_of_mem hm
          rw [List.length_map] at h1
          exact h1
        go_wp2_with fail
        refine HLN1.out.mono ?_
        rintro _ x2 ⟨rfl, hb12⟩
        have HX2 : Hid (x2.heap[w.heap.size]? = some (.cells #[.int .i64 ((stopN z : Nat) : Int)] 3) ∧ TrieAt x2 (fun b => b = tb ∨ b = w.heap.size) tb T ∧ Chg (fun b => b = w.heap.size) wo x2) := ⟨below_keeps hb12 HRX.out (Array.getElem?_eq_some_iff.1 HRX.out).1, HTX.out.grow hb12, HCX.out.trans (Chg.of_below hb12)⟩
        clear HLN1 hb12 HRX HTX HCX
        go_upto_region 12 with fail
        go_cut [46] from 16 (fun c wx => c = .bool false ∧ wx = x2)
        case first =>
          by_cases hn0 : nl = 0
          · subst hn0
            go_wp2_with fail
            go_meet
            case rel => exact ⟨rfl, rfl⟩
          · have z1 : (0 : Int) < (nl : Int) := by omega
            have z2 : ¬ ((N : Int) = 0) := by have := HNN.out (by omega); omega
            have z3 : ¬ (N = 0) := by have := HNN.out (by omega); omega
            have z4 : 0 < nl := by omega
            go_wp2_with fail
            go_meet
            case rel => exact ⟨by simp [z3], rfl⟩
        case rest =>
          obtain ⟨rfl, hxx⟩ := hcut
          subst hxx
          obtain ⟨st, HST⟩ : ∃ st, Hid (st = stopN z % (N + 2)) := ⟨_, rfl⟩
          have hst : st < N + 2 := by rw [HST.out]; exact Nat.mod_lt _ (by omega)
          go_upto_region 14 with fail
          go_cut [] from 16 (fun wx => Hid (wx.heap[w.heap.size]? = some (.cells #[.int .i64 ((st : Nat) : Int)] 3)) ∧ Hid (TrieAt wx (fun b => b = tb ∨ b = w.heap.size) tb T) ∧ Hid (Chg (fun b => b = w.heap.size) wo wx))
          case first =>
            obtain ⟨hr, hT, hc⟩ := HX2.out
            have s0 : wc.cell? ⟨w.heap.size, 0, none⟩ = some (.int .i64 ((stopN z : Nat) : Int)) := by rw [cell_of_row _ _ _ _ _ _ hr]; rfl
            have sf : wc.frozen? ⟨w.heap.size, 0, none⟩ = false := frozen_of_row _ _ _ _ _ hr
            have HFIN : Hid (Hid ((wc.setCell ⟨w.heap.size, 0, none⟩ (.int .i64 ((st : Nat) : Int))).heap[w.heap.size]? = some (.cells #[.int .i64 ((st : Nat) : Int)] 3)) ∧ Hid (TrieAt (wc.setCell ⟨w.heap.size, 0, none⟩ (.int .i64 ((st : Nat) : Int))) (fun b => b = tb ∨ b = w.heap.size) tb T) ∧ Hid (Chg (fun b => b = w.heap.size) wo (wc.setCell ⟨w.heap.size, 0, none⟩ (.int .i64 ((st : Nat) : Int))))) :=
              ⟨by unfold Hid; rw [set_row hr]; rfl, hT.setBox (by have := HTS.out; omega) _, hc.trans (Chg.of_but (But.set _ _ _ _) rfl)⟩
            clear hr hT hc
            have y0 : ¬ ((N : Int) + 2 = 0) := by omega
            have y1 : ¬ ((N : Int) + 2 = -1) := by omega
            have y2 : Int.tmod ((stopN z : Nat) : Int) ((N : Int) + 2) = (st : Int) := by
              rw [HST.out, show ((N : Int) + 2) = ((N + 2 : Nat) : Int) by omega, Int.ofNat_tmod]
            have y3 : (N : Int) + 2 ≤ 9223372036854775807 := by omega
            have y4 : (st : Int) ≤ 9223372036854775807 := by omega
            go_wp2_with fail
            go_meet
            case rel => exact HFIN.out
          case rest =>
            obtain ⟨HRX, HTX, HCX⟩ := hcut
            obtain ⟨V0, hV0⟩ : ∃ V0, V0 = wc := ⟨_, rfl⟩
            rw [← hV0] at HRX HTX HCX ⊢
            clear hV0 HX2
            obtain ⟨V1, HV1⟩ : ∃ V1, Hid (V1 = V0.alloc (.cells #[.int .i64 0] 3)) := ⟨_, rfl⟩
            have hb01 : Below V0.heap.size V0 V1 := by rw [HV1.out]; exact (Below.refl _ _).alloc (Nat.le_refl _) _
            obtain ⟨cb, HCB⟩ : ∃ cb, Hid (cb = V0.heap.size) := ⟨_, rfl⟩
            have hrc : V1.heap[cb]? = some (.cells #[.int .i64 ((0 : Nat) : Int)] 3) := by rw [HV1.out, HCB.out]; exact heap_alloc_new V0 _
            have HTA : Hid (TrieAt V0 (fun b => b = tb) tb T) := HTX.out.anti (fun b hb => .inl hb) rfl
            obtain ⟨m, hrow, hmt, hLi⟩ := HTA.out.tree
            have hwf := HTA.out.wf
            subst hmt
            have HWF := hid hwf
            have HNM : Hid (nodes m.tr ≤ 10000000000) := by
              have h := WF_nodes hwf
              rw [show top.x = 0 from rfl, top_s] at h
              unfold Hid; omega
            have HLS := hid hLi
            have HTR1 : Hid (TrB V1 tb m) := ⟨hLi.below hb01, below_keeps hb01 hrow (Array.getElem?_eq_some_iff.1 hrow).1⟩
            have HALL := hid (all_seq V1 HTR1.out)
            have hrs1 := below_keeps hb01 HRX.out (Array.getElem?_eq_some_iff.1 HRX.out).1
            have HRC1 := hid hrc
            have HRS1 := hid hrs1
            have HB01 := hid hb01
            have HBV0 : Hid (Below w.heap.size w V0) := ⟨HCX.out.os.trans HBW.out.os, HCX.out.tape.trans HBW.out.tape, HCX.out.output.trans HBW.out.output, Nat.le_trans HBW.out.size HCX.out.size, fun x hx => (HCX.out.block x (Nat.lt_of_lt_of_le hx HBW.out.size) (by omega)).trans (HBW.out.block x hx)⟩
            have HRR0 : Hid (V0.heap[w.heap.size + 1]? = some (.cells #[.bool false] 4)) := (HCX.out.block _ (Array.getElem?_eq_some_iff.1 HRR.out).1 (by omega)).trans HRR.out
            clear hb01 hrc hrow hLi hwf hrs1 HBW HRR HCX HRS
            go_upto_region 16 with fail
            rw [← HV1.out, ← HCB.out]
            go_wp2_with fail
            refine HALL.out.mono ?_
            rintro _ V2 ⟨pq, tq, rfl, hsq, hb12⟩
            have hqf := eq_seqT 43 #[] #[.pointer (some ⟨pq, 0, none⟩), .pointer (some ⟨tq, 0, none⟩)]
            have hrc2 := below_keeps hb12 HRC1.out (Array.getElem?_eq_some_iff.1 HRC1.out).1
            have hrs2 := below_keeps hb12 HRS1.out (Array.getElem?_eq_some_iff.1 HRS1.out).1
            have h02 : V0.heap.size ≤ V2.heap.size := Nat.le_trans HB01.out.size hb12.size
            have hB02 : Below V0.heap.size V0 V2 := HB01.out.trans (hb12.mono HB01.out.size)
            have hne1 : pq ≠ cb := fun e => by subst e; exact absurd (cells_ty hsq.pb hrc2) (by decide)
            have hne2 : tq ≠ cb := fun e => by subst e; exact absurd (cells_ty hsq.tx hrc2) (by decide)
            have hne3 : tb ≠ cb := fun e => by subst e; exact absurd (cells_ty hsq.rt hrc2) (by decide)
            have hne4 : w.heap.size ≠ cb := by have h1 := (Array.getElem?_eq_some_iff.1 HRX.out).1; have h2 := HCB.out; omega
            have hJ0 : LfJ V0 V2 V2 cb 0 := ⟨Nat.le_refl _, hB02, fun _ _ _ => rfl, hrc2⟩
            have HLC := hid (left_calls 8 (by omega) pq tq tb cb w.heap.size st m V0 V2 HWF.out HNM.out hsq HLS.out h02 HCB.out (Array.getElem?_eq_some_iff.1 hrc2).1 hne1 hne2 hne3 (by have := HLE0.out; exact this) hrs2 hne4 hJ0)
            rw [← HN.out] at HLC
            have HSQ2 := hid hsq
            have HNE : Hid (pq ≠ cb ∧ tq ≠ cb ∧ tb ≠ cb ∧ w.heap.size ≠ cb) := ⟨hne1, hne2, hne3, hne4⟩
            have HRS2 := hid hrs2
            clear hsq hb12 hrc2 hrs2 h02 hB02 hne1 hne2 hne3 hne4 hJ0 HALL HRC1 HRS1 HTR1
            go_wp2_with fail
            refine ((callsIn_wide (n := 8)).1 HLC.out).mono ?_
            rintro _ W3 ⟨⟨vv, rfl⟩, hJ⟩
            have HJ := hid hJ
            have hrs3 := (hJ.ot w.heap.size (Array.getElem?_eq_some_iff.1 HRS2.out).1 HNE.out.2.2.2).trans HRS2.out
            have s0 : W3.cell? ⟨w.heap.size, 0, none⟩ = some (.int .i64 ((st : Nat) : Int)) := by rw [cell_of_row _ _ _ _ _ _ hrs3]; rfl
            clear hJ HLC hrs3 hqf
            go_upto_if 60 with fail
            go_cut [11] from 16 (fun v wx => (∃ ms : Nat, v = .int .i64 (ms : Int) ∧ Hid (ms = max st 1)) ∧ wx = W3)
            case first =>
              by_cases hs1 : st < 1
              · have z1 : (st : Int) < 1 := by omega
                go_wp2_with fail
                go_meet
                case rel => exact ⟨⟨1, rfl, by unfold Hid; omega⟩, rfl⟩
              · have z1 : ¬ (st : Int) < 1 := by omega
                go_wp2_with fail
                go_meet
                case rel => exact ⟨⟨st, rfl, by unfold Hid; omega⟩, rfl⟩
            case rest =>
              obtain ⟨⟨ms, rfl, HMS⟩, hxx⟩ := hcut
              subst hxx
              go_upto_if 63 with fail
              go_cut [11] from 16 (fun v wx => (∃ wn : Nat, v = .int .i64 (wn : Int) ∧ Hid (wn = wantN st N)) ∧ wx = wc)
              case first =>
                by_cases hs1 : N < ms
                · have z1 : (N : Int) < (ms : Int) := by omega
                  go_wp2_with fail
                  go_meet
                  case rel => exact ⟨⟨N, rfl, by have := HMS.out; unfold Hid wantN; omega⟩, rfl⟩
                · have z1 : ¬ (N : Int) < (ms : Int) := by omega
                  go_wp2_with fail
                  go_meet
                  case rel => exact ⟨⟨ms, rfl, by have := HMS.out; unfold Hid wantN; omega⟩, rfl⟩
              case rest =>
                obtain ⟨⟨wn, rfl, HWN⟩, hxx⟩ := hcut
                subst hxx
                rw [← HWN.out] at HJ
                have HT3 := hid (HTA.out.grow HJ.out.bel)
                have HTO := hid (told_any _ HT3.out HLE0.out)
                clear s0 HMS HST HRX
                go_wp2_with fail
                refine HTO.out.mono ?_
                rintro _ u0 ⟨vp, vi, rfl, hp, hvi, hbu⟩
                have hp' : u0.ownsRow wc.heap.size 32 2 vp ((ents m.tr).map Prod.fst).length (kcs ((ents m.tr).map Prod.fst)) := by rw [List.length_map]; exact hp
                have HSB := hid (sees_of_owns hp')
                obtain ⟨ae, ne, ce, rfl, HNE0, hne1, hne2⟩ := HSB.out.shape
                have HNA : Hid (ne = N) := by have := HNE0.out; rw [List.length_map, List.length_map] at this; unfold Hid; rw [HN.out]; exact this
                obtain rfl := HNA.out
                have hsq3 : SeqB wc (fun b => b = tb) pq tq tb 0 0 m := ⟨HLS.out.below HJ.out.bel, (HJ.out.ot pq (Array.getElem?_eq_some_iff.1 HSQ2.out.pb).1 HNE.out.1).trans HSQ2.out.pb, (HJ.out.ot tq (Array.getElem?_eq_some_iff.1 HSQ2.out.tx).1 HNE.out.2.1).trans HSQ2.out.tx, (HJ.out.ot tb (Array.getElem?_eq_some_iff.1 HSQ2.out.rt).1 HNE.out.2.2.1).trans HSQ2.out.rt⟩
                have hbw3 : Below w.heap.size w wc := HBV0.out.trans (HJ.out.bel.mono HBV0.out.size)
                have hrr3 := below_keeps HJ.out.bel HRR0.out (Array.getElem?_eq_some_iff.1 HRR0.out).1
                obtain ⟨u1, HU1⟩ : ∃ u1, Hid (u1 = u0.alloc (.cells #[.slice ae ne ce] 22)) := ⟨_, rfl⟩
                have hb01 : Below u0.heap.size u0 u1 := by rw [HU1.out]; exact (Below.refl _ _).alloc (Nat.le_refl _) _
                have hbc1 : Below wc.heap.size wc u1 := hbu.trans (hb01.mono hbu.size)
                obtain ⟨ab, HAB⟩ : ∃ ab, Hid (ab = u0.heap.size) := ⟨_, rfl⟩
                have rA : u1.heap[ab]? = some (.cells #[.slice ae ne ce] 22) := by rw [HU1.out, HAB.out]; exact heap_alloc_new u0 _
                obtain ⟨V4, HV4⟩ : ∃ V4, Hid (V4 = u1.alloc (.cells #[.int .i64 0] 3)) := ⟨_, rfl⟩
                have hbV : Below u1.heap.size u1 V4 := by rw [HV4.out]; exact (Below.refl _ _).alloc (Nat.le_refl _) _
                have HZV : Hid (V4.heap.size = u1.heap.size + 1) := by unfold Hid; rw [HV4.out]; simp
                obtain ⟨kb, HKB⟩ : ∃ kb, Hid (kb = u1.heap.size) := ⟨_, rfl⟩
                have HKA : Hid (kb = ab + 1) := by unfold Hid; rw [HKB.out, HAB.out, HU1.out]; simp
                have hrk : V4.heap[kb]? = some (.cells #[.int .i64 ((0 : Nat) : Int)] 3) := by rw [HV4.out, HKB.out]; exact heap_alloc_new u1 _
                have HJ4 : Hid (InJ u1 V4 kb 0) := ⟨Nat.le_of_eq HZV.out.symm, hbV, hrk⟩
                have HSQ4 := hid (hsq3.below hbc1)
                have HSBU := hid (HSB.out.below hb01)
                have HT4 := hid (HT3.out.grow hbc1)
                have HBU : Hid (Below w.heap.size w u1) := hbw3.trans (hbc1.mono hbw3.size)
                have hrcU := below_keeps hbc1 HJ.out.cx (Array.getElem?_eq_some_iff.1 HJ.out.cx).1
                have hrrU := below_keeps hbc1 hrr3 (Array.getElem?_eq_some_iff.1 hrr3).1
                have HEL : Hid (∀ V, Below u1.heap.size u1 V → V.heap[w.heap.size + 1]? = some (.cells #[.bool false] 4) ∧ V.heap[cb]? = some (.cells #[.int .i64 (wn : Int)] 3) ∧ V.heap[ab]? = some (.cells #[.slice ae ne ce] 22)) := fun V hV =>
                  ⟨below_keeps hV hrrU (Array.getElem?_eq_some_iff.1 hrrU).1, below_keeps hV hrcU (Array.getElem?_eq_some_iff.1 hrcU).1, below_keeps hV rA (Array.getElem?_eq_some_iff.1 rA).1⟩
                have HSQG := hid (seq_gives 8 (by omega) (fun b => b = tb) pq tq tb 0 0 m (by omega) HWF.out HNM.out)
                rw [entsIn_all HWF.out] at HSQG
                obtain ⟨E, HEE⟩ : ∃ E, Hid (E = ents m.tr) := ⟨_, rfl⟩
                rw [← HEE.out] at HSQG HN HSBU
                have HWR : Hid (w.heap.size + 1 < u1.heap.size) := (Array.getElem?_eq_some_iff.1 hrrU).1
                unfold maxLen at hne2
                clear hp hp' hvi hbu HNE0 hsq3 hbw3 hrr3 hb01 hbc1 rA hbV hrk hrcU hrrU HTO HSB HT3 HJ HTX HTA HT
                go_upto_region 27 with fail
                rw [← HU1.out, ← HAB.out, ← HV4.out, ← HKA.out]
                go_wp2_with fail
                refine wpIn_wide.1 (wpIn_givesU (β := Nat) (n := 9) (F := Fence.wide) rfl (by omega) (gf := 43) (lb := #[.pointer (some ⟨pq, 0, none⟩), .pointer (some ⟨tq, 0, none⟩)]) rfl trivial (enters_of Try.func43 (by kernel_rfl) rfl)
                  HSQG.out (fun _ => rfl) (fun i V => InJ u1 V kb i ∧ i ≤ ne) (fun _ _ => False) ?hI ?hIx ?hF ?h0
                  (fun e b tt => ((tt.setIfInBounds 71 (pv e.1)).setIfInBounds 72 (.int .i64 e.2)).setIfInBounds 15 (.pointer (some ⟨b, 0, none⟩))) (fun e b V => V4.heap.size ≤ b ∧ V.heap[b]? = some (.cells #[.int .u32 (e.1.x : Int), .int .i64 (e.1.n : Int)] 32)) ?hAy ?assign ?body ?done ?stop)
                case hI =>
                  have hz := HZV.out
                  have hkb := HKB.out
                  refine ownN_below (fun i V hi => by have := hi.1.sz; omega) ?_
                  rintro i V V' ⟨h, hi⟩ hb
                  exact ⟨⟨Nat.le_trans h.sz hb.size, h.bel.trans (hb.mono (by omega)), below_keeps hb h.kx (by omega)⟩, hi⟩
                case hIx => exact fun _ _ _ _ h _ _ => h.elim
                case hF =>
                  rintro i V ⟨h, _⟩
                  exact HSQ4.out.below h.bel
                case h0 => exact ⟨HJ4.out, Nat.zero_le _⟩
                case hAy =>
                  rintro e b _ W W' row ⟨h1, h2⟩ hg hr
                  refine ⟨h1, (hg.block _ (Array.getElem?_eq_some_iff.1 h2).1 (fun he => ?_)).trans h2⟩
                  obtain ⟨_, o, ho, hm⟩ := hr b he.symm
                  rw [h2] at ho
                  cases ho
                  rcases hm with hm | ⟨cs, hm⟩ | ⟨cs, hm⟩
                  · cases hm
                  · injection hm with _ hm; exact absurd hm (by decide)
                  · injection hm with _ hm; exact absurd hm (by decide)
                case assign =>
                  intro l i e V K hi hx hK
                  obtain ⟨V2', HV2'⟩ : ∃ V2', Hid (V2' = V.alloc (.cells #[.int .u32 (e.1.x : Int), .int .i64 (e.1.n : Int)] 32)) := ⟨_, rfl⟩
                  have hbV : Below V.heap.size V V2' := by rw [HV2'.out]; exact (Below.refl _ _).alloc (Nat.le_refl _) _
                  have hrV : V2'.heap[V.heap.size]? = some (.cells #[.int .u32 (e.1.x : Int), .int .i64 (e.1.n : Int)] 32) := by rw [HV2'.out]; exact heap_alloc_new V _
                  obtain ⟨h, hk⟩ := hi
                  have hz := HZV.out
                  have hs := h.sz
                  have HK := hK V.heap.size V2' (KeepsN.of_below hbV) ⟨⟨Nat.le_trans h.sz hbV.size, h.bel.trans (hbV.mono h.bel.size), below_keeps hbV h.kx (Array.getElem?_eq_some_iff.1 h.kx).1⟩, hk⟩ ⟨by omega, hrV⟩
                  unfold pv at HK ⊢
                  simp only [List.setIfInBounds_toArray, List.set_cons_zero, List.set_cons_succ] at HK ⊢
                  clear hK h hk hx hbV hrV hz hs
                  gi_wp2
                  rw [← HV2'.out]
                  exact HK
                case body =>
                  rintro l i e b V hl _ ⟨hj, hi⟩ ⟨j1, j2⟩ hx
                  obtain ⟨ek, ev⟩ := e
                  simp only at j2
                  have hin : i < ne := by have h1 := (List.getElem?_eq_some_iff.1 hx).1; have h2 := HN.out; omega
                  obtain ⟨_, _, rA⟩ := HEL.out V hj.bel
                  obtain ⟨g, off, p, hae, hg, c0, c1, HQ⟩ := (HSBU.out.below hj.bel).at i hin
                  have hpe : p = (ek.x, (ek.n : Int)) := kp_at' hx HQ.out
                  subst hae hpe
                  simp only at c0 c1
                  have d0 : ∀ t : Beh V, t.wd.cell? ⟨g, off + i * 2, none⟩ = some (.int .u32 (ek.x : Int)) := fun t => (t.ok.cell (p := ⟨g, _, none⟩) hg).trans c0
                  have d1 : ∀ t : Beh V, t.wd.cell? ⟨g, off + i * 2 + 1, none⟩ = some (.int .i64 (ek.n : Int)) := fun t => (t.ok.cell (p := ⟨g, _, none⟩) hg).trans c1
                  have kc : ∀ t : Beh V, t.wd.cell? ⟨kb, 0, none⟩ = some (.int .i64 (i : Int)) := fun t => by rw [cell_of_row _ _ _ _ _ _ (below_keeps t.ok hj.kx (Array.getElem?_eq_some_iff.1 hj.kx).1)]; rfl
                  have ac : ∀ t : Beh V, t.wd.cell? ⟨ab, 0, none⟩ = some (.slice (some ⟨g, off, none⟩) ne ce) := fun t => by rw [cell_of_row _ _ _ _ _ _ (below_keeps t.ok rA (Array.getElem?_eq_some_iff.1 rA).1)]; rfl
                  obtain ⟨p0, p1⟩ := Beh.two j2
                  have n1 : (i : Int) < (ne : Int) := by omega
                  have b2 : (0 : Int) ≤ (i : Int) := by omega
                  have b3 : decide ((i : Int) < 0) = false := by simp
                  have hkm : (i : Int) ≤ 9223372036854775806 := by omega
                  have g1 : ¬ ((ne : Int) ≤ (i : Int)) := by omega
                  have g2 : decide ((ne : Int) ≤ (i : Int)) = false := by simp; omega
                  have g3 : ¬ (ne ≤ i) := by omega
                  have g4 : decide (ne ≤ i) = false := by simp; omega
                  have hq : ∀ u : World, (Op.equalIn 10000 32 (.agg #[.int .u32 (ek.x : Int), .int .i64 (ek.n : Int)]) (.agg #[.int .u32 (ek.x : Int), .int .i64 (ek.n : Int)])).run Try.prog u = .ok true u := fun u => (eqK ek ek u).trans (by simp)
                  have HKF2 : Hid (∀ t : Beh V, t.wd.frozen? ⟨kb, 0, none⟩ = false) := fun t => frozen_of_row _ _ _ _ _ (below_keeps t.ok hj.kx (Array.getElem?_eq_some_iff.1 hj.kx).1)
                  have HFIN : Hid (∀ t : Beh V, KeepsN V4.heap.size V (t.wd.setCell ⟨kb, 0, none⟩ (.int .i64 ((i : Int) + 1))) ∧ InJ u1 (t.wd.setCell ⟨kb, 0, none⟩ (.int .i64 ((i : Int) + 1))) kb (i + 1) ∧ i + 1 ≤ ne) := fun t' => by
                    have hc := chg_set (Chg.refl (fun x => x = kb) V) t'.ok (.int .i64 ((i : Int) + 1))
                    have hz := HZV.out
                    have hkb := HKB.out
                    refine ⟨⟨hc.size, fun x o hx ho _ => (hc.block x (Array.getElem?_eq_some_iff.1 ho).1 (by omega)).trans ho⟩, ⟨Nat.le_trans hj.sz hc.size, hj.chg hkb hc, ?_⟩, by omega⟩
                    rw [set_row (below_keeps t'.ok hj.kx (Array.getElem?_eq_some_iff.1 hj.kx).1)]
                    rfl
                  clear hj hx j1 j2 hl rA hg c0 c1 HQ
                  simp only [pv, List.setIfInBounds_toArray, List.set_cons_zero, List.set_cons_succ]
                  gi_wp2
                  refine wpIn_region_behR (by kernel_rfl) (by kernel_rfl) (by kernel_rfl) ?_
                  repeat (go_big_quiet_step (fail))
                  refine wpQuiet_nil ?_
                  rintro _ ⟨t2, rfl⟩
                  have kf := HKF2.out t2
                  gi_wp2
                  exact HFIN.out t2
                case done =>
                  rintro D W hD ⟨hj, hk0⟩ hKD
                  have hEl : E.length = ne := by have := HN.out; omega
                  rw [hEl] at hj
                  obtain ⟨rS, rC, rA⟩ := HEL.out W hj.bel
                  have HLNW := hid (len_any W (HT4.out.grow hj.bel))
                  rw [vals_len, ← HEE.out, ← HN.out] at HLNW
                  have k0 : W.cell? ⟨kb, 0, none⟩ = some (.int .i64 (ne : Int)) := by rw [cell_of_row _ _ _ _ _ _ hj.kx]; rfl
                  have c0 : W.cell? ⟨cb, 0, none⟩ = some (.int .i64 (wn : Int)) := by rw [cell_of_row _ _ _ _ _ _ rC]; rfl
                  have a0 : W.cell? ⟨ab, 0, none⟩ = some (.slice ae ne ce) := by rw [cell_of_row _ _ _ _ _ _ rA]; rfl
                  have HBW : Hid (Below w.heap.size w W) := HBU.out.trans (hj.bel.mono HBU.out.size)
                  have HRS := hid rS
                  have HKD := hid hKD
                  have HDG : Hid (w.heap.size + 2 ≤ D) := by have h1 := HZV.out; have h2 := HWR.out; unfold Hid; omega
                  clear hj rS rC rA hKD hD hEl
                  go_wp2_with fail
                  refine HLNW.out.mono ?_
                  rintro _ Y1 ⟨rfl, hbY⟩
                  have rS2 := below_keeps hbY HRS.out (Array.getElem?_eq_some_iff.1 HRS.out).1
                  have hD2 := below_keeps hbY HKD.out (Array.getElem?_eq_some_iff.1 HKD.out).1
                  have hBB : Below w.heap.size w Y1 := HBW.out.trans (hbY.mono HBW.out.size)
                  have rs0 : Y1.cell? ⟨w.heap.size + 1, 0, none⟩ = some (.bool false) := by rw [cell_of_row _ _ _ _ _ _ rS2]; rfl
                  have rsf : Y1.frozen? ⟨w.heap.size + 1, 0, none⟩ = false := frozen_of_row _ _ _ _ _ rS2
                  obtain ⟨Y2, hY2⟩ : ∃ Y2, Y2 = Y1.setCell ⟨w.heap.size + 1, 0, none⟩ (.bool true) := ⟨_, rfl⟩
                  have bt : But (w.heap.size + 1) Y1 Y2 := by rw [hY2]; exact But.set _ _ _ _
                  have RS : Hid (Y2.heap[w.heap.size + 1]? = some (.cells #[.bool true] 4)) := by rw [hY2]; exact set_row rS2
                  have HBY : Hid (Below w.heap.size w Y2) := bt.below hBB hBB.size (by omega)
                  have hdg := HDG.out
                  have E0 : Hid (Y2.heap[D]? = some (.deferred (some []))) := (bt.block _ (Array.getElem?_eq_some_iff.1 hD2).1 (by omega)).trans hD2
                  have HY2 := hid hY2
                  clear rS2 hD2 hBB hY2 bt hdg hbY
                  go_wp2_with fail
                  rw [← HY2.out]
                  have hK0 := E0.out
                  have hf0 : Below w.heap.size w (Y2.putObj D (.deferred none)) := HBY.out.trans (belowK_b (w := w) (Nat.le_refl _) Y2 D _ _ (by have := HDG.out; omega) hK0 rfl rfl)
                  have rz : (Y2.putObj D (.deferred none)).heap[w.heap.size + 1]? = some (.cells #[.bool true] 4) := (World.putObj_heap_other (by have := HDG.out; omega)).trans RS.out
                  have g0 : (Y2.putObj D (.deferred none)).cell? ⟨w.heap.size + 1, 0, none⟩ = some (.bool true) := by rw [cell_of_row _ _ _ _ _ _ rz]; rfl
                  refine ⟨by simp, .inl ⟨_, _, rfl, run_takeDeferred hK0, ?_⟩⟩
                  exact ⟨_, (by simp [results, Try.results5, go_sem, g0]), rfl, hf0⟩
                case stop =>
                  rintro D c W hD h hK
                  exact h.elim
end Go.Proofs.Ytmnafocmbcgdiaa
