/-
  TrieGone.
-/
import Derived.Test.YtmnafocmbcgdiabYA
namespace Go.Proofs.Ytmnafocmbcgdiab
open Go.ChangeShapes Go.WideShapes Go.ChangeAt Go.RowKit Tri N
set_option maxHeartbeats 4000000
set_option maxRecDepth 100000

theorem cut_pr {n cap i : Nat} {ao : Option Addr} (hi : i ≤ n) (hc : n ≤ cap) (hn : ao = none → cap = 0) (u : World) : ∃ a', (a' = ao) ∧ (Instr.sliceAt 22 (.slice ao n cap) none (some (.int .i64 (i : Int))) none).run Try.prog u = .ok (.slice a' i cap) u := by
  refine ⟨ao, rfl, ?_⟩
  have hu : Try.prog.underlying 22 = some (.slice (Try.prog.elem 22)) := by kernel_rfl
  have hsz : (sizeOf (Try.prog.elem 22)).run Try.prog u = .ok 2 u := by kernel_rfl
  rw [run_sliceAt_slice (h := hu), run_slice_h (ht := hu) (h0 := by omega) (h2 := by omega), hsz]
  cases ao <;> simp [Result.andThen, sliced, Addr.add]

theorem Chg.below1 {w1 wr w' : World} {tb : Nat} (h : Below tb w1 wr) (hc : Chg (fun b => b = tb) wr w') (hle : tb ≤ wr.heap.size) : Below tb w1 w' :=
  ⟨hc.os.trans h.os, hc.tape.trans h.tape, hc.output.trans h.output, Nat.le_trans h.size hc.size, fun i hi => (hc.block i (by omega) (by omega)).trans (h.block i hi)⟩

theorem gone_walk (v0 : Value) (P : List (Nat × Int)) (w : World) (hs0 : Sees w v0 P) (ha : AdrP P) :
    Calls Try.prog 3 #[v0] w fun e w' => e = .returned (.bool true) ∧ Below w.heap.size w w' := by
  have HVAL := hid (valids_any v0 P w hs0 ha)
  have hOK : ∀ k ∈ valL P, k.Ok := fun k hk => by
    obtain ⟨p, hp, rfl⟩ := List.mem_map.1 hk
    exact preK_ok _ _ (ha p (List.mem_of_mem_take hp)).1
  have hlen : (valL P).length ≤ 200 := by unfold valL; simp; omega
  obtain ⟨L, hL⟩ : ∃ L, L = valL P := ⟨_, rfl⟩
  rw [← hL] at HVAL hOK hlen
  obtain ⟨ap, np, capp, rfl, _, _, _⟩ := hs0.shape
  have HOK := hid hOK
  clear hs0 ha hOK hL
  go_enter Try.func3, Try.ntmps3
  go_wp2_with fail
  refine HVAL.out.mono ?_
  rintro _ w1 ⟨vl, rfl, hown, hb1⟩
  have HSL := hid (sees_of_owns hown)
  obtain ⟨al, nl, capl, hvl, HNL0, hnl1, hnl2⟩ := HSL.out.shape
  have HNIL : Hid (al = none → capl = 0) := by
    rcases hown.2 with ⟨h1, _⟩ | ⟨g, cap', cur, h1, _⟩
    · rw [h1] at hvl; cases hvl; exact fun _ => rfl
    · rw [h1] at hvl; cases hvl; exact fun h => by cases h
  subst hvl
  have HNL : Hid (nl = L.length) := by have := HNL0.out; rw [List.length_map] at this; exact this
  have hnl : nl ≤ 200 := by have := HNL.out; omega
  have HB1 := hid hb1
  have HNEW := hid (new_any w1)
  obtain ⟨w2, hw2⟩ : ∃ w2, w2 = w1.alloc (.cells #[.pointer none] 50) := ⟨_, rfl⟩
  rw [← hw2] at HNEW
  have hb2 : Below w1.heap.size w1 w2 := by rw [hw2]; exact (Below.refl _ _).alloc (Nat.le_refl _) _
  have HT0 : Hid (TrieAt w2 (fun b => b = w1.heap.size) w1.heap.size .nil) := by rw [hw2]; exact trie_new w1
  have HB2 := hid hb2
  obtain ⟨tb, HTB⟩ : ∃ tb, Hid (tb = w1.heap.size) := ⟨_, rfl⟩
  rw [← HTB.out] at HT0 HB2 HNEW
  have HP0 : Hid (PutI L 0 .nil) := fun e => by
    constructor
    · intro h; cases h
    · rintro ⟨h, _⟩; exact absurd rfl h
  unfold maxLen at hnl2
  have HCP := hid hnl1
  clear hown hb1 hb2 hw2 HVAL HNL0
  go_wp2_with fail
  refine HNEW.out.mono ?_
  rintro _ _ ⟨rfl, ew⟩
  obtain rfl := ew.symm
  go_upto_region 6 with fail
  go_loopw [5] (fun i wr => ∃ (j : Nat) (T : Tr), i = .int .i64 (j : Int) ∧ j ≤ nl ∧ Hid (TrieAt wr (fun b => b = tb) tb T) ∧ Hid (PutI L j T) ∧ Hid (Below tb w1 wr)) (fun i _ => nl - (intOf i).toNat)
  case atStart => exact ⟨0, .nil, rfl, by omega, HT0, HP0, HB2⟩
  case round =>
    obtain ⟨j, T, rfl, hj, HT, HP, HB⟩ := hrel
    by_cases hjn : j < nl
    · have hsl := HB.out
      rw [HTB.out] at hsl
      obtain ⟨g, off, q, hao, hg, c0, c1, HQ⟩ := (HSL.out.below hsl).at j hjn
      subst hao
      obtain ⟨k, hk, rfl⟩ := kp_at HQ.out
      simp only [kp] at c0 c1
      have b1 : (j : Int) < (nl : Int) := by omega
      have hok : k.Ok := HOK.out k (List.mem_of_getElem? hk)
      have HPUT := hid (put_any k ((j : Int) + 7) wr HT.out hok)
      have HPN : Hid (PutI L (j + 1) (hang T k (some ((j : Int) + 7)))) := HP.out.step HT.out.wf hk hok
      unfold pv at HPUT
      clear hk HQ hok hsl
      go_wp2_with fail
      refine HPUT.out.mono ?_
      rintro _ w3 ⟨rfl, hT3, hc3⟩
      have HB3 := hid (Chg.below1 HB.out hc3 (Nat.le_of_lt (HT.out.lt tb rfl)))
      have HT3 := hid hT3
      clear hT3 hc3 c0 c1
      go_wp2_with fail
      go_roundw
      case rel => exact ⟨j + 1, _, by go_num, by omega, HT3, HPN, HB3⟩
      case measure => simp [intOf]; omega
    · have b1 : ¬ (j : Int) < (nl : Int) := by omega
      have HD0 : Hid (DelI L 0 T) := by
        refine PutI.del ?_
        rw [← HNL.out, show nl = j by omega]
        exact HP.out
      clear HP
      go_upto_region 11 with fail
      go_loopw [6] (fun i wr => ∃ (i2 : Nat) (T : Tr), i = .int .i64 (i2 : Int) ∧ i2 ≤ nl ∧ Hid (TrieAt wr (fun b => b = tb) tb T) ∧ Hid (DelI L i2 T) ∧ Hid (Below tb w1 wr)) (fun i _ => nl - (intOf i).toNat)
      case atStart => exact ⟨0, T, rfl, by omega, HT, HD0, HB⟩
      case round =>
        clear HD0 HT HB
        obtain ⟨i2, T2, rfl, hi2, HT, HDI, HB⟩ := hrel
        by_cases hin : i2 < nl
        · have hsl := HB.out
          rw [HTB.out] at hsl
          have HSR := hid (HSL.out.below hsl)
          obtain ⟨g, off, q, hao, hg, c0, c1, HQ⟩ := HSR.out.at i2 hin
          subst hao
          obtain ⟨k, hk, rfl⟩ := kp_at HQ.out
          simp only [kp] at c0 c1
          have b1 : (i2 : Int) < (nl : Int) := by omega
          have b2 : (0 : Int) ≤ (i2 : Int) := by omega
          have hok : k.Ok := HOK.out k (List.mem_of_getElem? hk)
          have HK := hid hk
          have HOKK := hid hok
          have HL1 := hid (last_any _ L k wr HSR.out)
          unfold pv at HL1
          clear hk HQ hok hsl hg
          go_wp2_with fail
          refine HL1.out.mono ?_
          rintro _ w3 ⟨rfl, hb3⟩
          have HT3 := hid (HT.out.grow hb3)
          have HB3 : Hid (Below tb w1 w3) := HB.out.trans (hb3.mono (Nat.le_of_lt (HT.out.lt tb rfl)))
          have hg3 : ∀ {p : Addr} {x : Value}, wr.cell? p = some x → w3.cell? p = some x := fun {p x} hc => (hb3.cell (p := p) (World.block_lt_of_cell? _ _ hc)).trans hc
          have d0 := hg3 c0
          have d1 := hg3 c1
          have HDL := hid (del_any k w3 HT3.out HOKK.out)
          have HDN : Hid (DelI L (i2 + 1) (delT T2 k)) := HDI.out.step HT.out.wf HK.out HOKK.out
          have hlt := lastTo_lt L k L.length
          obtain ⟨kl, hkl⟩ : ∃ kl, kl = lastTo L k L.length := ⟨_, rfl⟩
          have hlook := HDI.out.look HT.out.wf HK.out
          rw [← hkl] at hlt hlook
          rw [← hkl]
          have hkb : -1 ≤ kl ∧ kl ≤ 200 := by have := HNL.out; omega
          have HLK := hid hlook
          clear hb3 hg3 c0 c1 hlt hkl hlook
          unfold pv at HDL
          go_wp2_with fail
          refine HDL.out.mono ?_
          rintro _ w4 ⟨rfl, hT4, hc4⟩
          have HB4 := hid (Chg.below1 HB3.out hc4 (Nat.le_of_lt (HT3.out.lt tb rfl)))
          have HT4 := hid hT4
          have hsl := HB4.out
          rw [HTB.out] at hsl
          have HSR4 := hid (HSL.out.below hsl)
          obtain ⟨g', off', q, hao', hg', c0, c1, HQ⟩ := HSR4.out.at i2 hin
          simp only [Option.some.injEq, Addr.mk.injEq, and_true] at hao'
          obtain ⟨rfl, rfl⟩ := hao'
          obtain ⟨k', hk', rfl⟩ := kp_at HQ.out
          rw [HK.out] at hk'
          obtain rfl := Option.some.inj hk'
          simp only [kp] at c0 c1
          obtain ⟨acut, hac, _⟩ := cut_pr (ao := some ⟨g, off, none⟩) hi2 HCP.out (fun h => by cases h) w4
          have hcut : ∀ u : World, (Instr.sliceAt 22 (.slice (some ⟨g, off, none⟩) nl capl) none (some (.int .i64 (i2 : Int))) none).run Try.prog u = .ok (.slice acut i2 capl) u := fun u => by
            obtain ⟨a', h1, h2⟩ := cut_pr (ao := some ⟨g, off, none⟩) hi2 HCP.out (fun h => by cases h) u
            rw [h2, h1, hac]
          have hsc : Sees w4 (.slice acut i2 capl) ((L.take i2).map kp) := by rw [hac]; exact HSR4.out.cut hi2
          have HL2 : Hid (∀ u, Below w4.heap.size w4 u → Calls Try.prog 12 #[.slice acut i2 capl, pv k] u fun e w' => e = .returned (.int .i64 (lastTo L k i2)) ∧ Below u.heap.size u w') := fun u hu => by
            have h := last_any _ (L.take i2) k u (hsc.below hu)
            have e : (L.take i2).length = i2 := by rw [List.length_take]; have := HNL.out; omega
            rw [e, lastTo_take L k i2 i2 (Nat.le_refl _)] at h
            exact h
          unfold pv at HL2
          have hl2 := lastTo_lt L k i2
          obtain ⟨kp2, hkp2⟩ : ∃ z, z = lastTo L k i2 := ⟨_, rfl⟩
          rw [← hkp2] at HL2 HLK hl2
          clear hT4 hc4 hsl hg' HQ hsc d0 d1 hac hkp2
          rcases HLK.out with ⟨h1, h2⟩ | ⟨h1, h2⟩
          · subst h1
            rw [h2]
            unfold getV
            have z1 : ¬ ((0 : Int) ≤ -1) := by omega
            go_upto_region 15 with fail
            refine wp_region_still_tail 7 (by kernel_rfl) (by kernel_rfl) ?_
            simp only [List.take_succ_cons, List.take_zero, List.drop_succ_cons, List.drop_zero]
            iterate 7 still_step
            refine wpStill_nil ?_
            go_wp2_with fail
            refine (HL2.out w4.drew ⟨rfl, rfl, rfl, Nat.le_refl _, fun _ _ => rfl⟩).mono ?_
            rintro _ w5 ⟨rfl, hb5⟩
            have hb5' : Below w4.heap.size w4 w5 := ⟨hb5.os, hb5.tape, hb5.output, hb5.size, hb5.block⟩
            have HT5 := hid (HT4.out.grow hb5')
            have HB5 : Hid (Below tb w1 w5) := HB4.out.trans (hb5'.mono (Nat.le_of_lt (HT4.out.lt tb rfl)))
            clear hb5 hb5' c0 c1 hcut h2
            go_wp2_with fail
            go_roundw
            case rel => exact ⟨i2 + 1, _, by go_num, by omega, HT5, HDN, HB5⟩
            case measure => simp [intOf]; omega
          · rw [h2]
            unfold getV
            have z1 : (0 : Int) ≤ kp2 := by omega
            go_upto_region 15 with fail
            refine wp_region_still_tail 7 (by kernel_rfl) (by kernel_rfl) ?_
            simp only [List.take_succ_cons, List.take_zero, List.drop_succ_cons, List.drop_zero]
            iterate 7 still_step
            refine wpStill_nil ?_
            go_wp2_with fail
            refine (HL2.out w4.drew ⟨rfl, rfl, rfl, Nat.le_refl _, fun _ _ => rfl⟩).mono ?_
            rintro _ w5 ⟨rfl, hb5⟩
            have hb5' : Below w4.heap.size w4 w5 := ⟨hb5.os, hb5.tape, hb5.output, hb5.size, hb5.block⟩
            have HT5 := hid (HT4.out.grow hb5')
            have HB5 : Hid (Below tb w1 w5) := HB4.out.trans (hb5'.mono (Nat.le_of_lt (HT4.out.lt tb rfl)))
            clear hb5 hb5' c0 c1 hcut h2 h1
            go_wp2_with fail
            go_roundw
            case rel => exact ⟨i2 + 1, _, by go_num, by omega, HT5, HDN, HB5⟩
            case measure => simp [intOf]; omega
        · have b1 : ¬ (i2 : Int) < (nl : Int) := by omega
          have hnil : T2 = .nil := by
            refine DelI.all (L := L) ?_ HT.out.wf
            rw [← HNL.out, show nl = i2 by omega]
            exact HDI.out
          have hTN := HT.out
          rw [hnil] at hTN
          have HTN := hid hTN
          have HTO := hid (told_empty wr HTN.out)
          have HLT : Hid (tb < wr.heap.size) := HTN.out.lt tb rfl
          clear hTN hnil HDI HT
          go_wp2_with fail
          refine HTO.out.mono ?_
          rintro _ w3 ⟨rfl, hb3⟩
          have HT3 := hid (HTN.out.grow hb3)
          have HB3 : Hid (Below tb w1 w3) := HB.out.trans (hb3.mono (Nat.le_of_lt HLT.out))
          have hF := find_any 167772160 w3 HT3.out
          rw [show find .nil 167772160 = none from rfl] at hF
          unfold findV at hF
          have HF : Hid (Calls Try.prog 15 #[.pointer (some ⟨tb, 0, none⟩), .int .u32 167772160] w3 fun e w' => e = .returned (.tuple #[.agg #[.int .u32 0, .int .i64 0], .int .i64 0, .int .i64 3]) ∧ Below w3.heap.size w3 w') := hF
          clear hb3 hF
          go_wp2_with fail
          refine HF.out.mono ?_
          rintro _ w4 ⟨rfl, hb4⟩
          obtain ⟨w5, HW5⟩ : ∃ w5, Hid (w5 = w4.alloc (.cells #[.int .u32 0, .int .i64 0] 31)) := ⟨_, rfl⟩
          have hb5 : Below w4.heap.size w4 w5 := by rw [HW5.out]; exact (Below.refl _ _).alloc (Nat.le_refl _) _
          have hb35 : Below w3.heap.size w3 w5 := hb4.trans (hb5.mono hb4.size)
          have HT5 := hid (HT3.out.grow hb35)
          have HB5 : Hid (Below tb w1 w5) := HB3.out.trans (hb35.mono (Nat.le_of_lt (HT3.out.lt tb rfl)))
          have hPB := put_bad (tb := tb) (x := 1) (y := 31) (a := 1) w5 (by omega) (.inr (.inr (by decide)))
          unfold qv at hPB
          have HPB : Hid (Calls Try.prog 11 #[.pointer (some ⟨tb, 0, none⟩), .agg #[.int .u32 1, .int .i64 31], .int .i64 1] w5 fun e w' => e = .returned (.int .i64 11) ∧ Below w5.heap.size w5 w') := hPB
          clear hb4 hb5 hb35 hPB
          go_upto_region 22 with fail
          rw [← HW5.out]
          go_wp2_with fail
          refine HPB.out.mono ?_
          rintro _ w6 ⟨rfl, hb6⟩
          have HT6 := hid (HT5.out.grow hb6)
          have HB6 : Hid (Below tb w1 w6) := HB5.out.trans (hb6.mono (Nat.le_of_lt (HT5.out.lt tb rfl)))
          have HLN := hid (len_any w6 HT6.out)
          rw [show vals .nil = 0 from rfl] at HLN
          clear hb6
          go_wp2_with fail
          refine HLN.out.mono ?_
          rintro _ w7 ⟨rfl, hb7⟩
          have HT7 := hid (HT6.out.grow hb7)
          have HB7 : Hid (Below tb w1 w7) := HB6.out.trans (hb7.mono (Nat.le_of_lt (HT6.out.lt tb rfl)))
          have HND := hid (nodes_any w7 HT7.out)
          rw [show nodes .nil = 0 from rfl] at HND
          clear hb7
          go_wp2_with fail
          refine HND.out.mono ?_
          rintro _ w8 ⟨rfl, hb8⟩
          have HB8 : Hid (Below w.heap.size w w8) := by
            have h := HB7.out.trans (hb8.mono (Nat.le_of_lt (HT7.out.lt tb rfl)))
            rw [HTB.out] at h
            exact HB1.out.trans (h.mono HB1.out.size)
          clear hb8
          go_wp2_with fail
          go_ret
          exact ⟨rfl, HB8.out⟩
end Go.Proofs.Ytmnafocmbcgdiab
