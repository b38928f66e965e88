import Derived.Test.YtkkfioebpppffaaGreatDoorYFoD
namespace Go.Proofs.YtkkfioebpppffaaGreatDoor.Fl
open Go.Proofs.YtkkfioebpppffaaGreatDoor Go.ChangeShapes Go.WideShapes Go.ChangeAt Go.RowKit Go.Maps N
open Go.Shelf Go.Lib
set_option maxHeartbeats 8000000
set_option maxRecDepth 100000

theorem eqTrO (n : Nat) (k : Int) (f : Fw) (t : Bool) (u : World) : (Op.equalIn (n + 4) 47 (.agg (trC k f t)) (.agg (trC k f t))).run Tryz.prog u = .ok true u := by
  rw [show n + 4 = (n + 3) + 1 from rfl, Op.equalIn]
  have s1 : ∀ w : World, (sizeOf 3).run Tryz.prog w = .ok 1 w := fun w => by kernel_rfl
  have s2 : ∀ w : World, (sizeOf 45).run Tryz.prog w = .ok 12 w := fun w => by kernel_rfl
  have s3 : ∀ w : World, (sizeOf 4).run Tryz.prog w = .ok 1 w := fun w => by kernel_rfl
  have i0 : ∀ w : World, (Op.equalIn (n + 3) 3 (.int .i64 k) (.int .i64 k)).run Tryz.prog w = .ok true w := fun w => by rw [eqI (n + 2) uIn' k k w]; simp
  have i1 : ∀ w : World, (Op.equalIn (n + 3) 45 (.agg f.cells) (.agg f.cells)).run Tryz.prog w = .ok true w := fun w => by rw [eqFw n f f w]; simp
  have i2 : ∀ w : World, (Op.equalIn (n + 3) 4 (.bool t) (.bool t)).run Tryz.prog w = .ok true w := fun w => by
    rw [show n + 3 = (n + 2) + 1 from rfl, Op.equalIn]
    simp [run_underlying Tryz.underlying4, go_sem]
  unfold Fw.cells at i1
  unfold trC
  simp [run_underlying Tryz.underlying47, s1, s2, s3, part, i0, i1, i2, go_sem]
section
variable {o : Oper} {a : Act} {w : World}
theorem ex_neTr (x y : Operand) (T : TypeId) (k : Int) (f : Fw) (t : Bool) (ho : o.op = .binOp .neq 47 x y T) (hx : a.eval x = .agg (trC k f t)) (hy : a.eval y = .agg (trC k f t)) : (execOp a.eval o).run Tryz.prog w = .ok (.value (.bool false)) w := by
  have h : (Op.equal 47 (.agg (trC k f t)) (.agg (trC k f t))).run Tryz.prog w = .ok true w := eqTrO 9996 k f t w
  unfold execOp
  simp only [ho, hx, hy]
  simp [eqGuard, binOp, go_sem, h]
theorem ex_eq8 (x y : Operand) (T' : TypeId) (i j : Int) (r : Bool) (ho : o.op = .binOp .eql 5 x y T') (hx : a.eval x = .int .u8 i) (hy : a.eval y = .int .u8 j) (hr : decide (i = j) = r) : (execOp a.eval o).run Tryz.prog w = .ok (.value (.bool r)) w := by
  unfold execOp
  simp only [ho, hx, hy]
  simp [eqGuard, binOp, go_sem]
  rw [← hr]
  by_cases e : i = j <;> simp [e]
theorem ex_ne16 (x y : Operand) (T' : TypeId) (i j : Int) (r : Bool) (ho : o.op = .binOp .neq 28 x y T') (hx : a.eval x = .int .u16 i) (hy : a.eval y = .int .u16 j) (hr : (!decide (i = j)) = r) : (execOp a.eval o).run Tryz.prog w = .ok (.value (.bool r)) w := by
  unfold execOp
  simp only [ho, hx, hy]
  simp [eqGuard, binOp, go_sem]
  rw [← hr]
  by_cases e : i = j <;> simp [e]
end
theorem load_trO {u : World} {b : Nat} {k : Int} {f : Fw} {th : Bool} {r : Nat × Nat} (h : u.heap[b]? = some (.cells (trC k f th) 47 r)) : (Instr.loadAt 47 (.pointer (some ⟨b, 0, none⟩))).run Tryz.prog u = .ok (.agg (trC k f th)) u := by
  obtain ⟨d, h1, h2⟩ := isTr
  exact load_at (cs := (trC k f th).toList) h rfl h1 h2 (by kernel_rfl)
def zSp : Array Value := #[.int .i64 0, .int .i64 0, .int .u8 0, .int .u16 0, .bool false, .bool false, .int .i64 0, .int .u8 0, .int .u8 0, .int .u32 0, .int .u32 0, .slice none 0 0, .slice none 0 0, .int .u32 0, .int .u32 0, .int .u8 0, .int .u16 0, .int .u16 0, .int .u32 0, .int .u32 0, .int .u8 0, .int .u16 0, .int .u16 0, .int .i64 0]

theorem cell_belowO {w u : World} (h : Below w.heap.size w u) {g i : Nat} {v : Value} (hg : g < w.heap.size) (hc : w.cell? ⟨g, i, none⟩ = some v) : u.cell? ⟨g, i, none⟩ = some v := by
  unfold World.cell? at hc ⊢
  simp only at hc ⊢
  rw [h.block g hg]
  exact hc
section
variable {w u u' : World} {b : Nat} {lim : Int} {q : Raw} {L : List (Int × Fw)}
theorem Tb.lookMade (h : Tb w u b lim q L) (hq : q.last ≤ 1000) {t : Tu} (ht : t.Ok) (hp : t.p = 6 ∨ t.p = 1 ∨ t.p = 17) (h1 : t.p = 1 → t.dp = t.sp) {ao : Option Addr} {n cap : Nat} (hs : SeesB u (.slice ao n cap) (mdB t 1)) {k : Int} {f : Fw} (hl : lookP q t = (k, f)) :
    Calls Tryz.prog 9 #[.pointer (some ⟨b, 0, none⟩), .agg (pkCells (mdH t) (.slice none 0 0) (.slice ao n cap))] u fun e w' => e = .returned (.agg (trC k f false)) ∧ Below u.heap.size u w' := by
  obtain ⟨F, g1, g2⟩ := h.st
  have := look_any u b lim q F (mdH t) (.slice none 0 0) (.slice ao n cap) (mdB t 1) _ g1 (mdH_ok ht) (sees_nil _) hs (by show 0 ≤ _; omega) (by rw [mdB_len]; split <;> omega) (rdC_made hp ht 1) (fk64' h.inv hq)
  rw [tup_made h1, hl] at this
  exact this
theorem madeO (t : Tu) (w : World) (ht : t.Ok) : Calls Tryz.prog 10 #[.agg t.cells, .int .u8 1] w fun e w' => ∃ ao n cap, e = .returned (.agg (pkCells (mdH t) (.slice none 0 0) (.slice ao n cap))) ∧ SeesB w' (.slice ao n cap) (mdB t 1) ∧ Below w.heap.size w w' := made_sees t 1 w ht (by omega)
theorem Tb.start {F : Nat → Prop} (h : St u b lim q0 F) (hF : ∀ k, F k → w.heap.size ≤ k) (hb : Below w.heap.size w u) (hl : 1 ≤ lim) : Tb w u b lim q0 [] := ⟨⟨F, h, hF⟩, inv_nil hl, (fun p hp => by cases hp), hb⟩
end
theorem flowOnce_any (w : World) (lm : Int) (v : Value) (S : List Sp) (ht : TabF w) (hK : TabK w) (hS : SeesP w v S) (hlm : Tm.In64 lm) :
    Calls Tryz.prog 3 #[.int .i64 lm, v] w fun e w' => e = .returned (.bool true) ∧ Below w.heap.size w w' := by
  have HBG := hid (begun_any w ht)
  obtain ⟨lim, HLM⟩ : ∃ x : Int, Hid (x = if lm < 1 ∨ 65536 < lm then 4 else lm) := ⟨_, rfl⟩
  have HLB : Hid (1 ≤ lim ∧ lim ≤ 65536) := by
    unfold Hid; rw [HLM.out]; split <;> omega
  obtain ⟨ao, cap, rfl, -, hel⟩ := hS
  obtain ⟨n, HN⟩ : ∃ n, Hid (n = S.length) := ⟨_, rfl⟩
  have HEL := hid hel
  have HTB := hid ht
  have HTK := hid hK
  have hn1 := hlm.lo; have hn2 := hlm.hi
  rw [← HN.out]
  clear ht hK hlm hel
  go_enter Tryz.func3, Tryz.ntmps3
  go_wp2_with fail
  refine HBG.out.mono ?_
  rintro _ w1 ⟨rfl, hb1⟩
  have HB1 := hid hb1
  clear hb1
  go_upto_region 4 with fail
  go_cut [24] from 16 (fun c wx => c = .bool (decide (lm < 1 ∨ 65536 < lm)) ∧ wx = w1)
  case first =>
    by_cases h1 : lm < 1
    · go_wp2_with fail
      go_meet
      exact ⟨by simp [h1], rfl⟩
    · by_cases h2 : 65536 < lm
      · go_wp2_with fail
        go_meet
        exact ⟨by simp [h2], rfl⟩
      · go_wp2_with fail
        go_meet
        exact ⟨by simp [h1, h2], rfl⟩
  case rest =>
  obtain ⟨rfl, hww⟩ := hcut
  obtain rfl : w1 = wc := hww.symm
  go_upto_if 24 with fail
  go_cut [0] from 16 (fun a wx => a = .int .i64 lim ∧ wx = w1)
  case first =>
    by_cases h : lm < 1 ∨ 65536 < lm
    · have HE : Hid (lim = 4) := by unfold Hid; rw [HLM.out, if_pos h]
      have hd : decide (lm < 1 ∨ 65536 < lm) = true := decide_eq_true h
      rw [hd]
      clear hd h
      go_wp2_with fail
      go_meet
      exact ⟨by rw [HE.out], rfl⟩
    · have HE : Hid (lim = lm) := by unfold Hid; rw [HLM.out, if_neg h]
      have hd : decide (lm < 1 ∨ 65536 < lm) = false := decide_eq_false h
      rw [hd]
      clear hd h
      go_wp2_with fail
      go_meet
      exact ⟨by rw [HE.out], rfl⟩
  case rest =>
  obtain ⟨rfl, hww⟩ := hcut
  obtain rfl : w1 = wc := hww.symm
  have hm1 : 1 ≤ lim := HLB.out.1
  have hm2 : lim ≤ 65536 := HLB.out.2
  clear HLM hn1 hn2
  have HNW := hid (new_good lim w1 (by omega) (by omega) (HTB.out.below HB1.out))
  go_wp2_with fail
  refine HNW.out.mono ?_
  rintro _ w2 ⟨b, F, rfl, hs, hF, hb2⟩
  have HT0 : Hid (Tb w w2 b lim q0 [] ∧ q0.last ≤ ((0 : Nat) : Int)) := ⟨Tb.start hs (fun k hk => Nat.le_trans HB1.out.size (hF k hk)) (HB1.out.trans (hb2.mono HB1.out.size)) hm1, by show (0 : Int) ≤ 0; omega⟩
  clear hs hF hb2
  go_wp2_with fail
  go_loopw [8] (fun iv wr => ∃ (i : Nat) (q : Raw) (L : List (Int × Fw)), iv = .int .i64 (i : Int) ∧ i ≤ 300 ∧ Hid (Tb w wr b lim q L ∧ q.last ≤ (i : Int))) (fun iv _ => match iv with | .int _ z => 300 - z.toNat | _ => 0)
  case atStart => exact ⟨0, q0, [], rfl, by omega, HT0⟩
  case round =>
  obtain ⟨i, q, L, rfl, hi, HT⟩ := hrel
  go_upto_region 10 with fail
  go_cut [43] from 36 to 71 (fun c wx => c = .bool (decide (i < n ∧ i < 300)) ∧ wx = wr)
  case first =>
    by_cases c1 : i < n
    · have d1 : (i : Int) < (n : Int) := by omega
      by_cases c2 : i < 300
      · have d2 : (i : Int) < 300 := by omega
        go_wp2_with fail
        go_meet
        exact ⟨by simp [c1, c2], rfl⟩
      · have d2 : ¬ (i : Int) < 300 := by omega
        go_wp2_with fail
        go_meet
        exact ⟨by simp [c2], rfl⟩
    · have d1 : ¬ (i : Int) < (n : Int) := by omega
      go_wp2_with fail
      go_meet
      exact ⟨by simp [c1], rfl⟩
  case rest =>
  obtain ⟨rfl, hww⟩ := hcut
  obtain rfl : wr = wc := hww.symm
  by_cases hc : i < n ∧ i < 300
  · as_aux_lemma =>
      have hcd : decide (i < n ∧ i < 300) = true := decide_eq_true hc
      rw [hcd]
      obtain ⟨k1, k2⟩ := hc
      have hil : i < S.length := by rw [← HN.out]; exact k1
      obtain ⟨hok, g, off, rfl, hg, hce⟩ := HEL.out i hil
      obtain ⟨s, HSS⟩ : ∃ s : Sp, Hid (s = S[i]'hil) := ⟨_, rfl⟩
      rw [← HSS.out] at hok hce
      have hbr := HT.out.1.bel
      have hcr : ∀ x vv, s.cells[x]? = some vv → wr.cell? ⟨g, off + i * 24 + x, none⟩ = some vv := fun x vv hv => cell_belowO hbr hg (hce x vv hv)
      have HLO := hid (sp_load hcr)
      have hkr : Hid (wr.cell? ⟨g, off + i * 24, none⟩ = some (.int .i64 s.k)) := hcr 0 _ rfl
      have HOK := hid (hok.below hbr)
      have h1i : (i : Int) < (n : Int) := by omega
      have h2i : (0 : Int) ≤ (i : Int) := by omega
      have h3i : decide ((i : Int) < 0) = false := by simp
      have HKR := hid (HTK.out.below hbr)
      have HN9 : Hid ((wr.alloc (.cells #[.int .i64 0, .int .i64 0, .int .u8 0, .int .u16 0, .bool false, .bool false, .int .i64 0, .int .u8 0, .int .u8 0, .int .u32 0, .int .u32 0, .slice none 0 0, .slice none 0 0, .int .u32 0, .int .u32 0, .int .u8 0, .int .u16 0, .int .u16 0, .int .u32 0, .int .u32 0, .int .u8 0, .int .u16 0, .int .u16 0, .int .i64 0] 39)).heap[wr.heap.size]? = some (.cells zSp 39 (0, 0))) := heap_alloc_new _ _
      clear hcr hok hce hbr hcd
      go_upto_region 13 with (first | (refine wpList_ld 39 ⟨g, off + i * 24, none⟩ (.tmp 48) rfl rfl HLO.out rfl ?_) | (refine wpList_st rfl 39 (.tmp 9) (.tmp 49) rfl wr.heap.size s.cells rfl rfl _ zSp HN9.out (by kernel_rfl) rfl HOK.out.one ?_; intro w3 hw3 hbut3) | fail)
      have hb3 : Below wr.heap.size wr w3 := hbut3.below ((Below.refl _ _).alloc (Nat.le_refl _) _) (by simp) (Nat.le_refl _)
      obtain ⟨g9, HG9⟩ : ∃ g, Hid (g = wr.heap.size) := ⟨_, rfl⟩
      rw [← HG9.out] at hw3 ⊢
      have HACT := hid (act_any HT.out.1 hb3 (HOK.out.below hb3) hm2 (by have := HT.out.2; omega) (HKR.out.below hb3))
      have HL9 : Hid ((Instr.loadAt 39 (.pointer (some ⟨g9, 0, none⟩))).run Tryz.prog w3 = .ok (.agg s.cells) w3) := sp_load fun x vv hv => by rw [cell_of_row _ _ _ _ _ _ hw3, Nat.zero_add]; exact hv
      have HW3 := hid hw3
      have HB3 := hid hb3
      clear hw3 hb3 hbut3 HN9 HLO hkr
      go_wp2_with (first | (refine wpList_ld 39 ⟨g9, 0, none⟩ (.tmp 9) rfl rfl HL9.out rfl ?_) | fail)
      refine HACT.out.mono ?_
      rintro _ w4 ⟨rfl, q4, L4, ht4, hla4, hsm4⟩
      have r4 : w4.heap[g9]? = some (.cells s.cells 39 (0, 0)) := (hsm4 g9 (by rw [HG9.out]; exact Nat.le_refl _) (Array.getElem?_eq_some_iff.1 HW3.out).1).trans HW3.out
      have ck : w4.cell? ⟨g9, 0, none⟩ = some (.int .i64 s.k) := by rw [cell_of_row _ _ _ _ _ _ r4]; rfl
      have HT4 : Hid (Tb w w4 b lim q4 L4 ∧ q4.last ≤ ((i + 1 : Nat) : Int)) := ⟨ht4, by have := HT.out.2; omega⟩
      generalize s.k = kk at ck
      have wi : IntKind.i64.wrap ((i : Int) + 1) = ((i + 1 : Nat) : Int) := by rw [IntKind.wrap_i64]; omega
      clear ht4 hla4 hsm4 r4 HL9 HACT HW3 HB3 HOK HKR
      go_upto_region 14 with fail
      go_cut [60] from 36 to 71 (fun c wx => c = .bool (decide (kk = 3 ∨ kk = 5)) ∧ wx = w4)
      case first =>
        by_cases e3 : kk = 3
        · have q3 : (kk == 3) = true := by simp [e3]
          go_wp2_with fail
          go_meet
          exact ⟨by simp [e3], rfl⟩
        · have q3 : (kk == 3) = false := by simp [e3]
          by_cases e5 : kk = 5
          · have q5 : (kk == 5) = true := by simp [e5]
            go_wp2_with fail
            go_meet
            exact ⟨by simp [e5], rfl⟩
          · have q5 : (kk == 5) = false := by simp [e5]
            go_wp2_with fail
            go_meet
            exact ⟨by simp [e3, e5], rfl⟩
      case rest =>
      obtain ⟨rfl, hww⟩ := hcut
      obtain rfl : w4 = wc := hww.symm
      clear ck
      by_cases hd : kk = 3 ∨ kk = 5
      · rw [decide_eq_true hd]
        clear hd
        have HLI := hid (HT4.out.1.list hm2 (by have := HT4.out.2; omega))
        go_wp2_with fail
        refine HLI.out.mono ?_
        rintro _ w5 ⟨a5, n5, c5, R, rfl, hp5, -, ho5, hb5⟩
        obtain ⟨_, _, _, e0, hn5, -, -⟩ := ho5.shape
        simp only [Value.slice.injEq] at e0
        obtain ⟨rfl, rfl, rfl⟩ := e0
        have hR : (R.length : Int) ≤ lim := by rw [hp5.length_eq, List.length_map]; exact HT4.out.1.inv.lm
        have HON := hid (once_any w5 _ a5 n5 c5 R ho5 (once_of HT4.out.1.inv hp5) (by omega))
        have hgt : ¬ lim < (n5 : Int) := by rw [hn5.out]; omega
        have HT5 : Hid (Tb w w5 b lim q4 L4 ∧ q4.last ≤ ((i + 1 : Nat) : Int)) := ⟨HT4.out.1.below hb5, HT4.out.2⟩
        clear hp5 ho5 hb5 hn5 hR HLI
        go_wp2_with fail
        refine HON.out.mono ?_
        rintro _ w6 ⟨rfl, hb6⟩
        have HT6 : Hid (Tb w w6 b lim q4 L4 ∧ q4.last ≤ ((i + 1 : Nat) : Int)) := ⟨HT5.out.1.below hb6, HT5.out.2⟩
        clear hb6 HON
        go_wp2_with fail
        go_roundw
        case rel => exact ⟨i + 1, q4, L4, rfl, by omega, HT6⟩
        case measure => simp; omega
      · rw [decide_eq_false hd]
        clear hd
        go_wp2_with fail
        go_roundw
        case rel => exact ⟨i + 1, q4, L4, rfl, by omega, HT4⟩
        case measure => simp; omega
  · as_aux_lemma =>
      have hcd : decide (i < n ∧ i < 300) = false := decide_eq_false hc
      rw [hcd]
      clear hcd hc
      have HLI := hid (HT.out.1.list hm2 (by have := HT.out.2; omega))
      go_wp2_with fail
      refine HLI.out.mono ?_
      rintro _ w5 ⟨al, m, cl, R, rfl, hp5, hs5, ho5, hb5⟩
      obtain ⟨_, _, _, e0, HM, -, -⟩ := ho5.shape
      simp only [Value.slice.injEq] at e0
      obtain ⟨rfl, rfl, rfl⟩ := e0
      have hR : R.length ≤ 65536 := by have := hp5.length_eq; rw [List.length_map] at this; have := HT.out.1.inv.lm; omega
      have hm65 : m ≤ 65536 := by rw [HM.out]; exact hR
      have HENT := hid (ents ho5)
      have HPE := hid hp5
      have HSO := hid hs5
      have HOW := hid ho5
      have HT5 : Hid (Tb w w5 b lim q L ∧ q.last ≤ 1000) := ⟨HT.out.1.below hb5, by have := HT.out.2; omega⟩
      have HRL := hid hR
      have HBR : Hid (Below w5.heap.size w5 w5) := Below.refl _ _
      clear hp5 hs5 ho5 hb5 hR HLI HT
      go_wp2_with fail
      go_loopw [12] (fun jv wr => ∃ j : Nat, jv = .int .i64 (j : Int) ∧ j ≤ m ∧ Hid (Below w5.heap.size w5 wr)) (fun jv _ => match jv with | .int _ z => m - z.toNat | _ => 0)
      case atStart => exact ⟨0, rfl, Nat.zero_le _, HBR⟩
      case round =>
      obtain ⟨j, rfl, hj, HB⟩ := hrel
      by_cases hjm : j < m
      · as_aux_lemma =>
          have hjl : j < R.length := by rw [← HM.out]; exact hjm
          obtain ⟨gl, rfl, hent⟩ := HENT.out j hjl
          obtain ⟨X, HX⟩ : ∃ x : Fw, Hid (x = R[j]'hjl) := ⟨_, rfl⟩
          rw [← HX.out] at hent
          have hXL : X ∈ L.map (·.2) := HPE.out.mem_iff.1 (by rw [HX.out]; exact List.getElem_mem hjl)
          obtain ⟨l1, l2⟩ := lookP_th HT5.out.1.inv hXL
          have HXF : Hid (X.th.Ok ∧ X.bk.Ok ∧ GdT X.th ∧ X.bk.p = X.th.p) := by
            obtain ⟨p, hp, he⟩ := List.mem_map.1 hXL
            obtain ⟨o1, o2, _, _, _, o6, _⟩ := HT5.out.1.inv.m.ok _ hp
            have := HT5.out.1.gd p hp
            rw [he] at o1 o2 o6 this
            exact ⟨o1, o2, this, o6⟩
          have HEN := hid hent
          have HL1 := hid l1
          have HL2 := hid l2
          have hX0 := hent wr HB.out
          have HTH := hid hX0.th
          have HBK0 := hid hX0.bk
          have HJM := hid hjm
          have hj1 : (j : Int) < (m : Int) := by omega
          have hj2 : (0 : Int) ≤ (j : Int) := by omega
          have hj3 : decide ((j : Int) < 0) = false := by simp
          have wj : IntKind.i64.wrap ((j : Int) + 1) = ((j + 1 : Nat) : Int) := by rw [IntKind.wrap_i64]; omega
          have HMD := hid (madeO X.th wr HXF.out.1)
          clear hent hXL l1 l2 hX0
          go_wp2_with (first | (refine wpList_ld 37 ⟨gl, j * 12, none⟩ (.tmp 84) rfl rfl HTH.out rfl ?_) | fail)
          refine HMD.out.mono ?_
          rintro _ w6 ⟨a6, n6, c6, rfl, hs6, hb6⟩
          have HB6 := hid (HB.out.trans (hb6.mono HB.out.size))
          have HLK := hid ((HT5.out.1.below HB6.out).lookMade HT5.out.2 HXF.out.1 HXF.out.2.2.1.1 HXF.out.2.2.1.2 hs6 HL1.out)
          clear hs6 hb6 HMD
          go_wp2_with fail
          refine HLK.out.mono ?_
          rintro _ w7 ⟨rfl, hb7⟩
          have HB7 := hid (HB6.out.trans (hb7.mono HB6.out.size))
          clear hb7 HLK
          have HN7 : Hid ((w7.alloc (.cells #[.int .i64 0, .int .u32 0, .int .u32 0, .int .u8 0, .int .u16 0, .int .u16 0, .int .u32 0, .int .u32 0, .int .u8 0, .int .u16 0, .int .u16 0, .int .i64 0, .int .i64 0, .bool false] 47)).heap[w7.heap.size]? = some (.cells zTr 47 (0, 0))) := heap_alloc_new _ _
          go_upto_region 23 with (first | (refine wpList_st rfl 47 (.tmp 13) (.tmp 87) rfl w7.heap.size (trC 2 X false) rfl rfl _ zTr HN7.out (by kernel_rfl) rfl (trC_one _ _ _) ?_; intro w8 hw8 hbut8) | fail)
          have hb8 : Below w7.heap.size w7 w8 := hbut8.below ((Below.refl _ _).alloc (Nat.le_refl _) _) (by simp) (Nat.le_refl _)
          obtain ⟨g13, HG13⟩ : ∃ g, Hid (g = w7.heap.size) := ⟨_, rfl⟩
          rw [← HG13.out] at hw8 ⊢
          have HBU := hid (HB7.out.trans (hb8.mono HB7.out.size))
          have HTRK : Hid (∀ u : World, Below w8.heap.size w8 u → (Instr.loadAt 47 (.pointer (some ⟨g13, 0, none⟩))).run Tryz.prog u = .ok (.agg (trC 2 X false)) u) := fun u hu => load_trO (below_keeps hu hw8 (Array.getElem?_eq_some_iff.1 hw8).1)
          clear hw8 hb8 hbut8 HN7 HTH
          refine wp_region_guarded' 6 (fun i => ([88, 89, 90, 91, 92, 93] : List Tmp).getD i 0) (Vs [.agg (trC 2 X false), .slice (some ⟨gl, 0, none⟩) m cl, .int .i64 (j : Int), .pointer (some ⟨gl, j * 12, none⟩), .agg X.cells, .agg (trC 2 X false)]) (fun u => Below w8.heap.size w8 u) (fun _ u u' => Below u.heap.size u u') (by kernel_rfl) (by kernel_rfl) ⟨rfl, rfl, rfl, Nat.le_refl _, fun _ _ => rfl⟩ (fun _ _ _ _ _ _ h _ _ => h) ?_ ?_
          · simp only [List.take_succ_cons, List.take_zero, stepsG]
            refine ⟨?_, ?_, ?_, ?_, ?_, ?_, trivial⟩
            · intro a u vs hI hold hdep
              exact opAt_plain rfl (wp_still (ex_load _ ⟨g13, 0, none⟩ (.tmp 13) _ rfl (hold 13 (dlM (L := [88, 89, 90, 91, 92, 93]) (by decide))) ((HTRK.out u hI))) rfl rfl hI)
            · intro a u vs hI hold hdep
              exact opAt_plain rfl (wp_still (ex_move (.tmp 11) _ rfl (hold 11 (dlM (L := [88, 89, 90, 91, 92, 93]) (by decide)))) rfl rfl hI)
            · intro a u vs hI hold hdep
              exact opAt_plain rfl (wp_still (ex_move (.tmp 12) _ rfl (hold 12 (dlM (L := [88, 89, 90, 91, 92, 93]) (by decide)))) rfl rfl hI)
            · intro a u vs hI hold hdep
              exact opAt_plain rfl (wp_still (ex_index 41 (.tmp 89) (.tmp 90) _ _ _ rfl (Vs.dep (hdep ⟨1, .data⟩ (by simp) rfl (by decide)) rfl) (Vs.dep (hdep ⟨2, .data⟩ (by simp) rfl (by decide)) rfl) (idxFl HJM.out u)) rfl rfl hI)
            · intro a u vs hI hold hdep
              exact opAt_plain rfl (wp_still (ex_load _ ⟨gl, j * 12, none⟩ (.tmp 91) _ rfl (Vs.dep (hdep ⟨3, .data⟩ (by simp) rfl (by decide)) rfl) ((HEN.out u (HBU.out.trans (hI.mono HBU.out.size))).fl)) rfl rfl hI)
            · intro a u vs hI hold hdep
              have x0 : a.eval (.tmp 92) = .agg X.cells := (Vs.dep (hdep ⟨4, .data⟩ (by simp) rfl (by decide)) rfl)
              exact opAt_plain rfl (wp_still (ex_build 47 _ #[(0, .int .i64 2), (1, .agg X.cells)] _ rfl (by simp only [List.map_toArray, List.map_cons, List.map_nil, x0]; rfl) (build_tr2 2 X u)) rfl rfl hI)
          intro vs wq hI hF
          have e0 : vs 0 = .agg (trC 2 X false) := (Option.some.inj (hF 0 (by decide))).symm
          have e1 : vs 1 = .slice (some ⟨gl, 0, none⟩) m cl := (Option.some.inj (hF 1 (by decide))).symm
          have e2 : vs 2 = .int .i64 (j : Int) := (Option.some.inj (hF 2 (by decide))).symm
          have e3 : vs 3 = .pointer (some ⟨gl, j * 12, none⟩) := (Option.some.inj (hF 3 (by decide))).symm
          have e4 : vs 4 = .agg X.cells := (Option.some.inj (hF 4 (by decide))).symm
          have e5 : vs 5 = .agg (trC 2 X false) := (Option.some.inj (hF 5 (by decide))).symm
          clear hF
          simp only [List.drop_succ_cons, List.drop_zero, puts, List.range, List.range.loop, List.foldr, if_true, List.getD_cons_zero, List.getD_cons_succ, e0, e1, e2, e3, e4, e5, Act.put, List.setIfInBounds_toArray, List.set_cons_zero, List.set_cons_succ]
          clear e0 e1 e2 e3 e4 e5
          have HB8 := hid (HBU.out.trans (hI.mono HBU.out.size))
          clear hI HTRK HBU
          go_upto_region 25 with (first | (refine wpList_val (ex_neTr (.tmp 88) (.tmp 93) _ 2 X false rfl rfl rfl) rfl ?_) | fail)
          have HBU := HB8
          clear HB8
          by_cases hp1 : X.bk.p = 1
          · have HP1 : Hid (decide (((X.bk.p : Nat) : Int) = 1) = true) := by unfold Hid; simp [hp1]
            by_cases hne : X.bk.sp = X.bk.dp
            · have HP2 : Hid ((!decide (((X.bk.sp : Nat) : Int) = ((X.bk.dp : Nat) : Int))) = false) := by unfold Hid; simp [hne]
              have HDS : Hid (X.bk.p = 1 → X.bk.dp = X.bk.sp) := fun _ => hne.symm
              clear hp1 hne
              refine wp_region_guarded' 21 (fun i => ([95, 96, 97, 98, 99, 100, 101, 102, 103, 104, 105, 106, 107, 108, 109, 110, 111, 112, 113, 114, 115] : List Tmp).getD i 0) (Vs [.slice (some ⟨gl, 0, none⟩) m cl, .int .i64 (j : Int), .pointer (some ⟨gl, j * 12, none⟩), .pointer (some ⟨gl, j * 12 + 5, none⟩), .pointer (some ⟨gl, j * 12 + 5 + 2, none⟩), .int .u8 ((X.bk.p : Nat) : Int), .bool true, .bool true, .slice (some ⟨gl, 0, none⟩) m cl, .int .i64 (j : Int), .pointer (some ⟨gl, j * 12, none⟩), .pointer (some ⟨gl, j * 12 + 5, none⟩), .pointer (some ⟨gl, j * 12 + 5 + 3, none⟩), .int .u16 ((X.bk.sp : Nat) : Int), .slice (some ⟨gl, 0, none⟩) m cl, .int .i64 (j : Int), .pointer (some ⟨gl, j * 12, none⟩), .pointer (some ⟨gl, j * 12 + 5, none⟩), .pointer (some ⟨gl, j * 12 + 5 + 4, none⟩), .int .u16 ((X.bk.dp : Nat) : Int), .bool false]) (fun u => Below wq.heap.size wq u) (fun _ u u' => Below u.heap.size u u') (by kernel_rfl) (by kernel_rfl) ⟨rfl, rfl, rfl, Nat.le_refl _, fun _ _ => rfl⟩ (fun _ _ _ _ _ _ h _ _ => h) ?_ ?_
              · simp only [List.take_succ_cons, List.take_zero, stepsG]
                refine ⟨?_, ?_, ?_, ?_, ?_, ?_, ?_, ?_, ?_, ?_, ?_, ?_, ?_, ?_, ?_, ?_, ?_, ?_, ?_, ?_, ?_, trivial⟩
                · intro a u vs hI hold hdep
                  exact opAt_plain rfl (wp_still (ex_move (.tmp 11) _ rfl (hold 11 (dlM (L := [95, 96, 97, 98, 99, 100, 101, 102, 103, 104, 105, 106, 107, 108, 109, 110, 111, 112, 113, 114, 115]) (by decide)))) rfl rfl hI)
                · intro a u vs hI hold hdep
                  exact opAt_plain rfl (wp_still (ex_move (.tmp 12) _ rfl (hold 12 (dlM (L := [95, 96, 97, 98, 99, 100, 101, 102, 103, 104, 105, 106, 107, 108, 109, 110, 111, 112, 113, 114, 115]) (by decide)))) rfl rfl hI)
                · intro a u vs hI hold hdep
                  exact opAt_plain rfl (wp_still (ex_index 41 (.tmp 95) (.tmp 96) _ _ _ rfl (Vs.dep (hdep ⟨0, .data⟩ (by simp) rfl (by decide)) rfl) (Vs.dep (hdep ⟨1, .data⟩ (by simp) rfl (by decide)) rfl) (idxFl HJM.out u)) rfl rfl hI)
                · intro a u vs hI hold hdep
                  exact opAt_plain rfl (wp_still (ex_field _ ⟨gl, j * 12, none⟩ (.tmp 97) 1 _ rfl (Vs.dep (hdep ⟨2, .data⟩ (by simp) rfl (by decide)) rfl) (fl_bk _ _ u)) rfl rfl hI)
                · intro a u vs hI hold hdep
                  exact opAt_plain rfl (wp_still (ex_field _ ⟨gl, j * 12 + 5, none⟩ (.tmp 98) 2 _ rfl (Vs.dep (hdep ⟨3, .data⟩ (by simp) rfl (by decide)) rfl) (tu_p _ _ u)) rfl rfl hI)
                · intro a u vs hI hold hdep
                  exact opAt_plain rfl (wp_still (ex_load _ ⟨gl, j * 12 + 5 + 2, none⟩ (.tmp 99) _ rfl (Vs.dep (hdep ⟨4, .data⟩ (by simp) rfl (by decide)) rfl) (ldB (HEN.out u (HBU.out.trans (hI.mono HBU.out.size))).bp)) rfl rfl hI)
                · intro a u vs hI hold hdep
                  exact opAt_plain rfl (wp_still (ex_eq8 (.tmp 100) (.const (.int .u8 1)) _ _ _ true rfl (Vs.dep (hdep ⟨5, .data⟩ (by simp) rfl (by decide)) rfl) rfl HP1.out) rfl rfl hI)
                · intro a u vs hI hold hdep
                  exact opAt_plain rfl (wp_still (ex_move (.tmp 101) _ rfl (Vs.dep (hdep ⟨6, .data⟩ (by simp) rfl (by decide)) rfl)) rfl rfl hI)
                · intro a u vs hI hold hdep
                  exact opAt_go (j := 7) (t := 102) (b := true) rfl rfl (Vs.dep (hdep ⟨7, .guard⟩ (by simp) rfl (by decide)) rfl) (wp_still (ex_move (.tmp 11) _ rfl (hold 11 (dlM (L := [95, 96, 97, 98, 99, 100, 101, 102, 103, 104, 105, 106, 107, 108, 109, 110, 111, 112, 113, 114, 115]) (by decide)))) rfl rfl hI)
                · intro a u vs hI hold hdep
                  exact opAt_go (j := 7) (t := 102) (b := true) rfl rfl (Vs.dep (hdep ⟨7, .guard⟩ (by simp) rfl (by decide)) rfl) (wp_still (ex_move (.tmp 12) _ rfl (hold 12 (dlM (L := [95, 96, 97, 98, 99, 100, 101, 102, 103, 104, 105, 106, 107, 108, 109, 110, 111, 112, 113, 114, 115]) (by decide)))) rfl rfl hI)
                · intro a u vs hI hold hdep
                  exact opAt_go (j := 7) (t := 102) (b := true) rfl rfl (Vs.dep (hdep ⟨7, .guard⟩ (by simp) rfl (by decide)) rfl) (wp_still (ex_index 41 (.tmp 103) (.tmp 104) _ _ _ rfl (Vs.dep (hdep ⟨8, .data⟩ (by simp) rfl (by decide)) rfl) (Vs.dep (hdep ⟨9, .data⟩ (by simp) rfl (by decide)) rfl) (idxFl HJM.out u)) rfl rfl hI)
                · intro a u vs hI hold hdep
                  exact opAt_go (j := 7) (t := 102) (b := true) rfl rfl (Vs.dep (hdep ⟨7, .guard⟩ (by simp) rfl (by decide)) rfl) (wp_still (ex_field _ ⟨gl, j * 12, none⟩ (.tmp 105) 1 _ rfl (Vs.dep (hdep ⟨10, .data⟩ (by simp) rfl (by decide)) rfl) (fl_bk _ _ u)) rfl rfl hI)
                · intro a u vs hI hold hdep
                  exact opAt_go (j := 7) (t := 102) (b := true) rfl rfl (Vs.dep (hdep ⟨7, .guard⟩ (by simp) rfl (by decide)) rfl) (wp_still (ex_field _ ⟨gl, j * 12 + 5, none⟩ (.tmp 106) 3 _ rfl (Vs.dep (hdep ⟨11, .data⟩ (by simp) rfl (by decide)) rfl) (tu_sp _ _ u)) rfl rfl hI)
                · intro a u vs hI hold hdep
                  exact opAt_go (j := 7) (t := 102) (b := true) rfl rfl (Vs.dep (hdep ⟨7, .guard⟩ (by simp) rfl (by decide)) rfl) (wp_still (ex_load _ ⟨gl, j * 12 + 5 + 3, none⟩ (.tmp 107) _ rfl (Vs.dep (hdep ⟨12, .data⟩ (by simp) rfl (by decide)) rfl) (ldP (HEN.out u (HBU.out.trans (hI.mono HBU.out.size))).bsp)) rfl rfl hI)
                · intro a u vs hI hold hdep
                  exact opAt_go (j := 7) (t := 102) (b := true) rfl rfl (Vs.dep (hdep ⟨7, .guard⟩ (by simp) rfl (by decide)) rfl) (wp_still (ex_move (.tmp 11) _ rfl (hold 11 (dlM (L := [95, 96, 97, 98, 99, 100, 101, 102, 103, 104, 105, 106, 107, 108, 109, 110, 111, 112, 113, 114, 115]) (by decide)))) rfl rfl hI)
                · intro a u vs hI hold hdep
                  exact opAt_go (j := 7) (t := 102) (b := true) rfl rfl (Vs.dep (hdep ⟨7, .guard⟩ (by simp) rfl (by decide)) rfl) (wp_still (ex_move (.tmp 12) _ rfl (hold 12 (dlM (L := [95, 96, 97, 98, 99, 100, 101, 102, 103, 104, 105, 106, 107, 108, 109, 110, 111, 112, 113, 114, 115]) (by decide)))) rfl rfl hI)
                · intro a u vs hI hold hdep
                  exact opAt_go (j := 7) (t := 102) (b := true) rfl rfl (Vs.dep (hdep ⟨7, .guard⟩ (by simp) rfl (by decide)) rfl) (wp_still (ex_index 41 (.tmp 109) (.tmp 110) _ _ _ rfl (Vs.dep (hdep ⟨14, .data⟩ (by simp) rfl (by decide)) rfl) (Vs.dep (hdep ⟨15, .data⟩ (by simp) rfl (by decide)) rfl) (idxFl HJM.out u)) rfl rfl hI)
                · intro a u vs hI hold hdep
                  exact opAt_go (j := 7) (t := 102) (b := true) rfl rfl (Vs.dep (hdep ⟨7, .guard⟩ (by simp) rfl (by decide)) rfl) (wp_still (ex_field _ ⟨gl, j * 12, none⟩ (.tmp 111) 1 _ rfl (Vs.dep (hdep ⟨16, .data⟩ (by simp) rfl (by decide)) rfl) (fl_bk _ _ u)) rfl rfl hI)
                · intro a u vs hI hold hdep
                  exact opAt_go (j := 7) (t := 102) (b := true) rfl rfl (Vs.dep (hdep ⟨7, .guard⟩ (by simp) rfl (by decide)) rfl) (wp_still (ex_field _ ⟨gl, j * 12 + 5, none⟩ (.tmp 112) 4 _ rfl (Vs.dep (hdep ⟨17, .data⟩ (by simp) rfl (by decide)) rfl) (tu_dp _ _ u)) rfl rfl hI)
                · intro a u vs hI hold hdep
                  exact opAt_go (j := 7) (t := 102) (b := true) rfl rfl (Vs.dep (hdep ⟨7, .guard⟩ (by simp) rfl (by decide)) rfl) (wp_still (ex_load _ ⟨gl, j * 12 + 5 + 4, none⟩ (.tmp 113) _ rfl (Vs.dep (hdep ⟨18, .data⟩ (by simp) rfl (by decide)) rfl) (ldP (HEN.out u (HBU.out.trans (hI.mono HBU.out.size))).bdp)) rfl rfl hI)
                · intro a u vs hI hold hdep
                  exact opAt_go (j := 7) (t := 102) (b := true) rfl rfl (Vs.dep (hdep ⟨7, .guard⟩ (by simp) rfl (by decide)) rfl) (wp_still (ex_ne16 (.tmp 108) (.tmp 114) _ _ _ false rfl (Vs.dep (hdep ⟨13, .data⟩ (by simp) rfl (by decide)) rfl) (Vs.dep (hdep ⟨19, .data⟩ (by simp) rfl (by decide)) rfl) HP2.out) rfl rfl hI)
              intro vs w9 hI hF
              have e0 : vs 0 = .slice (some ⟨gl, 0, none⟩) m cl := (Option.some.inj (hF 0 (by decide))).symm
              have e1 : vs 1 = .int .i64 (j : Int) := (Option.some.inj (hF 1 (by decide))).symm
              have e2 : vs 2 = .pointer (some ⟨gl, j * 12, none⟩) := (Option.some.inj (hF 2 (by decide))).symm
              have e3 : vs 3 = .pointer (some ⟨gl, j * 12 + 5, none⟩) := (Option.some.inj (hF 3 (by decide))).symm
              have e4 : vs 4 = .pointer (some ⟨gl, j * 12 + 5 + 2, none⟩) := (Option.some.inj (hF 4 (by decide))).symm
              have e5 : vs 5 = .int .u8 ((X.bk.p : Nat) : Int) := (Option.some.inj (hF 5 (by decide))).symm
              have e6 : vs 6 = .bool true := (Option.some.inj (hF 6 (by decide))).symm
              have e7 : vs 7 = .bool true := (Option.some.inj (hF 7 (by decide))).symm
              have e8 : vs 8 = .slice (some ⟨gl, 0, none⟩) m cl := (Option.some.inj (hF 8 (by decide))).symm
              have e9 : vs 9 = .int .i64 (j : Int) := (Option.some.inj (hF 9 (by decide))).symm
              have e10 : vs 10 = .pointer (some ⟨gl, j * 12, none⟩) := (Option.some.inj (hF 10 (by decide))).symm
              have e11 : vs 11 = .pointer (some ⟨gl, j * 12 + 5, none⟩) := (Option.some.inj (hF 11 (by decide))).symm
              have e12 : vs 12 = .pointer (some ⟨gl, j * 12 + 5 + 3, none⟩) := (Option.some.inj (hF 12 (by decide))).symm
              have e13 : vs 13 = .int .u16 ((X.bk.sp : Nat) : Int) := (Option.some.inj (hF 13 (by decide))).symm
              have e14 : vs 14 = .slice (some ⟨gl, 0, none⟩) m cl := (Option.some.inj (hF 14 (by decide))).symm
              have e15 : vs 15 = .int .i64 (j : Int) := (Option.some.inj (hF 15 (by decide))).symm
              have e16 : vs 16 = .pointer (some ⟨gl, j * 12, none⟩) := (Option.some.inj (hF 16 (by decide))).symm
              have e17 : vs 17 = .pointer (some ⟨gl, j * 12 + 5, none⟩) := (Option.some.inj (hF 17 (by decide))).symm
              have e18 : vs 18 = .pointer (some ⟨gl, j * 12 + 5 + 4, none⟩) := (Option.some.inj (hF 18 (by decide))).symm
              have e19 : vs 19 = .int .u16 ((X.bk.dp : Nat) : Int) := (Option.some.inj (hF 19 (by decide))).symm
              have e20 : vs 20 = .bool false := (Option.some.inj (hF 20 (by decide))).symm
              clear hF
              simp only [List.drop_succ_cons, List.drop_zero, puts, List.range, List.range.loop, List.foldr, if_true, List.getD_cons_zero, List.getD_cons_succ, e0, e1, e2, e3, e4, e5, e6, e7, e8, e9, e10, e11, e12, e13, e14, e15, e16, e17, e18, e19, e20, Act.put, List.setIfInBounds_toArray, List.set_cons_zero, List.set_cons_succ]
              clear e0 e1 e2 e3 e4 e5 e6 e7 e8 e9 e10 e11 e12 e13 e14 e15 e16 e17 e18 e19 e20
              have HB8 := hid (HBU.out.trans (hI.mono HBU.out.size))
              clear hI HBU HP1 HP2
              go_upto_region 26 with fail
              have HENX := hid (HEN.out w9 HB8.out)
              have HBK := hid HENX.out.bk
              have HMD := hid (madeO X.bk w9 HXF.out.2.1)
              go_wp2_with (first | (refine wpList_ld 37 ⟨gl, j * 12 + 5, none⟩ (.tmp 121) rfl rfl HBK.out rfl ?_) | fail)
              refine HMD.out.mono ?_
              rintro _ wa ⟨a6, n6, c6, rfl, hs6, hb6⟩
              have HB9 := hid (HB8.out.trans (hb6.mono HB8.out.size))
              have HLK := hid ((HT5.out.1.below HB9.out).lookMade HT5.out.2 HXF.out.2.1 (by rw [HXF.out.2.2.2]; exact HXF.out.2.2.1.1) HDS.out hs6 HL2.out)
              clear hs6 hb6 HMD HBK HENX
              go_wp2_with fail
              refine HLK.out.mono ?_
              rintro _ wb ⟨rfl, hb7⟩
              have HBb := hid (HB9.out.trans (hb7.mono HB9.out.size))
              clear hb7 HLK
              have HN7 : Hid ((wb.alloc (.cells #[.int .i64 0, .int .u32 0, .int .u32 0, .int .u8 0, .int .u16 0, .int .u16 0, .int .u32 0, .int .u32 0, .int .u8 0, .int .u16 0, .int .u16 0, .int .i64 0, .int .i64 0, .bool false] 47)).heap[wb.heap.size]? = some (.cells zTr 47 (0, 0))) := heap_alloc_new _ _
              go_upto_region 27 with (first | (refine wpList_st rfl 47 (.tmp 14) (.tmp 124) rfl wb.heap.size (trC 3 X false) rfl rfl _ zTr HN7.out (by kernel_rfl) rfl (trC_one _ _ _) ?_; intro w8 hw8 hbut8) | fail)
              have hb8 : Below wb.heap.size wb w8 := hbut8.below ((Below.refl _ _).alloc (Nat.le_refl _) _) (by simp) (Nat.le_refl _)
              obtain ⟨g14, HG14⟩ : ∃ g, Hid (g = wb.heap.size) := ⟨_, rfl⟩
              rw [← HG14.out] at hw8 ⊢
              have HBU := hid (HBb.out.trans (hb8.mono HBb.out.size))
              have HTRK : Hid (∀ u : World, Below w8.heap.size w8 u → (Instr.loadAt 47 (.pointer (some ⟨g14, 0, none⟩))).run Tryz.prog u = .ok (.agg (trC 3 X false)) u) := fun u hu => load_trO (below_keeps hu hw8 (Array.getElem?_eq_some_iff.1 hw8).1)
              clear hw8 hb8 hbut8 HN7
              refine wp_region_guarded' 6 (fun i => ([125, 126, 127, 128, 129, 130] : List Tmp).getD i 0) (Vs [.agg (trC 3 X false), .slice (some ⟨gl, 0, none⟩) m cl, .int .i64 (j : Int), .pointer (some ⟨gl, j * 12, none⟩), .agg X.cells, .agg (trC 3 X false)]) (fun u => Below w8.heap.size w8 u) (fun _ u u' => Below u.heap.size u u') (by kernel_rfl) (by kernel_rfl) ⟨rfl, rfl, rfl, Nat.le_refl _, fun _ _ => rfl⟩ (fun _ _ _ _ _ _ h _ _ => h) ?_ ?_
              · simp only [List.take_succ_cons, List.take_zero, stepsG]
                refine ⟨?_, ?_, ?_, ?_, ?_, ?_, trivial⟩
                · intro a u vs hI hold hdep
                  exact opAt_plain rfl (wp_still (ex_load _ ⟨g14, 0, none⟩ (.tmp 14) _ rfl (hold 14 (dlM (L := [125, 126, 127, 128, 129, 130]) (by decide))) ((HTRK.out u hI))) rfl rfl hI)
                · intro a u vs hI hold hdep
                  exact opAt_plain rfl (wp_still (ex_move (.tmp 11) _ rfl (hold 11 (dlM (L := [125, 126, 127, 128, 129, 130]) (by decide)))) rfl rfl hI)
                · intro a u vs hI hold hdep
                  exact opAt_plain rfl (wp_still (ex_move (.tmp 12) _ rfl (hold 12 (dlM (L := [125, 126, 127, 128, 129, 130]) (by decide)))) rfl rfl hI)
                · intro a u vs hI hold hdep
                  exact opAt_plain rfl (wp_still (ex_index 41 (.tmp 126) (.tmp 127) _ _ _ rfl (Vs.dep (hdep ⟨1, .data⟩ (by simp) rfl (by decide)) rfl) (Vs.dep (hdep ⟨2, .data⟩ (by simp) rfl (by decide)) rfl) (idxFl HJM.out u)) rfl rfl hI)
                · intro a u vs hI hold hdep
                  exact opAt_plain rfl (wp_still (ex_load _ ⟨gl, j * 12, none⟩ (.tmp 128) _ rfl (Vs.dep (hdep ⟨3, .data⟩ (by simp) rfl (by decide)) rfl) ((HEN.out u (HBU.out.trans (hI.mono HBU.out.size))).fl)) rfl rfl hI)
                · intro a u vs hI hold hdep
                  have x0 : a.eval (.tmp 129) = .agg X.cells := (Vs.dep (hdep ⟨4, .data⟩ (by simp) rfl (by decide)) rfl)
                  exact opAt_plain rfl (wp_still (ex_build 47 _ #[(0, .int .i64 3), (1, .agg X.cells)] _ rfl (by simp only [List.map_toArray, List.map_cons, List.map_nil, x0]; rfl) (build_tr2 3 X u)) rfl rfl hI)
              intro vs wz hI hF
              have e0 : vs 0 = .agg (trC 3 X false) := (Option.some.inj (hF 0 (by decide))).symm
              have e1 : vs 1 = .slice (some ⟨gl, 0, none⟩) m cl := (Option.some.inj (hF 1 (by decide))).symm
              have e2 : vs 2 = .int .i64 (j : Int) := (Option.some.inj (hF 2 (by decide))).symm
              have e3 : vs 3 = .pointer (some ⟨gl, j * 12, none⟩) := (Option.some.inj (hF 3 (by decide))).symm
              have e4 : vs 4 = .agg X.cells := (Option.some.inj (hF 4 (by decide))).symm
              have e5 : vs 5 = .agg (trC 3 X false) := (Option.some.inj (hF 5 (by decide))).symm
              clear hF
              simp only [List.drop_succ_cons, List.drop_zero, puts, List.range, List.range.loop, List.foldr, if_true, List.getD_cons_zero, List.getD_cons_succ, e0, e1, e2, e3, e4, e5, Act.put, List.setIfInBounds_toArray, List.set_cons_zero, List.set_cons_succ]
              clear e0 e1 e2 e3 e4 e5
              have HBz := hid (HBU.out.trans (hI.mono HBU.out.size))
              clear hI HTRK HBU
              go_wp2_with (first | (refine wpList_val (ex_neTr (.tmp 125) (.tmp 130) _ 3 X false rfl rfl rfl) rfl ?_) | fail)
              go_roundw
              case rel => exact ⟨j + 1, rfl, by omega, HBz⟩
              case measure => simp; omega
            · as_aux_lemma =>
                have HP2 : Hid ((!decide (((X.bk.sp : Nat) : Int) = ((X.bk.dp : Nat) : Int))) = true) := by unfold Hid; simp; omega
                clear hp1 hne
                refine wp_region_guarded' 21 (fun i => ([95, 96, 97, 98, 99, 100, 101, 102, 103, 104, 105, 106, 107, 108, 109, 110, 111, 112, 113, 114, 115] : List Tmp).getD i 0) (Vs [.slice (some ⟨gl, 0, none⟩) m cl, .int .i64 (j : Int), .pointer (some ⟨gl, j * 12, none⟩), .pointer (some ⟨gl, j * 12 + 5, none⟩), .pointer (some ⟨gl, j * 12 + 5 + 2, none⟩), .int .u8 ((X.bk.p : Nat) : Int), .bool true, .bool true, .slice (some ⟨gl, 0, none⟩) m cl, .int .i64 (j : Int), .pointer (some ⟨gl, j * 12, none⟩), .pointer (some ⟨gl, j * 12 + 5, none⟩), .pointer (some ⟨gl, j * 12 + 5 + 3, none⟩), .int .u16 ((X.bk.sp : Nat) : Int), .slice (some ⟨gl, 0, none⟩) m cl, .int .i64 (j : Int), .pointer (some ⟨gl, j * 12, none⟩), .pointer (some ⟨gl, j * 12 + 5, none⟩), .pointer (some ⟨gl, j * 12 + 5 + 4, none⟩), .int .u16 ((X.bk.dp : Nat) : Int), .bool true]) (fun u => Below wq.heap.size wq u) (fun _ u u' => Below u.heap.size u u') (by kernel_rfl) (by kernel_rfl) ⟨rfl, rfl, rfl, Nat.le_refl _, fun _ _ => rfl⟩ (fun _ _ _ _ _ _ h _ _ => h) ?_ ?_
                · simp only [List.take_succ_cons, List.take_zero, stepsG]
                  refine ⟨?_, ?_, ?_, ?_, ?_, ?_, ?_, ?_, ?_, ?_, ?_, ?_, ?_, ?_, ?_, ?_, ?_, ?_, ?_, ?_, ?_, trivial⟩
                  · intro a u vs hI hold hdep
                    exact opAt_plain rfl (wp_still (ex_move (.tmp 11) _ rfl (hold 11 (dlM (L := [95, 96, 97, 98, 99, 100, 101, 102, 103, 104, 105, 106, 107, 108, 109, 110, 111, 112, 113, 114, 115]) (by decide)))) rfl rfl hI)
                  · intro a u vs hI hold hdep
                    exact opAt_plain rfl (wp_still (ex_move (.tmp 12) _ rfl (hold 12 (dlM (L := [95, 96, 97, 98, 99, 100, 101, 102, 103, 104, 105, 106, 107, 108, 109, 110, 111, 112, 113, 114, 115]) (by decide)))) rfl rfl hI)
                  · intro a u vs hI hold hdep
                    exact opAt_plain rfl (wp_still (ex_index 41 (.tmp 95) (.tmp 96) _ _ _ rfl (Vs.dep (hdep ⟨0, .data⟩ (by simp) rfl (by decide)) rfl) (Vs.dep (hdep ⟨1, .data⟩ (by simp) rfl (by decide)) rfl) (idxFl HJM.out u)) rfl rfl hI)
                  · intro a u vs hI hold hdep
                    exact opAt_plain rfl (wp_still (ex_field _ ⟨gl, j * 12, none⟩ (.tmp 97) 1 _ rfl (Vs.dep (hdep ⟨2, .data⟩ (by simp) rfl (by decide)) rfl) (fl_bk _ _ u)) rfl rfl hI)
                  · intro a u vs hI hold hdep
                    exact opAt_plain rfl (wp_still (ex_field _ ⟨gl, j * 12 + 5, none⟩ (.tmp 98) 2 _ rfl (Vs.dep (hdep ⟨3, .data⟩ (by simp) rfl (by decide)) rfl) (tu_p _ _ u)) rfl rfl hI)
                  · intro a u vs hI hold hdep
                    exact opAt_plain rfl (wp_still (ex_load _ ⟨gl, j * 12 + 5 + 2, none⟩ (.tmp 99) _ rfl (Vs.dep (hdep ⟨4, .data⟩ (by simp) rfl (by decide)) rfl) (ldB (HEN.out u (HBU.out.trans (hI.mono HBU.out.size))).bp)) rfl rfl hI)
                  · intro a u vs hI hold hdep
                    exact opAt_plain rfl (wp_still (ex_eq8 (.tmp 100) (.const (.int .u8 1)) _ _ _ true rfl (Vs.dep (hdep ⟨5, .data⟩ (by simp) rfl (by decide)) rfl) rfl HP1.out) rfl rfl hI)
                  · intro a u vs hI hold hdep
                    exact opAt_plain rfl (wp_still (ex_move (.tmp 101) _ rfl (Vs.dep (hdep ⟨6, .data⟩ (by simp) rfl (by decide)) rfl)) rfl rfl hI)
                  · intro a u vs hI hold hdep
                    exact opAt_go (j := 7) (t := 102) (b := true) rfl rfl (Vs.dep (hdep ⟨7, .guard⟩ (by simp) rfl (by decide)) rfl) (wp_still (ex_move (.tmp 11) _ rfl (hold 11 (dlM (L := [95, 96, 97, 98, 99, 100, 101, 102, 103, 104, 105, 106, 107, 108, 109, 110, 111, 112, 113, 114, 115]) (by decide)))) rfl rfl hI)
                  · intro a u vs hI hold hdep
                    exact opAt_go (j := 7) (t := 102) (b := true) rfl rfl (Vs.dep (hdep ⟨7, .guard⟩ (by simp) rfl (by decide)) rfl) (wp_still (ex_move (.tmp 12) _ rfl (hold 12 (dlM (L := [95, 96, 97, 98, 99, 100, 101, 102, 103, 104, 105, 106, 107, 108, 109, 110, 111, 112, 113, 114, 115]) (by decide)))) rfl rfl hI)
                  · intro a u vs hI hold hdep
                    exact opAt_go (j := 7) (t := 102) (b := true) rfl rfl (Vs.dep (hdep ⟨7, .guard⟩ (by simp) rfl (by decide)) rfl) (wp_still (ex_index 41 (.tmp 103) (.tmp 104) _ _ _ rfl (Vs.dep (hdep ⟨8, .data⟩ (by simp) rfl (by decide)) rfl) (Vs.dep (hdep ⟨9, .data⟩ (by simp) rfl (by decide)) rfl) (idxFl HJM.out u)) rfl rfl hI)
                  · intro a u vs hI hold hdep
                    exact opAt_go (j := 7) (t := 102) (b := true) rfl rfl (Vs.dep (hdep ⟨7, .guard⟩ (by simp) rfl (by decide)) rfl) (wp_still (ex_field _ ⟨gl, j * 12, none⟩ (.tmp 105) 1 _ rfl (Vs.dep (hdep ⟨10, .data⟩ (by simp) rfl (by decide)) rfl) (fl_bk _ _ u)) rfl rfl hI)
                  · intro a u vs hI hold hdep
                    exact opAt_go (j := 7) (t := 102) (b := true) rfl rfl (Vs.dep (hdep ⟨7, .guard⟩ (by simp) rfl (by decide)) rfl) (wp_still (ex_field _ ⟨gl, j * 12 + 5, none⟩ (.tmp 106) 3 _ rfl (Vs.dep (hdep ⟨11, .data⟩ (by simp) rfl (by decide)) rfl) (tu_sp _ _ u)) rfl rfl hI)
                  · intro a u vs hI hold hdep
                    exact opAt_go (j := 7) (t := 102) (b := true) rfl rfl (Vs.dep (hdep ⟨7, .guard⟩ (by simp) rfl (by decide)) rfl) (wp_still (ex_load _ ⟨gl, j * 12 + 5 + 3, none⟩ (.tmp 107) _ rfl (Vs.dep (hdep ⟨12, .data⟩ (by simp) rfl (by decide)) rfl) (ldP (HEN.out u (HBU.out.trans (hI.mono HBU.out.size))).bsp)) rfl rfl hI)
                  · intro a u vs hI hold hdep
                    exact opAt_go (j := 7) (t := 102) (b := true) rfl rfl (Vs.dep (hdep ⟨7, .guard⟩ (by simp) rfl (by decide)) rfl) (wp_still (ex_move (.tmp 11) _ rfl (hold 11 (dlM (L := [95, 96, 97, 98, 99, 100, 101, 102, 103, 104, 105, 106, 107, 108, 109, 110, 111, 112, 113, 114, 115]) (by decide)))) rfl rfl hI)
                  · intro a u vs hI hold hdep
                    exact opAt_go (j := 7) (t := 102) (b := true) rfl rfl (Vs.dep (hdep ⟨7, .guard⟩ (by simp) rfl (by decide)) rfl) (wp_still (ex_move (.tmp 12) _ rfl (hold 12 (dlM (L := [95, 96, 97, 98, 99, 100, 101, 102, 103, 104, 105, 106, 107, 108, 109, 110, 111, 112, 113, 114, 115]) (by decide)))) rfl rfl hI)
                  · intro a u vs hI hold hdep
                    exact opAt_go (j := 7) (t := 102) (b := true) rfl rfl (Vs.dep (hdep ⟨7, .guard⟩ (by simp) rfl (by decide)) rfl) (wp_still (ex_index 41 (.tmp 109) (.tmp 110) _ _ _ rfl (Vs.dep (hdep ⟨14, .data⟩ (by simp) rfl (by decide)) rfl) (Vs.dep (hdep ⟨15, .data⟩ (by simp) rfl (by decide)) rfl) (idxFl HJM.out u)) rfl rfl hI)
                  · intro a u vs hI hold hdep
                    exact opAt_go (j := 7) (t := 102) (b := true) rfl rfl (Vs.dep (hdep ⟨7, .guard⟩ (by simp) rfl (by decide)) rfl) (wp_still (ex_field _ ⟨gl, j * 12, none⟩ (.tmp 111) 1 _ rfl (Vs.dep (hdep ⟨16, .data⟩ (by simp) rfl (by decide)) rfl) (fl_bk _ _ u)) rfl rfl hI)
                  · intro a u vs hI hold hdep
                    exact opAt_go (j := 7) (t := 102) (b := true) rfl rfl (Vs.dep (hdep ⟨7, .guard⟩ (by simp) rfl (by decide)) rfl) (wp_still (ex_field _ ⟨gl, j * 12 + 5, none⟩ (.tmp 112) 4 _ rfl (Vs.dep (hdep ⟨17, .data⟩ (by simp) rfl (by decide)) rfl) (tu_dp _ _ u)) rfl rfl hI)
                  · intro a u vs hI hold hdep
                    exact opAt_go (j := 7) (t := 102) (b := true) rfl rfl (Vs.dep (hdep ⟨7, .guard⟩ (by simp) rfl (by decide)) rfl) (wp_still (ex_load _ ⟨gl, j * 12 + 5 + 4, none⟩ (.tmp 113) _ rfl (Vs.dep (hdep ⟨18, .data⟩ (by simp) rfl (by decide)) rfl) (ldP (HEN.out u (HBU.out.trans (hI.mono HBU.out.size))).bdp)) rfl rfl hI)
                  · intro a u vs hI hold hdep
                    exact opAt_go (j := 7) (t := 102) (b := true) rfl rfl (Vs.dep (hdep ⟨7, .guard⟩ (by simp) rfl (by decide)) rfl) (wp_still (ex_ne16 (.tmp 108) (.tmp 114) _ _ _ true rfl (Vs.dep (hdep ⟨13, .data⟩ (by simp) rfl (by decide)) rfl) (Vs.dep (hdep ⟨19, .data⟩ (by simp) rfl (by decide)) rfl) HP2.out) rfl rfl hI)
                intro vs w9 hI hF
                have e0 : vs 0 = .slice (some ⟨gl, 0, none⟩) m cl := (Option.some.inj (hF 0 (by decide))).symm
                have e1 : vs 1 = .int .i64 (j : Int) := (Option.some.inj (hF 1 (by decide))).symm
                have e2 : vs 2 = .pointer (some ⟨gl, j * 12, none⟩) := (Option.some.inj (hF 2 (by decide))).symm
                have e3 : vs 3 = .pointer (some ⟨gl, j * 12 + 5, none⟩) := (Option.some.inj (hF 3 (by decide))).symm
                have e4 : vs 4 = .pointer (some ⟨gl, j * 12 + 5 + 2, none⟩) := (Option.some.inj (hF 4 (by decide))).symm
                have e5 : vs 5 = .int .u8 ((X.bk.p : Nat) : Int) := (Option.some.inj (hF 5 (by decide))).symm
                have e6 : vs 6 = .bool true := (Option.some.inj (hF 6 (by decide))).symm
                have e7 : vs 7 = .bool true := (Option.some.inj (hF 7 (by decide))).symm
                have e8 : vs 8 = .slice (some ⟨gl, 0, none⟩) m cl := (Option.some.inj (hF 8 (by decide))).symm
                have e9 : vs 9 = .int .i64 (j : Int) := (Option.some.inj (hF 9 (by decide))).symm
                have e10 : vs 10 = .pointer (some ⟨gl, j * 12, none⟩) := (Option.some.inj (hF 10 (by decide))).symm
                have e11 : vs 11 = .pointer (some ⟨gl, j * 12 + 5, none⟩) := (Option.some.inj (hF 11 (by decide))).symm
                have e12 : vs 12 = .pointer (some ⟨gl, j * 12 + 5 + 3, none⟩) := (Option.some.inj (hF 12 (by decide))).symm
                have e13 : vs 13 = .int .u16 ((X.bk.sp : Nat) : Int) := (Option.some.inj (hF 13 (by decide))).symm
                have e14 : vs 14 = .slice (some ⟨gl, 0, none⟩) m cl := (Option.some.inj (hF 14 (by decide))).symm
                have e15 : vs 15 = .int .i64 (j : Int) := (Option.some.inj (hF 15 (by decide))).symm
                have e16 : vs 16 = .pointer (some ⟨gl, j * 12, none⟩) := (Option.some.inj (hF 16 (by decide))).symm
                have e17 : vs 17 = .pointer (some ⟨gl, j * 12 + 5, none⟩) := (Option.some.inj (hF 17 (by decide))).symm
                have e18 : vs 18 = .pointer (some ⟨gl, j * 12 + 5 + 4, none⟩) := (Option.some.inj (hF 18 (by decide))).symm
                have e19 : vs 19 = .int .u16 ((X.bk.dp : Nat) : Int) := (Option.some.inj (hF 19 (by decide))).symm
                have e20 : vs 20 = .bool true := (Option.some.inj (hF 20 (by decide))).symm
                clear hF
                simp only [List.drop_succ_cons, List.drop_zero, puts, List.range, List.range.loop, List.foldr, if_true, List.getD_cons_zero, List.getD_cons_succ, e0, e1, e2, e3, e4, e5, e6, e7, e8, e9, e10, e11, e12, e13, e14, e15, e16, e17, e18, e19, e20, Act.put, List.setIfInBounds_toArray, List.set_cons_zero, List.set_cons_succ]
                clear e0 e1 e2 e3 e4 e5 e6 e7 e8 e9 e10 e11 e12 e13 e14 e15 e16 e17 e18 e19 e20
                have HB8 := hid (HBU.out.trans (hI.mono HBU.out.size))
                clear hI HBU HP1 HP2
                go_wp2_with fail
                go_roundw
                case rel => exact ⟨j + 1, rfl, by omega, HB8⟩
                case measure => simp; omega
          · have HP1 : Hid (decide (((X.bk.p : Nat) : Int) = 1) = false) := by unfold Hid; simp; omega
            have HDS : Hid (X.bk.p = 1 → X.bk.dp = X.bk.sp) := fun e => absurd e hp1
            clear hp1
            refine wp_region_guarded' 21 (fun i => ([95, 96, 97, 98, 99, 100, 101, 102, 103, 104, 105, 106, 107, 108, 109, 110, 111, 112, 113, 114, 115] : List Tmp).getD i 0) (Vs [.slice (some ⟨gl, 0, none⟩) m cl, .int .i64 (j : Int), .pointer (some ⟨gl, j * 12, none⟩), .pointer (some ⟨gl, j * 12 + 5, none⟩), .pointer (some ⟨gl, j * 12 + 5 + 2, none⟩), .int .u8 ((X.bk.p : Nat) : Int), .bool false, .bool false, undef, undef, undef, undef, undef, undef, undef, undef, undef, undef, undef, undef, undef]) (fun u => Below wq.heap.size wq u) (fun _ u u' => Below u.heap.size u u') (by kernel_rfl) (by kernel_rfl) ⟨rfl, rfl, rfl, Nat.le_refl _, fun _ _ => rfl⟩ (fun _ _ _ _ _ _ h _ _ => h) ?_ ?_
            · simp only [List.take_succ_cons, List.take_zero, stepsG]
              refine ⟨?_, ?_, ?_, ?_, ?_, ?_, ?_, ?_, ?_, ?_, ?_, ?_, ?_, ?_, ?_, ?_, ?_, ?_, ?_, ?_, ?_, trivial⟩
              · intro a u vs hI hold hdep
                exact opAt_plain rfl (wp_still (ex_move (.tmp 11) _ rfl (hold 11 (dlM (L := [95, 96, 97, 98, 99, 100, 101, 102, 103, 104, 105, 106, 107, 108, 109, 110, 111, 112, 113, 114, 115]) (by decide)))) rfl rfl hI)
              · intro a u vs hI hold hdep
                exact opAt_plain rfl (wp_still (ex_move (.tmp 12) _ rfl (hold 12 (dlM (L := [95, 96, 97, 98, 99, 100, 101, 102, 103, 104, 105, 106, 107, 108, 109, 110, 111, 112, 113, 114, 115]) (by decide)))) rfl rfl hI)
              · intro a u vs hI hold hdep
                exact opAt_plain rfl (wp_still (ex_index 41 (.tmp 95) (.tmp 96) _ _ _ rfl (Vs.dep (hdep ⟨0, .data⟩ (by simp) rfl (by decide)) rfl) (Vs.dep (hdep ⟨1, .data⟩ (by simp) rfl (by decide)) rfl) (idxFl HJM.out u)) rfl rfl hI)
              · intro a u vs hI hold hdep
                exact opAt_plain rfl (wp_still (ex_field _ ⟨gl, j * 12, none⟩ (.tmp 97) 1 _ rfl (Vs.dep (hdep ⟨2, .data⟩ (by simp) rfl (by decide)) rfl) (fl_bk _ _ u)) rfl rfl hI)
              · intro a u vs hI hold hdep
                exact opAt_plain rfl (wp_still (ex_field _ ⟨gl, j * 12 + 5, none⟩ (.tmp 98) 2 _ rfl (Vs.dep (hdep ⟨3, .data⟩ (by simp) rfl (by decide)) rfl) (tu_p _ _ u)) rfl rfl hI)
              · intro a u vs hI hold hdep
                exact opAt_plain rfl (wp_still (ex_load _ ⟨gl, j * 12 + 5 + 2, none⟩ (.tmp 99) _ rfl (Vs.dep (hdep ⟨4, .data⟩ (by simp) rfl (by decide)) rfl) (ldB (HEN.out u (HBU.out.trans (hI.mono HBU.out.size))).bp)) rfl rfl hI)
              · intro a u vs hI hold hdep
                exact opAt_plain rfl (wp_still (ex_eq8 (.tmp 100) (.const (.int .u8 1)) _ _ _ false rfl (Vs.dep (hdep ⟨5, .data⟩ (by simp) rfl (by decide)) rfl) rfl HP1.out) rfl rfl hI)
              · intro a u vs hI hold hdep
                exact opAt_plain rfl (wp_still (ex_move (.tmp 101) _ rfl (Vs.dep (hdep ⟨6, .data⟩ (by simp) rfl (by decide)) rfl)) rfl rfl hI)
              · intro a u vs hI hold hdep
                exact opAt_skip (j := 7) (t := 102) (b := true) rfl rfl (Vs.dep (hdep ⟨7, .guard⟩ (by simp) rfl (by decide)) rfl) ⟨_, rfl, rfl, hI, Below.refl _ _⟩
              · intro a u vs hI hold hdep
                exact opAt_skip (j := 7) (t := 102) (b := true) rfl rfl (Vs.dep (hdep ⟨7, .guard⟩ (by simp) rfl (by decide)) rfl) ⟨_, rfl, rfl, hI, Below.refl _ _⟩
              · intro a u vs hI hold hdep
                exact opAt_skip (j := 7) (t := 102) (b := true) rfl rfl (Vs.dep (hdep ⟨7, .guard⟩ (by simp) rfl (by decide)) rfl) ⟨_, rfl, rfl, hI, Below.refl _ _⟩
              · intro a u vs hI hold hdep
                exact opAt_skip (j := 7) (t := 102) (b := true) rfl rfl (Vs.dep (hdep ⟨7, .guard⟩ (by simp) rfl (by decide)) rfl) ⟨_, rfl, rfl, hI, Below.refl _ _⟩
              · intro a u vs hI hold hdep
                exact opAt_skip (j := 7) (t := 102) (b := true) rfl rfl (Vs.dep (hdep ⟨7, .guard⟩ (by simp) rfl (by decide)) rfl) ⟨_, rfl, rfl, hI, Below.refl _ _⟩
              · intro a u vs hI hold hdep
                exact opAt_skip (j := 7) (t := 102) (b := true) rfl rfl (Vs.dep (hdep ⟨7, .guard⟩ (by simp) rfl (by decide)) rfl) ⟨_, rfl, rfl, hI, Below.refl _ _⟩
              · intro a u vs hI hold hdep
                exact opAt_skip (j := 7) (t := 102) (b := true) rfl rfl (Vs.dep (hdep ⟨7, .guard⟩ (by simp) rfl (by decide)) rfl) ⟨_, rfl, rfl, hI, Below.refl _ _⟩
              · intro a u vs hI hold hdep
                exact opAt_skip (j := 7) (t := 102) (b := true) rfl rfl (Vs.dep (hdep ⟨7, .guard⟩ (by simp) rfl (by decide)) rfl) ⟨_, rfl, rfl, hI, Below.refl _ _⟩
              · intro a u vs hI hold hdep
                exact opAt_skip (j := 7) (t := 102) (b := true) rfl rfl (Vs.dep (hdep ⟨7, .guard⟩ (by simp) rfl (by decide)) rfl) ⟨_, rfl, rfl, hI, Below.refl _ _⟩
              · intro a u vs hI hold hdep
                exact opAt_skip (j := 7) (t := 102) (b := true) rfl rfl (Vs.dep (hdep ⟨7, .guard⟩ (by simp) rfl (by decide)) rfl) ⟨_, rfl, rfl, hI, Below.refl _ _⟩
              · intro a u vs hI hold hdep
                exact opAt_skip (j := 7) (t := 102) (b := true) rfl rfl (Vs.dep (hdep ⟨7, .guard⟩ (by simp) rfl (by decide)) rfl) ⟨_, rfl, rfl, hI, Below.refl _ _⟩
              · intro a u vs hI hold hdep
                exact opAt_skip (j := 7) (t := 102) (b := true) rfl rfl (Vs.dep (hdep ⟨7, .guard⟩ (by simp) rfl (by decide)) rfl) ⟨_, rfl, rfl, hI, Below.refl _ _⟩
              · intro a u vs hI hold hdep
                exact opAt_skip (j := 7) (t := 102) (b := true) rfl rfl (Vs.dep (hdep ⟨7, .guard⟩ (by simp) rfl (by decide)) rfl) ⟨_, rfl, rfl, hI, Below.refl _ _⟩
            intro vs w9 hI hF
            have e0 : vs 0 = .slice (some ⟨gl, 0, none⟩) m cl := (Option.some.inj (hF 0 (by decide))).symm
            have e1 : vs 1 = .int .i64 (j : Int) := (Option.some.inj (hF 1 (by decide))).symm
            have e2 : vs 2 = .pointer (some ⟨gl, j * 12, none⟩) := (Option.some.inj (hF 2 (by decide))).symm
            have e3 : vs 3 = .pointer (some ⟨gl, j * 12 + 5, none⟩) := (Option.some.inj (hF 3 (by decide))).symm
            have e4 : vs 4 = .pointer (some ⟨gl, j * 12 + 5 + 2, none⟩) := (Option.some.inj (hF 4 (by decide))).symm
            have e5 : vs 5 = .int .u8 ((X.bk.p : Nat) : Int) := (Option.some.inj (hF 5 (by decide))).symm
            have e6 : vs 6 = .bool false := (Option.some.inj (hF 6 (by decide))).symm
            have e7 : vs 7 = .bool false := (Option.some.inj (hF 7 (by decide))).symm
            have e8 : vs 8 = undef := (Option.some.inj (hF 8 (by decide))).symm
            have e9 : vs 9 = undef := (Option.some.inj (hF 9 (by decide))).symm
            have e10 : vs 10 = undef := (Option.some.inj (hF 10 (by decide))).symm
            have e11 : vs 11 = undef := (Option.some.inj (hF 11 (by decide))).symm
            have e12 : vs 12 = undef := (Option.some.inj (hF 12 (by decide))).symm
            have e13 : vs 13 = undef := (Option.some.inj (hF 13 (by decide))).symm
            have e14 : vs 14 = undef := (Option.some.inj (hF 14 (by decide))).symm
            have e15 : vs 15 = undef := (Option.some.inj (hF 15 (by decide))).symm
            have e16 : vs 16 = undef := (Option.some.inj (hF 16 (by decide))).symm
            have e17 : vs 17 = undef := (Option.some.inj (hF 17 (by decide))).symm
            have e18 : vs 18 = undef := (Option.some.inj (hF 18 (by decide))).symm
            have e19 : vs 19 = undef := (Option.some.inj (hF 19 (by decide))).symm
            have e20 : vs 20 = undef := (Option.some.inj (hF 20 (by decide))).symm
            clear hF
            simp only [List.drop_succ_cons, List.drop_zero, puts, List.range, List.range.loop, List.foldr, if_true, List.getD_cons_zero, List.getD_cons_succ, e0, e1, e2, e3, e4, e5, e6, e7, e8, e9, e10, e11, e12, e13, e14, e15, e16, e17, e18, e19, e20, Act.put, List.setIfInBounds_toArray, List.set_cons_zero, List.set_cons_succ]
            clear e0 e1 e2 e3 e4 e5 e6 e7 e8 e9 e10 e11 e12 e13 e14 e15 e16 e17 e18 e19 e20
            have HB8 := hid (HBU.out.trans (hI.mono HBU.out.size))
            clear hI HBU HP1
            go_upto_region 26 with fail
            have HENX := hid (HEN.out w9 HB8.out)
            have HBK := hid HENX.out.bk
            have HMD := hid (madeO X.bk w9 HXF.out.2.1)
            go_wp2_with (first | (refine wpList_ld 37 ⟨gl, j * 12 + 5, none⟩ (.tmp 121) rfl rfl HBK.out rfl ?_) | fail)
            refine HMD.out.mono ?_
            rintro _ wa ⟨a6, n6, c6, rfl, hs6, hb6⟩
            have HB9 := hid (HB8.out.trans (hb6.mono HB8.out.size))
            have HLK := hid ((HT5.out.1.below HB9.out).lookMade HT5.out.2 HXF.out.2.1 (by rw [HXF.out.2.2.2]; exact HXF.out.2.2.1.1) HDS.out hs6 HL2.out)
            clear hs6 hb6 HMD HBK HENX
            go_wp2_with fail
            refine HLK.out.mono ?_
            rintro _ wb ⟨rfl, hb7⟩
            have HBb := hid (HB9.out.trans (hb7.mono HB9.out.size))
            clear hb7 HLK
            have HN7 : Hid ((wb.alloc (.cells #[.int .i64 0, .int .u32 0, .int .u32 0, .int .u8 0, .int .u16 0, .int .u16 0, .int .u32 0, .int .u32 0, .int .u8 0, .int .u16 0, .int .u16 0, .int .i64 0, .int .i64 0, .bool false] 47)).heap[wb.heap.size]? = some (.cells zTr 47 (0, 0))) := heap_alloc_new _ _
            go_upto_region 27 with (first | (refine wpList_st rfl 47 (.tmp 14) (.tmp 124) rfl wb.heap.size (trC 3 X false) rfl rfl _ zTr HN7.out (by kernel_rfl) rfl (trC_one _ _ _) ?_; intro w8 hw8 hbut8) | fail)
            have hb8 : Below wb.heap.size wb w8 := hbut8.below ((Below.refl _ _).alloc (Nat.le_refl _) _) (by simp) (Nat.le_refl _)
            obtain ⟨g14, HG14⟩ : ∃ g, Hid (g = wb.heap.size) := ⟨_, rfl⟩
            rw [← HG14.out] at hw8 ⊢
            have HBU := hid (HBb.out.trans (hb8.mono HBb.out.size))
            have HTRK : Hid (∀ u : World, Below w8.heap.size w8 u → (Instr.loadAt 47 (.pointer (some ⟨g14, 0, none⟩))).run Tryz.prog u = .ok (.agg (trC 3 X false)) u) := fun u hu => load_trO (below_keeps hu hw8 (Array.getElem?_eq_some_iff.1 hw8).1)
            clear hw8 hb8 hbut8 HN7
            refine wp_region_guarded' 6 (fun i => ([125, 126, 127, 128, 129, 130] : List Tmp).getD i 0) (Vs [.agg (trC 3 X false), .slice (some ⟨gl, 0, none⟩) m cl, .int .i64 (j : Int), .pointer (some ⟨gl, j * 12, none⟩), .agg X.cells, .agg (trC 3 X false)]) (fun u => Below w8.heap.size w8 u) (fun _ u u' => Below u.heap.size u u') (by kernel_rfl) (by kernel_rfl) ⟨rfl, rfl, rfl, Nat.le_refl _, fun _ _ => rfl⟩ (fun _ _ _ _ _ _ h _ _ => h) ?_ ?_
            · simp only [List.take_succ_cons, List.take_zero, stepsG]
              refine ⟨?_, ?_, ?_, ?_, ?_, ?_, trivial⟩
              · intro a u vs hI hold hdep
                exact opAt_plain rfl (wp_still (ex_load _ ⟨g14, 0, none⟩ (.tmp 14) _ rfl (hold 14 (dlM (L := [125, 126, 127, 128, 129, 130]) (by decide))) ((HTRK.out u hI))) rfl rfl hI)
              · intro a u vs hI hold hdep
                exact opAt_plain rfl (wp_still (ex_move (.tmp 11) _ rfl (hold 11 (dlM (L := [125, 126, 127, 128, 129, 130]) (by decide)))) rfl rfl hI)
              · intro a u vs hI hold hdep
                exact opAt_plain rfl (wp_still (ex_move (.tmp 12) _ rfl (hold 12 (dlM (L := [125, 126, 127, 128, 129, 130]) (by decide)))) rfl rfl hI)
              · intro a u vs hI hold hdep
                exact opAt_plain rfl (wp_still (ex_index 41 (.tmp 126) (.tmp 127) _ _ _ rfl (Vs.dep (hdep ⟨1, .data⟩ (by simp) rfl (by decide)) rfl) (Vs.dep (hdep ⟨2, .data⟩ (by simp) rfl (by decide)) rfl) (idxFl HJM.out u)) rfl rfl hI)
              · intro a u vs hI hold hdep
                exact opAt_plain rfl (wp_still (ex_load _ ⟨gl, j * 12, none⟩ (.tmp 128) _ rfl (Vs.dep (hdep ⟨3, .data⟩ (by simp) rfl (by decide)) rfl) ((HEN.out u (HBU.out.trans (hI.mono HBU.out.size))).fl)) rfl rfl hI)
              · intro a u vs hI hold hdep
                have x0 : a.eval (.tmp 129) = .agg X.cells := (Vs.dep (hdep ⟨4, .data⟩ (by simp) rfl (by decide)) rfl)
                exact opAt_plain rfl (wp_still (ex_build 47 _ #[(0, .int .i64 3), (1, .agg X.cells)] _ rfl (by simp only [List.map_toArray, List.map_cons, List.map_nil, x0]; rfl) (build_tr2 3 X u)) rfl rfl hI)
            intro vs wz hI hF
            have e0 : vs 0 = .agg (trC 3 X false) := (Option.some.inj (hF 0 (by decide))).symm
            have e1 : vs 1 = .slice (some ⟨gl, 0, none⟩) m cl := (Option.some.inj (hF 1 (by decide))).symm
            have e2 : vs 2 = .int .i64 (j : Int) := (Option.some.inj (hF 2 (by decide))).symm
            have e3 : vs 3 = .pointer (some ⟨gl, j * 12, none⟩) := (Option.some.inj (hF 3 (by decide))).symm
            have e4 : vs 4 = .agg X.cells := (Option.some.inj (hF 4 (by decide))).symm
            have e5 : vs 5 = .agg (trC 3 X false) := (Option.some.inj (hF 5 (by decide))).symm
            clear hF
            simp only [List.drop_succ_cons, List.drop_zero, puts, List.range, List.range.loop, List.foldr, if_true, List.getD_cons_zero, List.getD_cons_succ, e0, e1, e2, e3, e4, e5, Act.put, List.setIfInBounds_toArray, List.set_cons_zero, List.set_cons_succ]
            clear e0 e1 e2 e3 e4 e5
            have HBz := hid (HBU.out.trans (hI.mono HBU.out.size))
            clear hI HTRK HBU
            go_wp2_with (first | (refine wpList_val (ex_neTr (.tmp 125) (.tmp 130) _ 3 X false rfl rfl rfl) rfl ?_) | fail)
            go_roundw
            case rel => exact ⟨j + 1, rfl, by omega, HBz⟩
            case measure => simp; omega
      · as_aux_lemma =>
          have hj1 : ¬ (j : Int) < (m : Int) := by omega
          have HTE := hid (HT5.out.1.below HB.out)
          have HLI := hid (HTE.out.list hm2 HT5.out.2)
          have HOE := hid (HOW.out.below HB.out)
          go_wp2_with fail
          refine HLI.out.mono ?_
          rintro _ w6 ⟨a6, n6, c6, R6, rfl, hp6, hs6, ho6, hb6⟩
          obtain rfl : R = R6 := list_twice HT5.out.1.inv HPE.out hp6 HSO.out hs6
          have HSF := hid (sameF_any w6 _ _ al a6 m n6 cl c6 R (HOE.out.below hb6) ho6 (by have := HRL.out; omega))
          have HB6 := hid (HTE.out.bel.trans (hb6.mono HTE.out.bel.size))
          clear hp6 hs6 ho6 hb6
          go_wp2_with fail
          refine HSF.out.mono ?_
          rintro _ w7 ⟨rfl, hb7⟩
          have HB7 := hid (HB6.out.trans (hb7.mono HB6.out.size))
          clear hb7
          go_wp2_with fail
          go_ret
          exact ⟨rfl, HB7.out⟩
end Go.Proofs.YtkkfioebpppffaaGreatDoor.Fl
