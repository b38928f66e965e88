/-
  The reference: holds, Find.
-/
import Derived.Test.YtmnafocmbcgdiabWM
import Derived.Test.YtmnafocmbcgdiabWTM
namespace Go.Proofs.Ytmnafocmbcgdiab
open Go.ChangeShapes Go.WideShapes Go.ChangeAt Go.RowKit Tri N
set_option maxHeartbeats 4000000
set_option maxRecDepth 100000

theorem holdsR_any {p : K} (a : Nat) (w : World) (hp : p.Ok) (ha : a < 4294967296) :
    Calls Try.prog 59 #[pv p, .int .u32 (a : Int)] w fun e w' => e = .returned (.bool (hasK p a)) ∧ Below w.heap.size w w' := by
  obtain ⟨wa, hwa⟩ : ∃ wa, wa = w.alloc (.cells #[.int .u32 (p.x : Int), .int .i64 (p.n : Int)] 31) := ⟨_, rfl⟩
  have hb0 : Below w.heap.size w wa := by rw [hwa]; exact (Below.refl _ _).alloc (Nat.le_refl _) _
  have r1 : wa.heap[w.heap.size]? = some (.cells #[.int .u32 (p.x : Int), .int .i64 (p.n : Int)] 31) := by rw [hwa]; exact heap_alloc_new w _
  obtain ⟨q0, q1⟩ := Beh.two r1
  have HWA := hid hwa
  have HB0 := hid hb0
  have hx := hp.2.2
  have hS : ∀ t : Beh wa, Hid (Calls Try.prog 60 #[.int .i64 (p.n : Int)] t.wd fun e w'' => e = .returned (.int .i64 ((2 ^ (32 - p.n) : Nat) : Int)) ∧ ∃ t' : Beh wa, w'' = t'.wd) := fun t => (size_ref p.n t.wd hp.1).mono fun e w'' ⟨he, hw⟩ => ⟨he, t, hw⟩
  have hle := pow_le32 p.n
  have HH : Hid (hasK p a = (decide (p.x ≤ a) && decide (a < p.x + 2 ^ (32 - p.n)))) := by
    unfold Hid hasK K.s
    rw [Bool.eq_iff_iff]
    simp
  unfold pv
  clear hwa r1 hb0 hp
  generalize hasK p a = R at *
  generalize 2 ^ (32 - p.n) = S at *
  generalize p.x = px at *
  generalize p.n = pn at *
  by_cases h1 : px ≤ a
  · have h1' : (px : Int) ≤ (a : Int) := by omega
    have HF : Hid (R = decide ((a : Int) < (px : Int) + (S : Int))) := by
      unfold Hid
      rw [HH.out, Bool.eq_iff_iff]
      simp [h1]
      omega
    clear HH h1
    go_enter Try.func59, Try.ntmps59
    go_upto_region 1 with fail
    rw [← HWA.out]
    refine wp_region_beh (by kernel_rfl) (by kernel_rfl) ?_
    repeat (go_big_quiet_step (first | (go_at_call 60; exact (hS _).out)))
    refine wpQuiet_nil ?_
    rintro _ ⟨t, rfl⟩
    go_wp2_with fail
    go_ret
    exact ⟨ret_bool HF.out.symm, HB0.out.trans (t.ok.mono HB0.out.size)⟩
  · have h1' : ¬ (px : Int) ≤ (a : Int) := by omega
    have HF : Hid (R = false) := by
      unfold Hid
      rw [HH.out]
      simp [h1]
    clear HH h1
    go_enter Try.func59, Try.ntmps59
    go_upto_region 1 with fail
    rw [← HWA.out]
    refine wp_region_beh (by kernel_rfl) (by kernel_rfl) ?_
    repeat (go_big_quiet_step (first | (go_at_call 60; exact (hS _).out)))
    refine wpQuiet_nil ?_
    rintro _ ⟨t, rfl⟩
    go_wp2_with fail
    go_ret
    exact ⟨ret_bool HF.out.symm, HB0.out.trans (t.ok.mono HB0.out.size)⟩

theorem fld_rT {b : Nat} (u : World) : (Instr.fieldAt 92 (.pointer (some ⟨b, 0, none⟩)) 0).run Try.prog u = .ok (.pointer (some ⟨b, 0, none⟩)) u := by
  simp [go_sem]
theorem fld_rE {b o : Nat} (u : World) : (Instr.fieldAt 77 (.pointer (some ⟨b, o, none⟩)) 0).run Try.prog u = .ok (.pointer (some ⟨b, o, none⟩)) u ∧ (Instr.fieldAt 77 (.pointer (some ⟨b, o, none⟩)) 1).run Try.prog u = .ok (.pointer (some ⟨b, o + 2, none⟩)) u := by
  simp [go_sem]
theorem load_sE {u : World} {p : Addr} {a : Option Addr} {n c : Nat} (h : u.cell? p = some (.slice a n c)) : (Instr.loadAt 73 (.pointer (some p))).run Try.prog u = .ok (.slice a n c) u := by
  simp [go_sem, h]

def dstY (i : Nat) : Option Tmp := [some 57, some 58, some 59, some 60, some 61, some 62, some 63, some 64, some 65, some 66, some 67, some 68, some 69, some 70, some 71, some 72, none, some 5, some 6].getD i none
theorem dlY {s : Nat} (h : some s ∉ [some 57, some 58, some 59, some 60, some 61, some 62, some 63, some 64, some 65, some 66, some 67, some 68, some 69, some 70, some 71, some 72, none, some 5, some 6]) : ∀ j, j < 19 → dstY j ≠ some s := fun j hj e => h (by
  unfold dstY at e
  rw [← e, List.getD_eq_getElem?_getD, List.getElem?_eq_getElem (by exact hj)]
  exact List.getElem_mem _)
def FY (l : List Value) (s : Nat) (row : Array Value) (i : Nat) (vs : Nat → Value) (w : World) : Prop := l[i]? = some (vs i) ∧ (i = 16 → w.heap[s]? = some (.cells row 31))
def RY (s : Nat) (j : Nat) (w w' : World) : Prop := if j = 16 then But s w w' else w'.heap = w.heap

theorem FY.keeps (l : List Value) (s : Nat) (row : Array Value) (ops : List Oper) (I : World → Prop) : ∀ (i j : Nat) (o : Oper) (vs : Nat → Value) (v : Value) (w w' : World), i ≠ j → ops[i]? = some o → (∀ e ∈ o.after, Region.binds .any e = true → e.on ≠ j) → FY l s row i vs w → I w → RY s j w w' → FY l s row i (upd vs j v) w' := fun i j o vs v w w' hij _ _ h _ hr => by
  refine ⟨by rw [upd_ne _ hij]; exact h.1, fun hi => ?_⟩
  unfold RY at hr
  rw [if_neg (by omega)] at hr
  rw [hr]
  exact h.2 hi

theorem wp_stillY {P : Program} {o : Oper} {a : Act} {W w : World} {Q : Exit → Act → World → Prop} {l : List Value} {s : Nat} {row : Array Value} {vs : Nat → Value} {i : Nat} {d : Option Tmp} {v : Value} (hr : (execOp a.eval o).run P w = .ok (.value v) w) (ht : o.dst = d) (hv : l[i]? = some v) (hi : i ≠ 16) (hI : IZ W s w) :
    o.wp P a w (fun a' w' => ∃ v', a' = a.put d v' ∧ FY l s row i (upd vs i v') w' ∧ IZ W s w' ∧ RY s i w w') Q :=
  wp_val hr (by rw [ht]; exact ⟨v, rfl, ⟨by rw [upd_eq]; exact hv, fun e => absurd e hi⟩, hI, by unfold RY; rw [if_neg hi]⟩)

theorem findR_any {rb : Nat} {v : Value} {L : List (K × Int)} (a : Nat) (w : World) (hR : RefAt w rb v L) (ha : a < 4294967296) {lo hi : Nat} {t : Tr} (hS : Same t L) (hW : WF lo hi t) :
    Calls Try.prog 47 #[.pointer (some ⟨rb, 0, none⟩), .int .u32 (a : Int)] w fun e w' => e = .returned (findV (find t a)) ∧ Below w.heap.size w w' := by
  obtain ⟨ao, n, cap, rfl, HN, hn1, hn2⟩ := hR.2.1.shape
  obtain ⟨w1, hw1⟩ : ∃ w1, w1 = w.alloc (.cells #[.int .u32 0, .int .i64 0] 31) := ⟨_, rfl⟩
  have hb0 : Below w.heap.size w w1 := by rw [hw1]; exact (Below.refl _ _).alloc (Nat.le_refl _) _
  have r1 : w1.heap[w.heap.size]? = some (.cells #[.int .u32 0, .int .i64 0] 31) := by rw [hw1]; exact heap_alloc_new w _
  have HR := hid (hR.below hb0)
  have HW1 := hid hw1
  have HB0 := hid hb0
  have R1 := hid r1
  have HS1 : Hid (w1.heap.size = w.heap.size + 1) := by unfold Hid; rw [hw1]; simp
  have HSM := hid (fun (o : Option Nat) (h : BestE L a L.length o) => best_same hS hW h)
  have HRL : Hid (rb < w.heap.size) := (Array.getElem?_eq_some_iff.1 hR.1).1
  have HOL : Hid (∀ b, (Value.slice ao n cap).ownBlock = some b → b < w.heap.size) := fun b hb => (hR.2.1.lt b hb).2
  unfold maxLen at hn2
  have HA := hid ha
  clear hR hw1 r1 hb0 hS hW ha
  go_enter Try.func47, Try.ntmps47
  go_upto_region 1 with fail
  rw [← HW1.out]
  go_upto_region 3 with fail
  go_loopw [7, 8] (fun kk i wr => ∃ (j : Nat) (o : Option Nat), i = .int .i64 (j : Int) ∧ kk = .int .i64 (posI o) ∧ j ≤ n ∧ Hid (BestE L a j o) ∧ Hid (Below w1.heap.size w1 wr)) (fun _ i _ => n - (intOf i).toNat)
  case atStart => exact ⟨0, none, rfl, rfl, by omega, BestE.zero _ _, Below.refl _ _⟩
  case round =>
    obtain ⟨j, o, rfl, rfl, hj, HBE, HBR⟩ := hrel
    have hrr := HR.out.below HBR.out
    have t0 : wr.cell? ⟨rb, 0, none⟩ = some (.slice ao n cap) := by rw [cell_of_row _ _ _ _ _ _ hrr.1]; rfl
    by_cases hjn : j < n
    · obtain ⟨g, e, hao, hg, he, c0, c1, _⟩ := hrr.2.1.at j hjn
      subst hao
      obtain ⟨ek, ev⟩ := e
      simp only at c0 c1
      have b1 : (j : Int) < (n : Int) := by omega
      have b2 : (0 : Int) ≤ (j : Int) := by omega
      have hrb : rb < wr.heap.size := (Array.getElem?_eq_some_iff.1 hrr.1).1
      have t1 : ∀ t : Beh wr, t.wd.cell? ⟨rb, 0, none⟩ = some (.slice (some ⟨g, 0, none⟩) n cap) := fun t => (t.ok.cell (p := ⟨rb, 0, none⟩) hrb).trans t0
      have d0 : ∀ t : Beh wr, t.wd.cell? ⟨g, j * 3, none⟩ = some (.int .u32 (ek.x : Int)) := fun t => (t.ok.cell (p := ⟨g, _, none⟩) hg).trans c0
      have d1 : ∀ t : Beh wr, t.wd.cell? ⟨g, j * 3 + 1, none⟩ = some (.int .i64 (ek.n : Int)) := fun t => (t.ok.cell (p := ⟨g, _, none⟩) hg).trans c1
      have hek : ek.Ok := hrr.2.2 _ (List.mem_of_getElem? he)
      have HH : ∀ t : Beh wr, Hid (Calls Try.prog 59 #[pv ek, .int .u32 (a : Int)] t.wd fun e w'' => e = .returned (.bool (hasK ek a)) ∧ ∃ t' : Beh wr, w'' = t'.wd) := fun t => Calls.beh (holdsR_any a _ hek HA.out)
      have HE := hid he
      unfold pv at HH
      cases hk : hasK ek a with
      | false =>
        rw [hk] at HH
        have HNX : Hid (BestE L a (j + 1) o) := HBE.out.skip HE.out hk
        clear hk he hg hek hrb c0 c1
        go_upto_region 5 with fail
        refine wp_region_beh (by kernel_rfl) (by kernel_rfl) ?_
        repeat (go_big_quiet_step (first | (go_at_call 59; exact (HH _).out) | fail))
        refine wpQuiet_nil ?_
        rintro _ ⟨t, rfl⟩
        have HB2 : Hid (Below w1.heap.size w1 t.wd) := HBR.out.trans (t.ok.mono HBR.out.size)
        clear t0 t1 d0 d1 HH hrr
        go_wp2_with fail
        go_roundw
        case rel => exact ⟨j + 1, o, by go_num, rfl, by omega, HNX, HB2⟩
        case measure => simp [intOf]; omega
      | true =>
        rw [hk] at HH
        cases o with
        | none =>
          have HNX : Hid (BestE L a (j + 1) (some j)) := HBE.out.first HE.out hk
          clear hk he hg hek hrb c0 c1
          simp only [posI]
          go_upto_region 5 with fail
          refine wp_region_beh (by kernel_rfl) (by kernel_rfl) ?_
          repeat (go_big_quiet_step (first | (go_at_call 59; exact (HH _).out) | fail))
          refine wpQuiet_nil ?_
          rintro _ ⟨t, rfl⟩
          have HB2 : Hid (Below w1.heap.size w1 t.wd) := HBR.out.trans (t.ok.mono HBR.out.size)
          clear t0 t1 d0 d1 HH hrr
          go_wp2_with fail
          go_roundw
          case rel => exact ⟨j + 1, some j, by go_num, rfl, by omega, HNX, HB2⟩
          case measure => simp [intOf]; omega
        | some m =>
          have hmj : m < j := HBE.out.1
          obtain ⟨g', f, hao', _, hf, _, c4, _⟩ := hrr.2.1.at m (by omega)
          obtain rfl : g = g' := by simpa using hao'
          obtain ⟨fk, fv⟩ := f
          simp only at c4
          have d4 : ∀ t : Beh wr, t.wd.cell? ⟨g, m * 3 + 1, none⟩ = some (.int .i64 (fk.n : Int)) := fun t => (t.ok.cell (p := ⟨g, _, none⟩) hg).trans c4
          have b3 : (m : Int) < (n : Int) := by omega
          have b4 : (0 : Int) ≤ (m : Int) := by omega
          have b5 : ¬ (m : Int) < 0 := by omega
          have HFE := hid hf
          simp only [posI]
          by_cases hlen : fk.n < ek.n
          · have b6 : (fk.n : Int) < (ek.n : Int) := by omega
            have HNX : Hid (BestE L a (j + 1) (some j)) := HBE.out.better HE.out hk HFE.out hlen
            clear hk he hg hek hrb c0 c1 c4 hf hao' hlen
            go_upto_region 5 with fail
            refine wp_region_beh (by kernel_rfl) (by kernel_rfl) ?_
            repeat (go_big_quiet_step (first | (go_at_call 59; exact (HH _).out) | fail))
            refine wpQuiet_nil ?_
            rintro _ ⟨t, rfl⟩
            have HB2 : Hid (Below w1.heap.size w1 t.wd) := HBR.out.trans (t.ok.mono HBR.out.size)
            clear t0 t1 d0 d1 d4 HH hrr
            go_wp2_with fail
            go_roundw
            case rel => exact ⟨j + 1, some j, by go_num, rfl, by omega, HNX, HB2⟩
            case measure => simp [intOf]; omega
          · have b6 : ¬ (fk.n : Int) < (ek.n : Int) := by omega
            have HNX : Hid (BestE L a (j + 1) (some m)) := HBE.out.keep HE.out HFE.out (by show ek.n ≤ fk.n; omega)
            clear hk he hg hek hrb c0 c1 c4 hf hao' hlen
            go_upto_region 5 with fail
            refine wp_region_beh (by kernel_rfl) (by kernel_rfl) ?_
            repeat (go_big_quiet_step (first | (go_at_call 59; exact (HH _).out) | fail))
            refine wpQuiet_nil ?_
            rintro _ ⟨t, rfl⟩
            have HB2 : Hid (Below w1.heap.size w1 t.wd) := HBR.out.trans (t.ok.mono HBR.out.size)
            clear t0 t1 d0 d1 d4 HH hrr
            go_wp2_with fail
            go_roundw
            case rel => exact ⟨j + 1, some m, by go_num, rfl, by omega, HNX, HB2⟩
            case measure => simp [intOf]; omega
    · have b1 : ¬ (j : Int) < (n : Int) := by omega
      have hjj : j = L.length := by have := HN.out; omega
      have hbe : BestE L a L.length o := by rw [← hjj]; exact HBE.out
      have r2 := below_keeps HBR.out R1.out (by have := HS1.out; omega)
      have R2 := hid r2
      have hbw : Below w.heap.size w wr := HB0.out.trans (HBR.out.mono HB0.out.size)
      have HBW := hid hbw
      have HSZ : Hid (w.heap.size < wr.heap.size) := (Array.getElem?_eq_some_iff.1 r2).1
      rcases HSM.out o hbe with ⟨ho, hf⟩ | ⟨m, e, ho, hm, hme, hf⟩
      · subst ho
        have c0 : wr.cell? ⟨w.heap.size, 0, none⟩ = some (.int .u32 0) := by rw [cell_of_row _ _ _ _ _ _ r2]; rfl
        have c1 : wr.cell? ⟨w.heap.size, 1, none⟩ = some (.int .i64 0) := by rw [cell_of_row _ _ _ _ _ _ r2]; rfl
        have f0 : wr.frozen? ⟨w.heap.size, 0, none⟩ = false := frozen_of_row _ _ _ _ _ r2
        have f1 : wr.frozen? ⟨w.heap.size, 1, none⟩ = false := frozen_of_row _ _ _ _ _ r2
        have HFV : Hid (findV (find t a) = .tuple #[.agg #[.int .u32 0, .int .i64 0], .int .i64 0, .int .i64 3]) := by unfold Hid; rw [hf]; rfl
        obtain ⟨W2, hW2⟩ : ∃ W2, W2 = (wr.setCell ⟨w.heap.size, 0, none⟩ (.int .u32 0)).setCell ⟨w.heap.size, 1, none⟩ (.int .i64 0) := ⟨_, rfl⟩
        have r4 : W2.heap[w.heap.size]? = some (.cells #[.int .u32 0, .int .i64 0] 31) := by rw [hW2]; exact set_two' r2
        have hbt : But w.heap.size wr W2 := by rw [hW2]; exact (But.set _ 0 _ _).trans (But.set _ 1 _ _)
        have HBZ : Hid (Below w.heap.size w W2) := hbt.below hbw (by have := HSZ.out; omega) (Nat.le_refl _)
        have HW2 := hid hW2
        have R4 := hid r4
        clear hbe hf r2 hbw hbt hW2 r4 hrr hjj HBE
        simp only [posI]
        go_wp2_with fail
        rw [← HW2.out]
        have g0 : W2.cell? ⟨w.heap.size, 0, none⟩ = some (.int .u32 0) := by rw [cell_of_row _ _ _ _ _ _ R4.out]; rfl
        have g1 : W2.cell? ⟨w.heap.size, 1, none⟩ = some (.int .i64 0) := by rw [cell_of_row _ _ _ _ _ _ R4.out]; rfl
        refine bodyPost_ret (v := .tuple #[.agg #[.int .u32 0, .int .i64 0], .int .i64 0, .int .i64 3]) (by simp [results, Try.results47, go_sem, g0, g1]) rfl ⟨by rw [HFV.out], HBZ.out⟩
      · subst ho
        have hmn : m < n := by have := HN.out; omega
        obtain ⟨g, f, hao, hg, hmf, e0, e1, e2⟩ := hrr.2.1.at m hmn
        subst hao
        rw [hme] at hmf
        obtain rfl := Option.some.inj hmf
        obtain ⟨ek, ev⟩ := e
        simp only at e0 e1 e2
        have HFV : Hid (findV (find t a) = .tuple #[.agg #[.int .u32 (ek.x : Int), .int .i64 (ek.n : Int)], .int .i64 ev, .int .i64 0]) := by unfold Hid; rw [hf]; rfl
        have b5 : ¬ (m : Int) < 0 := by omega
        have HGN : Hid (g ≠ w.heap.size) := by have := HOL.out g rfl; unfold Hid; omega
        have HRN : Hid (rb ≠ w.heap.size) := by have := HRL.out; unfold Hid; omega
        clear hbe hf r2 hbw hrr hjj HBE hmf hme hg
        simp only [posI]
        go_upto_region 9 with fail
        refine wp_region_all' 19 dstY (FY [.pointer (some ⟨rb, 0, none⟩), .pointer (some ⟨rb, 0, none⟩), .pointer (some ⟨rb, 0, none⟩), .slice (some ⟨g, 0, none⟩) n cap, .int .i64 (m : Int), .pointer (some ⟨g, m * 3, none⟩), .pointer (some ⟨g, m * 3, none⟩), .agg #[.int .u32 (ek.x : Int), .int .i64 (ek.n : Int)], .pointer (some ⟨rb, 0, none⟩), .pointer (some ⟨rb, 0, none⟩), .pointer (some ⟨rb, 0, none⟩), .slice (some ⟨g, 0, none⟩) n cap, .int .i64 (m : Int), .pointer (some ⟨g, m * 3, none⟩), .pointer (some ⟨g, m * 3 + 2, none⟩), .int .i64 ev, undef, .int .i64 ev, .int .i64 0] w.heap.size #[.int .u32 (ek.x : Int), .int .i64 (ek.n : Int)]) (IZ wr w.heap.size) (RY w.heap.size) (by kernel_rfl) (by kernel_rfl) ⟨⟨rfl, rfl, rfl, Nat.le_refl _, fun _ _ _ => rfl⟩, _, _, R2.out⟩ (FY.keeps _ _ _ _ _) ?_ ?_
        · simp only [N.stepsAll]
          refine ⟨?_, ?_, ?_, ?_, ?_, ?_, ?_, ?_, ?_, ?_, ?_, ?_, ?_, ?_, ?_, ?_, ?_, ?_, ?_, trivial⟩
          · intro a' u vs hI hold hdep
            exact wp_stillY (ex_move (.tmp 0) _ rfl (hold 0 (dlY (by decide)))) rfl rfl (by decide) hI
          · intro a' u vs hI hold hdep
            have e : a'.eval (.tmp 57) = .pointer (some ⟨rb, 0, none⟩) := by have h0 := hdep ⟨0, .data⟩ (by simp) rfl; exact (h0.2 57 rfl).trans (Option.some.inj h0.1.1).symm
            exact wp_stillY (ex_nil _ (.tmp 57) rfl e) rfl rfl (by decide) hI
          · intro a' u vs hI hold hdep
            have e : a'.eval (.tmp 58) = .pointer (some ⟨rb, 0, none⟩) := by have h0 := hdep ⟨1, .data⟩ (by simp) rfl; exact (h0.2 58 rfl).trans (Option.some.inj h0.1.1).symm
            exact wp_stillY (ex_field _ _ (.tmp 58) 0 _ rfl e (fld_rT u)) rfl rfl (by decide) hI
          · intro a' u vs hI hold hdep
            have e : a'.eval (.tmp 59) = .pointer (some ⟨rb, 0, none⟩) := by have h0 := hdep ⟨2, .data⟩ (by simp) rfl; exact (h0.2 59 rfl).trans (Option.some.inj h0.1.1).symm
            exact wp_stillY (ex_load _ ⟨rb, 0, none⟩ (.tmp 59) _ rfl e (load_sE (by rw [World.cell?_of_block (hI.1.block _ (World.block_lt_of_cell? _ _ t0) (by show rb ≠ w.heap.size; exact HRN.out))]; exact t0))) rfl rfl (by decide) hI
          · intro a' u vs hI hold hdep
            exact wp_stillY (ex_move (.tmp 7) _ rfl (hold 7 (dlY (by decide)))) rfl rfl (by decide) hI
          · intro a' u vs hI hold hdep
            have e : a'.eval (.tmp 60) = .slice (some ⟨g, 0, none⟩) n cap := by have h0 := hdep ⟨3, .data⟩ (by simp) rfl; exact (h0.2 60 rfl).trans (Option.some.inj h0.1.1).symm
            have f : a'.eval (.tmp 61) = .int .i64 (m : Int) := by have h0 := hdep ⟨4, .data⟩ (by simp) rfl; exact (h0.2 61 rfl).trans (Option.some.inj h0.1.1).symm
            exact wp_stillY (ex_index _ (.tmp 60) (.tmp 61) _ _ _ rfl e f (idx_en hmn u)) rfl rfl (by decide) hI
          · intro a' u vs hI hold hdep
            have e : a'.eval (.tmp 62) = .pointer (some ⟨g, m * 3, none⟩) := by have h0 := hdep ⟨5, .data⟩ (by simp) rfl; exact (h0.2 62 rfl).trans (Option.some.inj h0.1.1).symm
            exact wp_stillY (ex_field _ _ (.tmp 62) 0 _ rfl e ((fld_rE u).1)) rfl rfl (by decide) hI
          · intro a' u vs hI hold hdep
            have e : a'.eval (.tmp 63) = .pointer (some ⟨g, m * 3, none⟩) := by have h0 := hdep ⟨6, .data⟩ (by simp) rfl; exact (h0.2 63 rfl).trans (Option.some.inj h0.1.1).symm
            exact wp_stillY (ex_load _ ⟨g, m * 3, none⟩ (.tmp 63) _ rfl e (load_pre (by rw [World.cell?_of_block (hI.1.block _ (World.block_lt_of_cell? _ _ e0) (by show g ≠ w.heap.size; exact HGN.out))]; exact e0) (by rw [World.cell?_of_block (hI.1.block _ (World.block_lt_of_cell? _ _ e1) (by show g ≠ w.heap.size; exact HGN.out))]; exact e1))) rfl rfl (by decide) hI
          · intro a' u vs hI hold hdep
            exact wp_stillY (ex_move (.tmp 0) _ rfl (hold 0 (dlY (by decide)))) rfl rfl (by decide) hI
          · intro a' u vs hI hold hdep
            have e : a'.eval (.tmp 65) = .pointer (some ⟨rb, 0, none⟩) := by have h0 := hdep ⟨8, .data⟩ (by simp) rfl; exact (h0.2 65 rfl).trans (Option.some.inj h0.1.1).symm
            exact wp_stillY (ex_nil _ (.tmp 65) rfl e) rfl rfl (by decide) hI
          · intro a' u vs hI hold hdep
            have e : a'.eval (.tmp 66) = .pointer (some ⟨rb, 0, none⟩) := by have h0 := hdep ⟨9, .data⟩ (by simp) rfl; exact (h0.2 66 rfl).trans (Option.some.inj h0.1.1).symm
            exact wp_stillY (ex_field _ _ (.tmp 66) 0 _ rfl e (fld_rT u)) rfl rfl (by decide) hI
          · intro a' u vs hI hold hdep
            have e : a'.eval (.tmp 67) = .pointer (some ⟨rb, 0, none⟩) := by have h0 := hdep ⟨10, .data⟩ (by simp) rfl; exact (h0.2 67 rfl).trans (Option.some.inj h0.1.1).symm
            exact wp_stillY (ex_load _ ⟨rb, 0, none⟩ (.tmp 67) _ rfl e (load_sE (by rw [World.cell?_of_block (hI.1.block _ (World.block_lt_of_cell? _ _ t0) (by show rb ≠ w.heap.size; exact HRN.out))]; exact t0))) rfl rfl (by decide) hI
          · intro a' u vs hI hold hdep
            exact wp_stillY (ex_move (.tmp 7) _ rfl (hold 7 (dlY (by decide)))) rfl rfl (by decide) hI
          · intro a' u vs hI hold hdep
            have e : a'.eval (.tmp 68) = .slice (some ⟨g, 0, none⟩) n cap := by have h0 := hdep ⟨11, .data⟩ (by simp) rfl; exact (h0.2 68 rfl).trans (Option.some.inj h0.1.1).symm
            have f : a'.eval (.tmp 69) = .int .i64 (m : Int) := by have h0 := hdep ⟨12, .data⟩ (by simp) rfl; exact (h0.2 69 rfl).trans (Option.some.inj h0.1.1).symm
            exact wp_stillY (ex_index _ (.tmp 68) (.tmp 69) _ _ _ rfl e f (idx_en hmn u)) rfl rfl (by decide) hI
          · intro a' u vs hI hold hdep
            have e : a'.eval (.tmp 70) = .pointer (some ⟨g, m * 3, none⟩) := by have h0 := hdep ⟨13, .data⟩ (by simp) rfl; exact (h0.2 70 rfl).trans (Option.some.inj h0.1.1).symm
            exact wp_stillY (ex_field _ _ (.tmp 70) 1 _ rfl e ((fld_rE u).2)) rfl rfl (by decide) hI
          · intro a' u vs hI hold hdep
            have e : a'.eval (.tmp 71) = .pointer (some ⟨g, m * 3 + 2, none⟩) := by have h0 := hdep ⟨14, .data⟩ (by simp) rfl; exact (h0.2 71 rfl).trans (Option.some.inj h0.1.1).symm
            exact wp_stillY (ex_load _ ⟨g, m * 3 + 2, none⟩ (.tmp 71) _ rfl e (load_in (by rw [World.cell?_of_block (hI.1.block _ (World.block_lt_of_cell? _ _ e2) (by show g ≠ w.heap.size; exact HGN.out))]; exact e2))) rfl rfl (by decide) hI
          · intro a' u vs hI hold hdep
            have e : a'.eval (.tmp 64) = .agg #[.int .u32 (ek.x : Int), .int .i64 (ek.n : Int)] := by have h0 := hdep ⟨7, .data⟩ (by simp) rfl; exact (h0.2 64 rfl).trans (Option.some.inj h0.1.1).symm
            obtain ⟨hbI, x, y, hxy⟩ := hI
            refine wp_store_row 31 (.tmp 4) (.tmp 64) rfl w.heap.size #[.int .u32 (ek.x : Int), .int .i64 (ek.n : Int)] (hold 4 (dlY (by decide))) e _ _ hxy (by kernel_rfl) rfl (by simp [Value.oneCell']) ?_
            have hbt := But.setRow w.heap.size u #[.int .u32 (ek.x : Int), .int .i64 (ek.n : Int)]
            have hr := setRow_heap u w.heap.size _ #[.int .u32 (ek.x : Int), .int .i64 (ek.n : Int)] _ _ hxy
            exact ⟨undef, rfl, ⟨by rw [upd_eq]; rfl, fun _ => hr⟩, ⟨hbI.trans hbt, _, _, hr⟩, by unfold RY; rw [if_pos rfl]; exact hbt⟩
          · intro a' u vs hI hold hdep
            have e : a'.eval (.tmp 72) = .int .i64 ev := by have h0 := hdep ⟨15, .data⟩ (by simp) rfl; exact (h0.2 72 rfl).trans (Option.some.inj h0.1.1).symm
            exact wp_stillY (ex_assign (.tmp 72) _ rfl e) rfl rfl (by decide) hI
          · intro a' u vs hI hold hdep
            exact wp_stillY (ex_assign (.const (.int .i64 0)) _ rfl rfl) rfl rfl (by decide) hI
        intro vs W2 hI hF
        have e5 : vs 17 = .int .i64 ev := (Option.some.inj (hF 17 (by decide)).1).symm
        have e6 : vs 18 = .int .i64 0 := (Option.some.inj (hF 18 (by decide)).1).symm
        have r4 : W2.heap[w.heap.size]? = some (.cells #[.int .u32 (ek.x : Int), .int .i64 (ek.n : Int)] 31) := (hF 16 (by decide)).2 rfl
        have hbt : But w.heap.size wr W2 := hI.1
        clear hF hI
        simp only [putsO, List.range, List.range.loop, List.foldr, if_true, dstY, List.getD_cons_zero, List.getD_cons_succ, Act.put, e5, e6, List.setIfInBounds_toArray, List.set_cons_succ, List.set_cons_zero]
        generalize vs 0 = z0
        generalize vs 1 = z1
        generalize vs 2 = z2
        generalize vs 3 = z3
        generalize vs 4 = z4
        generalize vs 5 = z5
        generalize vs 6 = z6
        generalize vs 7 = z7
        generalize vs 8 = z8
        generalize vs 9 = z9
        generalize vs 10 = z10
        generalize vs 11 = z11
        generalize vs 12 = z12
        generalize vs 13 = z13
        generalize vs 14 = z14
        generalize vs 15 = z15
        generalize vs 16 = z16
        have HBZ : Hid (Below w.heap.size w W2) := hbt.below HBW.out (by have := HSZ.out; omega) (Nat.le_refl _)
        have g0 : W2.cell? ⟨w.heap.size, 0, none⟩ = some (.int .u32 (ek.x : Int)) := by rw [cell_of_row _ _ _ _ _ _ r4]; rfl
        have g1 : W2.cell? ⟨w.heap.size, 1, none⟩ = some (.int .i64 (ek.n : Int)) := by rw [cell_of_row _ _ _ _ _ _ r4]; rfl
        clear hbt r4 e5 e6
        go_wp2_with fail
        refine bodyPost_ret (v := .tuple #[.agg #[.int .u32 (ek.x : Int), .int .i64 (ek.n : Int)], .int .i64 ev, .int .i64 0]) (by simp [results, Try.results47, go_sem, g0, g1]) rfl ⟨by rw [HFV.out], HBZ.out⟩
end Go.Proofs.Ytmnafocmbcgdiab
