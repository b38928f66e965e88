import Derived.Test.YtpdnnikkaojnkaaGreatYQN
namespace Go.Proofs.YtpdnnikkaojnkaaGreat.Rt
open Go.Proofs.YtpdnnikkaojnkaaGreat Go.ChangeShapes Go.WideShapes Go.ChangeAt Go.RowKit Go.Maps Tri N
set_option maxHeartbeats 8000000
set_option maxRecDepth 100000
theorem idxO2 {n cap g off j : Nat} (hm : j < n) (u : World) : (Instr.indexAt 24 (.slice (some ⟨g, off, none⟩) n cap) (.int .i64 (j : Int))).run Tryz.prog u = .ok (.pointer (some ⟨g, off + j * 19, none⟩)) u := by
 have hu : Tryz.prog.underlying 24 = some (.slice 46) := by kernel_rfl
 have hsz : (sizeOf 46).run Tryz.prog u = .ok 19 u := by kernel_rfl
 simp [Instr.indexAt, run_underlying hu, asIntOf, go_sem, hsz, Result.andThen, hm, Addr.add]
def CapsOf (t : Ks) (r n f : Int) : Prop := (t.cr : Int) = r /\ (t.cn : Int) = n /\ (t.cf : Int) = f
theorem frameT_walk (r n f : Int) (a : Option Addr) (l cp : Nat) (A : List Opv) (w : World) (hs : SeesOp (fun c => c < w.heap.size) w a l A) (hA : ∀ o ∈ A, o.Ok) (hl : l <= 9223372036854775807) :
  Calls Tryz.prog 4 #[.agg #[.int .i64 r, .int .i64 n, .int .i64 f], .slice a l cp] w fun e w' => e = .returned (.bool true) /\ Below w.heap.size w w' := by
 obtain ⟨w1, HW1⟩ : ∃ w1, Hid (w1 = w.alloc (.cells #[.int .i64 r, .int .i64 n, .int .i64 f] 23)) := ⟨_, rfl⟩
 have hb1 : Below w.heap.size w w1 := by rw [HW1.out]; exact bR.alloc nL _
 have r1 : w1.heap[w.heap.size]? = some (.cells #[.int .i64 r, .int .i64 n, .int .i64 f] 23) := by rw [HW1.out]; exact heap_alloc_new w _
 have c0 : w1.cell? ⟨w.heap.size, 0, none⟩ = some (.int .i64 r) := crw r1 rfl
 have c1 : w1.cell? ⟨w.heap.size, 1, none⟩ = some (.int .i64 n) := crw r1 rfl
 have c2 : w1.cell? ⟨w.heap.size, 2, none⟩ = some (.int .i64 f) := crw r1 rfl
 have HB1 := hid hb1
 have HR1 := hid r1
 have HNA := hid hs.1
 have HSA : Hid (SeesOp (fun c => c < w1.heap.size) w1 a l A) := (hs.below hb1).more fun c _ hc => Nat.lt_of_lt_of_le hc hb1.size
 have HA := hid hA
 have HC := hid (newK_any w1 r n f)
 clear hb1 r1 hs hA
 go_enter Tryz.func4, Tryz.ntmps4
 go_upto_region 1 with fail
 rw [<- HW1.out]
 clear HW1
 go_wp2_with fail
 refine HC.out.mono ?_
 intro e w2 hp
 by_cases hcap : Cap r n f
 ·obtain ⟨b1, rfl, hk1, hb2⟩ := hp.1 hcap
  have HKK : Hid (∃ t, K1 w1 w2.heap.size w2 b1.kb t /\ CapsOf t r n f) := by
   obtain ⟨h1, h2, h3⟩ := hcap
   exact ⟨_, K1.new hk1 hb2, by show ((r.toNat : Nat) : Int) = r; omega, by show ((n.toNat : Nat) : Int) = n; omega, by show ((f.toNat : Nat) : Int) = f; omega⟩
  have HF := hid (first_any w2)
  generalize b1.kb = k1 at HKK ⊢
  obtain ⟨NN, HNN⟩ : ∃ NN, Hid (NN = w2.heap.size) := ⟨_, rfl⟩
  rw [<- HNN.out] at HKK
  clear hp hk1 hb2 c0 c1 c2 HC hcap
  go_wp2_with fail
  refine HF.out.mono ?_
  rintro _ w4 ⟨rfl, hb4⟩
  have HI0 : Hid (∃ t, K1 w1 NN w4 k1 t /\ CapsOf t r n f) := by
   obtain ⟨t, ht, hc⟩ := HKK.out
   exact ⟨t, ht.below hb4, hc⟩
  clear hb4 HF HKK HNN
  go_upto_region 7 with fail
  go_loopw [7] (fun i wr => ∃ (j : Nat), i = .int .i64 (j : Int) /\ j <= l /\ Hid (∃ t, K1 w1 NN wr k1 t /\ CapsOf t r n f)) (fun i _ => l - (intOf i).toNat)
  case atStart => exact ⟨0, rfl, Nat.zero_le _, HI0⟩
  case round =>
  obtain ⟨j, rfl, hj, HI⟩ := hrel
  obtain ⟨t, ht, hct⟩ := HI.out
  have HT := hid ht
  have HCT := hid hct
  clear ht hct HI
  by_cases hlt : j < l
  ·have hlt' : (j : Int) < (l : Int) := int_lt hlt
   have hj0 : (0 : Int) <= (j : Int) := by omega
   obtain ⟨o, HO⟩ : ∃ o, Hid (A[j]? = some o) := ⟨_, hid (List.getElem?_eq_getElem (by have := HNA.out; omega))⟩
   have HOO := hid (HA.out o (List.mem_of_getElem? HO.out))
   obtain ⟨g, off, rfl, hld⟩ := (HSA.out.below HT.out.bel).load HO.out
   have HLD : Hid (∀ u : World, Below wr.heap.size wr u -> (Instr.loadAt 46 (.pointer (some ⟨g, off + j * 19, none⟩))).run Tryz.prog u = .ok (.agg o.cells) u) := fun u hu => by
    obtain ⟨g', off', hgo, hld'⟩ := (HSA.out.below (HT.out.bel.trans (hu.mono HT.out.bel.size))).load HO.out
    simp only [Option.some.injEq, Addr.mk.injEq, and_true] at hgo
    obtain ⟨rfl, rfl⟩ := hgo
    exact hld'
   have HLC : Hid (∀ u : World, Below wr.heap.size wr u -> (Instr.loadAt 23 (.pointer (some ⟨w.heap.size, 0, none⟩))).run Tryz.prog u = .ok (.agg #[.int .i64 r, .int .i64 n, .int .i64 f]) u) := fun u hu => box_load (below_keeps (HT.out.bel.trans (hu.mono HT.out.bel.size)) HR1.out (gsl HR1.out)) Tryz.underlying23 rfl (by kernel_rfl)
   have HFR : Hid (∀ u : World, Below wr.heap.size wr u -> Calls Tryz.prog 14 #[.pointer (some ⟨k1, 0, none⟩), .agg o.cells, .agg #[.int .i64 r, .int .i64 n, .int .i64 f]] u fun e u' => e = .returned (.bool true) /\ ∃ t, K1 w1 NN u' k1 t /\ CapsOf t r n f) := fun u hu => by
    obtain ⟨e1, e2, e3⟩ := HCT.out
    have hf := framed_true (HT.out.below hu) o HOO.out
    rw [e1, e2, e3] at hf
    refine hf.mono ?_
    rintro e u' ⟨he, hk⟩
    obtain ⟨g1, g2, g3⟩ := one_caps t o
    exact ⟨he, _, hk, by rw [g1]; exact e1, by rw [g2]; exact e2, by rw [g3]; exact e3⟩
   clear hld
   go_upto_region 9 with fail
   refine wp_region_mono' 6 (fun i => ([63, 64, 65, 66, 67, 68] : List Tmp).getD i 0) (FB7 [.pointer (some ⟨k1, 0, none⟩), .slice (some ⟨g, off, none⟩) l cp, .int .i64 (j : Int), .pointer (some ⟨g, off + j * 19, none⟩), .agg o.cells, .agg #[.int .i64 r, .int .i64 n, .int .i64 f]] #[] 0 0) (by kernel_rfl) (by kernel_rfl) (FB7.keeps _ _ _ _) ?_ ?_
   ·simp only [List.take_succ_cons, List.take_zero, stepsOk]
    refine ⟨?_, ?_, ?_, ?_, ?_, ?_, trivial⟩
    ·intro a y vs hb hold hdep
     exact fb7_still (.pointer (some ⟨k1, 0, none⟩)) (ex_move (.tmp 5) _ rfl (hold 5 (dlM (L := [63, 64, 65, 66, 67, 68]) (by decide)))) rfl (by decide) rfl hb
    ·intro a y vs hb hold hdep
     exact fb7_still (.slice (some ⟨g, off, none⟩) l cp) (ex_move (.tmp 1) _ rfl (hold 1 (dlM (L := [63, 64, 65, 66, 67, 68]) (by decide)))) rfl (by decide) rfl hb
    ·intro a y vs hb hold hdep
     exact fb7_still (.int .i64 (j : Int)) (ex_move (.tmp 7) _ rfl (hold 7 (dlM (L := [63, 64, 65, 66, 67, 68]) (by decide)))) rfl (by decide) rfl hb
    ·intro a y vs hb hold hdep
     exact fb7_still (.pointer (some ⟨g, off + j * 19, none⟩)) (ex_index _ (.tmp 64) (.tmp 65) _ _ _ rfl (FB7.dep (hdep ⟨1, .data⟩ (by simp) rfl (by decide)) (by decide) rfl) (FB7.dep (hdep ⟨2, .data⟩ (by simp) rfl (by decide)) (by decide) rfl) (idxO2 hlt y)) rfl (by decide) rfl hb
    ·intro a y vs hb hold hdep
     exact fb7_still (.agg o.cells) (ex_load _ ⟨g, off + j * 19, none⟩ (.tmp 66) _ rfl (FB7.dep (hdep ⟨3, .data⟩ (by simp) rfl (by decide)) (by decide) rfl) (HLD.out y hb)) rfl (by decide) rfl hb
    ·intro a y vs hb hold hdep
     exact fb7_still (.agg #[.int .i64 r, .int .i64 n, .int .i64 f]) (ex_load _ ⟨w.heap.size, 0, none⟩ (.tmp 2) _ rfl (hold 2 (dlM (L := [63, 64, 65, 66, 67, 68]) (by decide))) (HLC.out y hb)) rfl (by decide) rfl hb
   intro vs y hb hF
   have e0 : vs 0 = .pointer (some ⟨k1, 0, none⟩) := (hF 0 (by decide)).is (by decide) rfl
   have e1 : vs 1 = .slice (some ⟨g, off, none⟩) l cp := (hF 1 (by decide)).is (by decide) rfl
   have e2 : vs 2 = .int .i64 (j : Int) := (hF 2 (by decide)).is (by decide) rfl
   have e3 : vs 3 = .pointer (some ⟨g, off + j * 19, none⟩) := (hF 3 (by decide)).is (by decide) rfl
   have e4 : vs 4 = .agg o.cells := (hF 4 (by decide)).is (by decide) rfl
   have e5 : vs 5 = .agg #[.int .i64 r, .int .i64 n, .int .i64 f] := (hF 5 (by decide)).is (by decide) rfl
   clear hF
   simp only [List.drop_succ_cons, List.drop_zero, puts, List.range, List.range.loop, List.foldr, if_true, List.getD_cons_zero, List.getD_cons_succ, e0, e1, e2, e3, e4, e5, Act.put, List.setIfInBounds_toArray, List.set_cons_zero, List.set_cons_succ]
   clear e0 e1 e2 e3 e4 e5
   have HFU := hid (HFR.out y hb)
   clear hb HFR HLC HLD HT
   go_wp2_with fail
   refine HFU.out.mono ?_
   rintro _ w6 ⟨rfl, hk6⟩
   have HI8 : Hid (∃ t, K1 w1 NN w6 k1 t /\ CapsOf t r n f) := hk6
   clear hk6 HFU
   go_wp2_with fail
   go_roundw
   case rel => exact ⟨j + 1, by go_num, hlt, HI8⟩
   case measure => simp [intOf]; omega
  ·have hlt' : ¬ (j : Int) < (l : Int) := int_nlt hlt
   have HFIN : Hid (Below w.heap.size w wr) := HB1.out.trans (HT.out.bel.mono HB1.out.size)
   clear HT HI0
   go_wp2_with fail
   go_ret
   exact ⟨rfl, HFIN.out⟩
 ·obtain ⟨rfl, ew⟩ := hp.2 hcap
  obtain rfl := ew.symm
  have HF := hid (first_any w1)
  clear hp ew HC
  go_wp2_with fail
  refine HF.out.mono ?_
  rintro _ w4 ⟨rfl, hb4⟩
  have HFIN : Hid (Below w.heap.size w w4) := HB1.out.trans (hb4.mono HB1.out.size)
  have hlt4 := (gsl HR1.out)
  have d0 : w4.cell? ⟨w.heap.size, 0, none⟩ = some (.int .i64 r) := (hb4.cell (p := ⟨w.heap.size, 0, none⟩) hlt4).trans c0
  have d1 : w4.cell? ⟨w.heap.size, 1, none⟩ = some (.int .i64 n) := (hb4.cell (p := ⟨w.heap.size, 1, none⟩) hlt4).trans c1
  have d2 : w4.cell? ⟨w.heap.size, 2, none⟩ = some (.int .i64 f) := (hb4.cell (p := ⟨w.heap.size, 2, none⟩) hlt4).trans c2
  clear hb4 HF c0 c1 c2 hlt4
  unfold Cap at hcap
  by_cases g1 : r < 1
  ·clear hcap
   go_wp2_with fail
   go_ret
   exact ⟨rfl, HFIN.out⟩
  ·by_cases g2 : n < 1
   ·clear hcap
    go_wp2_with fail
    go_ret
    exact ⟨rfl, HFIN.out⟩
   ·by_cases g3 : f < 1
    ·clear hcap
     go_wp2_with fail
     go_ret
     exact ⟨rfl, HFIN.out⟩
    ·by_cases g4 : 256 < r
     ·clear hcap
      go_wp2_with fail
      go_ret
      exact ⟨rfl, HFIN.out⟩
     ·by_cases g5 : 256 < n
      ·clear hcap
       go_wp2_with fail
       go_ret
       exact ⟨rfl, HFIN.out⟩
      ·have g6 : 256 < f := by omega
       clear hcap
       go_wp2_with fail
       go_ret
       exact ⟨rfl, HFIN.out⟩
end Go.Proofs.YtpdnnikkaojnkaaGreat.Rt
