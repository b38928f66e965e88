import Derived.Test.YtkkfioebpppffaaGreatDoorEI
import Derived.Test.YtkkfioebpppffaaGreatDoorYFwM
namespace Go.Proofs.YtkkfioebpppffaaGreatDoor.Fl
open Go.Proofs.YtkkfioebpppffaaGreatDoor Go.ChangeShapes Go.WideShapes Go.ChangeAt Go.RowKit Go.Maps N
open Go.Shelf
attribute [local go_sem] Oper.semAt_some
set_option maxHeartbeats 8000000
set_option maxRecDepth 100000

/-- All entries, once each. -/
def AllV (g : Int → Option Fw) (xs : List Fw) : Prop := ∃ L : List (Int × Fw), (L.map Prod.fst).Nodup ∧ (∀ k e, gF.kOk k → ((k, e) ∈ L ↔ g k = some e)) ∧ (∀ p ∈ L, gF.kOk p.1) ∧ xs = L.map Prod.snd

theorem met_ok {g : Int → Option Fw} {D : DataW Unit} {left : Lit → Bool} {L : List (Int × Fw)} (h : Mq.Met gF g D left L) : ∀ p ∈ L, gF.kOk p.1 := fun p hp => (h.mem p hp).1

theorem values_gives (n : Nat) (hn : 1 ≤ n) (Bm bm c : Nat) {g : Int → Option Fw} (w : World) (hBm : w.heap[Bm]? = some (.cells #[.map (some bm)] 59)) (hm : Mq.MapG gF w bm g c) :
    SeqGives Fence.wide n Tryz.prog 31 #[.pointer (some ⟨Bm, 0, none⟩)] (fun e : Fw => .agg e.cells) (AllV g) c w := fun l J W hW hJ hY h0 => by
  have hm' := hm.kept (hW.block _ hm.lt)
  have hbl := hm'.lt
  obtain ⟨D, hown, hsz, hsay, hcl⟩ := hm'
  have hcell : W.cell? ⟨Bm, 0, none⟩ = some (.map (some bm)) := by rw [cell_of_row _ _ _ _ _ _ (below_keeps hW hBm (Array.getElem?_eq_some_iff.1 hBm).1)]; rfl
  have HSAY := hid hsay
  have HSZ := hid hsz
  have HJ := hid hJ
  have HY := hid hY
  have H0 := hid h0
  have HBL := hid hbl
  clear hsay hcl hsz hJ hY h0 hW hBm hm hbl
  refine callsIn_of_wp Tryz.func31 rfl trivial ?_ rfl
  simp only [Tryz.ntmps31, List.size_toArray, List.length_cons, List.length_nil, Nat.reduceAdd, Nat.reduceSub, Array.replicate_succ, Array.replicate_zero, List.push_toArray, List.append_toArray, List.nil_append, List.cons_append]
  gi_wp2_with (first | (gi_at_range; refine wpListIn_range_own _ rfl _ 59 rfl 3 45 gF.law gF.um _ bm c _ rfl hown ?_; intro w0 hrg0 hg0 hs0) | gi_in)
  try go_frame
  have HRG0 := hid hrg0
  have HJ0 : Hid (J [] w0) := HJ.out [] W w0 none H0.out hg0 (fun r e => by cases e)
  have HB0 : Hid (W.heap.size ≤ w0.heap.size) := hg0.size
  clear hrg0 hg0 hs0 hown hcell
  gi_loopw [4] (fun _ wr => ∃ (left : Lit → Bool) (cnt : Nat) (L : List (Int × Fw)), Hid (wr.ranges Tryz.prog 3 gF.R bm W.heap.size c D left cnt) ∧ Hid (L.length + cnt ≤ c) ∧ Hid (Mq.Met gF g D left L) ∧ Hid (J (L.map Prod.snd) wr) ∧ Hid (W.heap.size < wr.heap.size))
    (fun _ wr => wr.rangeLeft bm W.heap.size)
  case atStart =>
    exact ⟨_, _, [], HRG0, by unfold Hid; rw [HSZ.out]; simp, Mq.Met.start HSAY.out, HJ0, by
      obtain ⟨_, _, _, _, _, _, _, _, _, h2, _⟩ := HRG0.out
      exact (Array.getElem?_eq_some_iff.1 h2).1⟩
  case round =>
    obtain ⟨left, cnt, L, HRG, HCS, HM, HJS, HWS⟩ := hrel
    gi_wp2_with (first | (gi_at_next; refine wpListIn_next_ranges _ rfl _ rfl 3 gF.law gF.R gF.kV gF.eV (fun key kl hk => (by obtain ⟨k, _, e, _⟩ := gF_kinv key kl hk; exact ⟨k, e⟩)) gF.einv bm W.heap.size c _ _ _ rfl HRG.out ?_ ?_) | gi_in)
    · intro hc0 hl0
      have HFIN : Hid (AllV g (L.map Prod.snd) ∧ J (L.map Prod.snd) wr) := ⟨⟨L, HM.out.nd, HM.out.end hl0, met_ok HM.out, rfl⟩, HJS.out⟩
      clear hc0 hl0
      gi_wp2
      go_end0
      exact ⟨⟨_, rfl⟩, _, HFIN.out⟩
    · intro x e kl yd yp w2 cnt2 hkey hlk hv hat hrg2 hlt hg2 hs2 hen
      obtain ⟨k, k1, k2, k3, k4⟩ := HM.out.entry gF_kinv (fun _ _ => fwD_inj) HSAY.out (c := e) (y := (yd, yp)) hkey hlk hv hat
      have hJ2 : J (L.map Prod.snd) w2 := HJ.out _ wr w2 (some W.heap.size) HJS.out hg2 (fun r e => by cases e; exact ⟨Nat.le_refl _, HRG.out.iter_walk⟩)
      obtain ⟨w2b, HWB⟩ : ∃ w2b, Hid (w2b = w2.alloc (.cells #[.int .u32 0, .int .u32 0, .int .u8 0, .int .u16 0, .int .u16 0, .int .u32 0, .int .u32 0, .int .u8 0, .int .u16 0, .int .u16 0, .int .i64 0, .int .i64 0] 45)) := ⟨_, rfl⟩
      have HRN : Hid (w2b.heap[w2.heap.size]? = some (.cells zFw.cells 45 (0, 0))) := by unfold Hid; rw [HWB.out]; exact heap_alloc_new _ _
      have hb2b : Below w2.heap.size w2 w2b := by rw [HWB.out]; exact (Below.refl _ _).alloc (Nat.le_refl _) _
      have hrgb : w2b.ranges Tryz.prog 3 gF.R bm W.heap.size c D (fun z => left z && !z.sameKey kl) cnt2 := by rw [HWB.out]; exact hrg2.alloc _
      have hws2 : W.heap.size < w2.heap.size := Nat.lt_of_lt_of_le HWS.out hg2.size
      have HW3 : Hid (∀ w3, But w2.heap.size w2b w3 → (∃ fn tmps assign body, (Instr.yield l #[.agg e.cells]).run Tryz.prog w3 = .ok (.round l fn tmps assign body) w3 ∧ RoundIn Fence.wide (n - 1) Tryz.prog l fn tmps assign body w3 fun e' W' => e' = .returned (.bool true) ∧ J (L.map Prod.snd ++ [e]) W' ∧ KeepsWalks w3 W') ∧ w3.ranges Tryz.prog 3 gF.R bm W.heap.size c D (fun z => left z && !z.sameKey kl) cnt2 ∧ W.heap.size < w3.heap.size) := fun w3 hbut => by
        have hb3 : Below w2.heap.size w2 w3 := hbut.below hb2b hb2b.size (Nat.le_refl _)
        refine ⟨?_, ?_, Nat.lt_of_lt_of_le hws2 hb3.size⟩
        · exact HY.out (L.map Prod.snd) e w3 (HJ.out _ w2 w3 none hJ2 ⟨hb3.os, hb3.tape, hb3.output, hb3.size, fun j hj _ => hb3.block j hj⟩ (fun r e => by cases e)) (by rw [List.length_map]; have := HCS.out; omega)
        · have hgr : w2b.grownBy w3 (some w2.heap.size) := ⟨hbut.os, hbut.tape, hbut.output, hbut.size, fun j hj hn => hbut.block j hj fun e => hn (by rw [e])⟩
          have hbl2 := HBL.out
          exact hrgb.kept hgr (fun e => by have e := Option.some.inj e; have := hs2; omega) (fun e => by have e := Option.some.inj e; omega)
      have hen' : (Instr.entry (.pointer (some ⟨W.heap.size, 0, none⟩))).run Tryz.prog w2 = .ok (.tuple #[gF.kV x, .agg e.cells]) w2 := hen
      have HKK := hid (And.intro k1 (And.intro k3 k4))
      have HLK := hid hlk
      have HLT := hid hlt
      have HE1 := hid e.one
      rw [show gF.eV e = Value.agg e.cells from rfl]
      generalize gF.kV x = kx at *
      clear hkey hlk hv hat hrg2 hlt hg2 hs2 hen k1 k2 k3 k4 hJ2 hb2b hrgb hws2
      gi_wp2_with (first | (refine wpListIn_stR (fun _ => trivial) rfl 45 (.tmp 4) (.tmp 10) rfl w2.heap.size e.cells rfl rfl 45 zFw.cells (by rw [← HWB.out]; exact HRN.out) (by kernel_rfl) rfl HE1.out ?_; rw [← HWB.out]; intro w3 hw3 hbut3; obtain ⟨⟨fn, tmps, assign, body, hy, hR⟩, hrg3, hs3⟩ := HW3.out w3 hbut3; have HL3 := hid (load_fw hw3); have HRG3 := hid hrg3; have HS3 := hid hs3; clear hw3 hbut3 hrg3 hs3) | (refine wpListIn_vl (fun _ => trivial) rfl (by intro c hc; cases hc) (ex_load 45 ⟨w2.heap.size, 0, none⟩ (.tmp 4) _ rfl rfl HL3.out) ?_) | gi_in)
      refine hR.mono ?_
      rintro _ W3 ⟨rfl, hJ3, hk3⟩
      have HRG5 := hid (HRG3.out.of_walks hk3)
      have HJ3 := hid hJ3
      have HS5 : Hid (W.heap.size < W3.heap.size) := Nat.lt_of_lt_of_le HS3.out hk3.size
      clear hJ3 hk3 hR hy
      gi_wp2
      go_roundw
      case rel =>
        refine ⟨_, cnt2, L ++ [(k, e)], HRG5, ?_, ?_, ?_, HS5⟩
        · have := HCS.out; have := HLT.out; unfold Hid; simp; omega
        · obtain ⟨k1, k3, k4⟩ := HKK.out
          have h := HM.out.step k1 k4 (by rw [← k3]; exact HLK.out)
          rw [← k3] at h
          exact h
        · unfold Hid
          rw [List.map_append]
          exact HJ3.out
      case measure =>
        have h1 := HRG5.out.left_eq
        have h2 := HRG.out.left_eq
        have h3 := HLT.out
        simp only [h1, h2]
        exact h3

theorem values_new (bm : Nat) (w : World) : Calls Tryz.prog 17 #[.map (some bm)] w fun e w' => e = .returned (.func (.func 31) #[] #[.pointer (some ⟨w.heap.size, 0, none⟩)]) ∧ w' = w.alloc (.cells #[.map (some bm)] 59) := by
  go_enter Tryz.func17, Tryz.ntmps17
  go_wp2_with fail
  go_ret
  exact ⟨rfl, rfl⟩

end Go.Proofs.YtkkfioebpppffaaGreatDoor.Fl

namespace Go.Proofs.YtkkfioebpppffaaGreatDoor.Fl
open Go.Proofs.YtkkfioebpppffaaGreatDoor Go.ChangeShapes Go.WideShapes Go.ChangeAt Go.RowKit Go.Maps N
open Go.Shelf
attribute [local go_sem] Oper.semAt_some
set_option maxHeartbeats 8000000
set_option maxRecDepth 100000

/-! ### collected -/
theorem ex_append {o : Oper} {a : Act} {w w' : World} {v' v u : Value} (d s : Operand) (t t' : TypeId) (ho : o.op = .call { callee := .builtin .append, args := #[d, s], argTypes := #[t, t'] }) (hd : a.eval d = v) (hs : a.eval s = u)
    (hr : (Builtin.append_ #[t, t'] o.type #[v, u]).run Tryz.prog w = .ok v' w') : (execOp a.eval o).run Tryz.prog w = .ok (.value v') w' := by
  unfold execOp
  simp only [ho, resolve, invoke, builtin, Sem.run_bind, Sem.run_pure, Result.andThen_ok, List.map_toArray, List.map_cons, List.map_nil, hd, hs, hr]
theorem build1F (l : Fw) (u : World) : (Instr.buildSlice 41 1 #[(0, .agg l.cells)]).run Tryz.prog u = .ok (.slice (some ⟨u.heap.size, 0, none⟩) 1 1) (u.alloc (.cells l.cells 45)) := by kernel_rfl

structure SqV (w w1 : World) (L : List Fw) (W : World) (vp : Value) : Prop where
  sz : w1.heap.size ≤ W.heap.size
  ch : Chg (fun b => b = w.heap.size) w1 W
  bp : W.heap[w.heap.size]? = some (.cells #[vp] 41)
  rp : Ow.Own kF W w1.heap.size vp L
theorem SqV.app {w w1 W w6 : World} {L : List Fw} {vp v6 : Value} {tmp : Obj} (h : SqV w w1 L W vp) (hs : w.heap.size + 1 ≤ w1.heap.size) {k : Fw} (hown : Ow.Own kF w6 w1.heap.size v6 (L ++ [k])) (hg : (W.alloc tmp).grownBy w6 vp.ownBlock) :
    SqV w w1 (L ++ [k]) (w6.setCell ⟨w.heap.size, 0, none⟩ v6) v6 ∧ KeepsC W (w6.setCell ⟨w.heap.size, 0, none⟩ v6) ∧ w6.heap[w.heap.size]? = some (.cells #[vp] 41) := by
  have hc := grew (u := v6) w.heap.size hg
  have hz := h.sz
  have hlow : ∀ b, b < w1.heap.size → vp.ownBlock ≠ some b := fun b hb e => by have := (h.rp.lt e).1; omega
  have hb6 : w6.heap[w.heap.size]? = some (.cells #[vp] 41) := (hg.block _ (by simp; omega) (fun e => hlow _ (by omega) e.symm)).trans ((Below.heap_alloc _ _ _ (by omega)).trans h.bp)
  refine ⟨⟨Nat.le_trans h.sz hc.size, ⟨hc.os.trans h.ch.os, hc.tape.trans h.ch.tape, hc.output.trans h.ch.output, Nat.le_trans h.ch.size hc.size, fun k hk hn => ?_⟩, ?_, ?_⟩, ⟨hc.size, fun j o hj ho => (hc.block j (Array.getElem?_eq_some_iff.1 hj).1 (fun hx => ?_)).trans hj⟩, hb6⟩
  · refine (hc.block k (by omega) (fun hx => ?_)).trans (h.ch.block k hk hn)
    rcases hx with hx | hx
    · exact hn hx
    · exact hlow k hk hx
  · exact Me.set_cells (i := 0) (v := v6) hb6
  · exact hown.keeps (S := fun k => k = w.heap.size) (Me.Keeps.set (S := fun k => k = w.heap.size) (Me.Keeps.refl _ _) ⟨w.heap.size, 0, none⟩ rfl v6) fun b hb e => by have := (hown.lt hb).1; omega
  · rcases hx with hx | hx
    · rw [hx, h.bp] at hj; cases hj; cases ho
    · obtain ⟨cs, hcs⟩ := h.rp.kind hx
      rw [hcs] at hj; cases hj; cases ho
theorem SqV.own {w w1 : World} (hs : w.heap.size + 1 ≤ w1.heap.size) : OwnC w1.heap.size (fun L W => ∃ vp, SqV w w1 L W vp) := by
  rintro i W W' row ⟨vp, h⟩ hg hr
  have hs1 := h.sz
  have hne : ∀ j, j < w1.heap.size → some j ≠ row := fun j hj e => by have := (hr j e.symm).1; omega
  refine ⟨vp, Nat.le_trans h.sz hg.size, ⟨hg.os.trans h.ch.os, hg.tape.trans h.ch.tape, hg.output.trans h.ch.output, Nat.le_trans h.ch.size hg.size, fun j hj hn => (hg.block j (by omega) (hne j hj)).trans (h.ch.block j hj hn)⟩, (hg.block _ (by omega) (hne _ (by omega))).trans h.bp, ?_⟩
  refine h.rp.keeps (S := fun k => row = some k) (Me.Keeps.grown hg fun k e => e) fun k hk e => ?_
  obtain ⟨o, ho, hm⟩ := (hr k e).2
  obtain ⟨cs, hcs⟩ := h.rp.kind hk
  rw [hcs] at ho
  cases ho
  cases hm

theorem appendV_any (Bm bm c : Nat) {g : Int → Option Fw} (w : World) (hBm : w.heap[Bm]? = some (.cells #[.map (some bm)] 59)) (hm : Mq.MapG gF w bm g c) (hc : c ≤ 1000000) :
    Calls Tryz.prog 50 #[.slice none 0 0, .func (.func 31) #[] #[.pointer (some ⟨Bm, 0, none⟩)]] w fun e w' => ∃ v xs, e = .returned v ∧ AllV g xs ∧ Ow.Own kF w' w.heap.size v xs ∧ Below w.heap.size w w' := by
  obtain ⟨w1, HW1⟩ : ∃ w1, Hid (w1 = w.alloc (.cells #[.slice none 0 0] 41)) := ⟨_, rfl⟩
  have hs1 : w1.heap.size = w.heap.size + 1 := by rw [HW1.out]; simp
  have hb1 : Below w.heap.size w w1 := by rw [HW1.out]; exact (Below.refl _ _).alloc (Nat.le_refl _) _
  have r4 : w1.heap[w.heap.size]? = some (.cells #[.slice none 0 0] 41) := by rw [HW1.out]; exact heap_alloc_new w _
  have HSEQ := hid (values_gives 8 (by omega) Bm bm c w1 (below_keeps hb1 hBm (Array.getElem?_eq_some_iff.1 hBm).1) (hm.kept (hb1.block _ hm.lt)))
  have HT0 : Hid (SqV w w1 [] w1 (.slice none 0 0)) := ⟨Nat.le_refl _, Chg.refl _ _, r4, Ow.Own.nil _ _⟩
  have HS1 : Hid (w.heap.size + 1 ≤ w1.heap.size) := by unfold Hid; omega
  have HB1 := hid hb1
  clear hb1 r4 hs1 hBm hm
  refine (callsIn_wide (n := 9)).1 ?_
  refine callsIn_of_wp_marks Tryz.func50 rfl trivial ?_ rfl
  refine wpIn_wide.2 ?_
  simp only [Tryz.ntmps50, List.size_toArray, List.length_cons, List.length_nil, Nat.reduceAdd, Nat.reduceSub, Array.replicate_succ, Array.replicate_zero, List.push_toArray, List.append_toArray, List.nil_append, List.cons_append]
  go_upto_region 1 with fail
  rw [← HW1.out]
  go_wp2_with fail
  refine wpIn_wide.1 (wpIn_seq (β := Nat) (n := 9) (F := Fence.wide) rfl (by omega) (gf := 31) (lb := #[.pointer (some ⟨Bm, 0, none⟩)]) rfl trivial (enters_of Tryz.func31 (by kernel_rfl) rfl)
    HSEQ.out rfl (fun L W => ∃ vp, SqV w w1 L W vp) ?hI ?h0 (fun k b tt => (tt.setIfInBounds 7 (.agg k.cells)).setIfInBounds 5 (.pointer (some ⟨b, 0, none⟩))) (fun k b W => W.heap[b]? = some (.cells k.cells 45 (0, 0))) ?hAy ?assign ?body ?done)
  case hI => exact SqV.own HS1.out
  case h0 => exact ⟨_, HT0.out⟩
  case hAy =>
    rintro k b _ W W' row h2 hg hr
    refine (hg.block _ (Array.getElem?_eq_some_iff.1 h2).1 (fun he => ?_)).trans h2
    obtain ⟨_, o, ho, hm⟩ := hr b he.symm
    rw [h2] at ho
    cases ho
    cases hm
  case assign =>
    intro l pre k W K hi hK
    obtain ⟨W2, HW2'⟩ : ∃ W2, Hid (W2 = W.alloc (.cells #[.int .u32 0, .int .u32 0, .int .u8 0, .int .u16 0, .int .u16 0, .int .u32 0, .int .u32 0, .int .u8 0, .int .u16 0, .int .u16 0, .int .i64 0, .int .i64 0] 45)) := ⟨_, rfl⟩
    have HRN : Hid (W2.heap[W.heap.size]? = some (.cells zFw.cells 45 (0, 0))) := by unfold Hid; rw [HW2'.out]; exact heap_alloc_new _ _
    have hbW : Below W.heap.size W W2 := by rw [HW2'.out]; exact (Below.refl _ _).alloc (Nat.le_refl _) _
    have HK3 : Hid (∀ W3, W3.heap[W.heap.size]? = some (.cells k.cells 45 (0, 0)) → But W.heap.size W2 W3 → K { tmps := ((_ : Array Value).setIfInBounds 7 (.agg k.cells)).setIfInBounds 5 (.pointer (some ⟨W.heap.size, 0, none⟩)), defers := [] } W3) := fun W3 hw3 hbut => by
      have hb3 : Below W.heap.size W W3 := hbut.below hbW hbW.size (Nat.le_refl _)
      refine hK W.heap.size W3 (KeepsC.of_below hb3) ?_ hw3
      exact (SqV.own HS1.out) pre W W3 none hi ⟨hb3.os, hb3.tape, hb3.output, hb3.size, fun j hj _ => hb3.block j hj⟩ (fun r e => by cases e)
    have HK1 := hid k.one
    simp only [List.setIfInBounds_toArray, List.set_cons_zero, List.set_cons_succ] at HK3 ⊢
    clear hK hi hbW
    gi_wp2_with (first | (refine wpListIn_stR (fun _ => trivial) rfl 45 (.tmp 5) (.tmp 7) rfl W.heap.size k.cells rfl rfl 45 zFw.cells (by rw [← HW2'.out]; exact HRN.out) (by kernel_rfl) rfl HK1.out ?_; rw [← HW2'.out]; intro W3 hw3 hbut3; have HW3 := hid (HK3.out W3 hw3 hbut3); clear hw3 hbut3) | gi_in)
    exact HW3.out
  case body =>
    rintro l pre k b W hl ⟨vp, h⟩ j2 hlen
    have c4 : W.cell? ⟨w.heap.size, 0, none⟩ = some vp := by rw [cell_of_row _ _ _ _ _ _ h.bp]; rfl
    obtain ⟨ap, np, cp, hvp, -, -, -⟩ := h.rp.shape
    subst hvp
    have HL2 := hid (load_fw j2)
    have HTI := hid h
    have hzz := h.sz
    obtain ⟨v6, w6, hr6, hown6, hgrow6, -⟩ := Ow.append_one (K := kF) (w := W.alloc (.cells k.cells 45)) 41 k W.heap.size (h.rp.below ((Below.refl _ _).alloc (Nat.le_refl _) _)) (heap_alloc_new W _) (by simp; omega) (by omega)
    obtain ⟨ht6, hk6, hb6⟩ := h.app HS1.out hown6 hgrow6
    obtain ⟨g6, n6, c6, hv6, -, -, -⟩ := hown6.shape
    subst hv6
    have HR6 : Hid ((Builtin.append_ #[41, 41] 41 #[.slice ap np cp, .slice (some ⟨W.heap.size, 0, none⟩) 1 1]).run Tryz.prog (W.alloc (.cells k.cells 45)) = .ok (.slice g6 n6 c6) w6) := hr6
    have q0 : w6.cell? ⟨w.heap.size, 0, none⟩ = some (.slice ap np cp) := by rw [cell_of_row _ _ _ _ _ _ hb6]; rfl
    have qf : w6.frozen? ⟨w.heap.size, 0, none⟩ = false := frozen_of_row _ _ _ _ _ hb6
    obtain ⟨W9, HW9⟩ : ∃ W9, Hid (W9 = w6.setCell ⟨w.heap.size, 0, none⟩ (.slice g6 n6 c6)) := ⟨_, rfl⟩
    rw [← HW9.out] at ht6 hk6
    have HFIN : Hid (KeepsC W W9 ∧ ∃ vp, SqV w w1 (pre ++ [k]) W9 vp) := ⟨hk6, _, ht6⟩
    clear h hl hlen j2 hr6 hown6 hgrow6 ht6 hk6 hb6 hzz
    simp only [List.setIfInBounds_toArray, List.set_cons_zero, List.set_cons_succ]
    gi_wp2_with (first | ((refine wpListIn_vl (fun _ => trivial) rfl (by intro c hc; cases hc) (ex_load 45 ⟨b, 0, none⟩ (.tmp 5) _ rfl rfl HL2.out) ?_); refine wpListIn_vl (fun _ => trivial) rfl (by intro c hc; cases hc) (ex_bslice 41 1 #[(0, .tmp 9)] #[(0, .agg k.cells)] rfl (by simp [Act.put, Act.eval]) (build1F k W)) ?_; refine wpListIn_vl (fun _ => trivial) rfl (by intro c hc; cases hc) (ex_append (.tmp 8) (.tmp 10) _ _ rfl rfl rfl HR6.out) ?_; simp only [Act.put, List.setIfInBounds_toArray, List.set_cons_zero, List.set_cons_succ]) | gi_in)
    rw [← HW9.out]
    exact HFIN.out
  case done =>
    rintro D W xs hD hS ⟨vp, h⟩ hK
    have c4 : W.cell? ⟨w.heap.size, 0, none⟩ = some vp := by rw [cell_of_row _ _ _ _ _ _ h.bp]; rfl
    obtain ⟨ap, np, cp, hvp, -, -, -⟩ := h.rp.shape
    subst hvp
    have HKD := hid hK
    have hs := HS1.out
    have HDD : Hid (w.heap.size ≤ D) := Nat.le_trans HB1.out.size hD
    have hbW : Below w.heap.size w W := HB1.out.trans ⟨h.ch.os, h.ch.tape, h.ch.output, h.ch.size, fun j hj => h.ch.block j (by omega) (by omega)⟩
    have HBF := hid hbW
    have HRP : Hid (Ow.Own kF W w.heap.size (.slice ap np cp) xs) := h.rp.low (by omega : w.heap.size ≤ w1.heap.size)
    have HSS := hid hS
    clear h hK hD hbW hS
    go_wp2_with fail
    have hKz : W.heap[D]? = some (.deferred (some [])) := HKD.out
    have hbf : Below w.heap.size w (W.putObj D (.deferred none)) := HBF.out.trans (belowK_b (w := w) (Nat.le_refl _) W D _ _ HDD.out hKz rfl rfl)
    have hrp : Ow.Own kF (W.putObj D (.deferred none)) w.heap.size (.slice ap np cp) xs := ownsRow_putObj (W := W) HRP.out _ hKz rfl
    refine ⟨by simp, .inl ⟨_, _, rfl, run_takeDeferred hKz, ?_⟩⟩
    exact ⟨_, results_tmp Tryz.results50 _ _ _, _, _, rfl, HSS.out, hrp, hbf⟩

end Go.Proofs.YtkkfioebpppffaaGreatDoor.Fl

namespace Go.Proofs.YtkkfioebpppffaaGreatDoor.Fl
open Go.Proofs.YtkkfioebpppffaaGreatDoor Go.ChangeShapes Go.WideShapes Go.ChangeAt Go.RowKit Go.Maps N
open Go.Shelf
attribute [local go_sem] Oper.semAt_some
set_option maxHeartbeats 8000000
set_option maxRecDepth 100000

theorem collectV_any (Bm bm c : Nat) {g : Int → Option Fw} (w : World) (hBm : w.heap[Bm]? = some (.cells #[.map (some bm)] 59)) (hm : Mq.MapG gF w bm g c) (hc : c ≤ 1000000) :
    Calls Tryz.prog 30 #[.func (.func 31) #[] #[.pointer (some ⟨Bm, 0, none⟩)]] w fun e w' => ∃ ao n cp xs, e = .returned (.slice ao n cp) ∧ AllV g xs ∧ Ow.Own kF w' w.heap.size (.slice ao n cp) xs ∧ Below w.heap.size w w' := by
  have HA := hid (appendV_any Bm bm c w hBm hm hc)
  clear hBm hm hc
  go_enter Tryz.func30, Tryz.ntmps30
  go_wp2_with fail
  refine HA.out.mono ?_
  rintro e w' ⟨v, ss, rfl, hS, ho, hb⟩
  obtain ⟨a, n, cp, hv, -, -, -⟩ := ho.shape
  subst hv
  have HF := hid (And.intro hS (And.intro ho hb))
  clear hS ho hb
  go_wp2_with fail
  go_ret
  exact ⟨_, _, _, ss, rfl, HF.out⟩

theorem sortedV_any (Bm bm c : Nat) {g : Int → Option Fw} (w : World) (hBm : w.heap[Bm]? = some (.cells #[.map (some bm)] 59)) (hm : Mq.MapG gF w bm g c) (hc : c ≤ 1000000) (hle : ∀ xs, AllV g xs → xs.length ≤ 1000000) :
    Calls Tryz.prog 16 #[.func (.func 31) #[] #[.pointer (some ⟨Bm, 0, none⟩)], .func (.func 18) #[] #[]] w fun e w' => ∃ ao n cp xs R, e = .returned (.slice ao n cp) ∧ AllV g xs ∧ R.Perm xs ∧ R.Pairwise (fun x y => ltOf cmpTh y x = false) ∧ Ow.Own kF w' w.heap.size (.slice ao n cp) R ∧ Below w.heap.size w w' := by
  have HA := hid (collectV_any Bm bm c w hBm hm hc)
  have HLE := hid hle
  clear hBm hm hle hc
  go_enter Tryz.func16, Tryz.ntmps16
  go_wp2_with fail
  refine HA.out.mono ?_
  rintro e w1 ⟨a, n, cp, xs, rfl, hS, ho, hb⟩
  have HC := hid (sortF_any 18 cmpTh swoTh byThere_grow (enters_of Tryz.func18 (by kernel_rfl) rfl) a n cp xs w.heap.size w1 ho hb.size (HLE.out xs hS))
  have HB := hid hb
  have HS := hid hS
  clear hS ho hb HA
  go_wp2_with fail
  refine HC.out.mono ?_
  rintro e w2 ⟨rfl, R, hp, hr, ho2, hb2⟩
  have HF : Hid (AllV g xs ∧ R.Perm xs ∧ R.Pairwise (fun x y => ltOf cmpTh y x = false) ∧ Ow.Own kF w2 w.heap.size (.slice a n cp) R ∧ Below w.heap.size w w2) := ⟨HS.out, hp, hr, ho2, HB.out.trans hb2⟩
  clear hr hp ho2 hb2
  go_wp2_with fail
  go_ret
  exact ⟨_, _, _, xs, R, rfl, HF.out⟩

/-- All flows of a map are those of the table. -/
theorem allV_perm {q : Raw} {L : List (Int × Fw)} {lim : Int} (I : Inv lim q L) (hlast : q.last < 4611686018427387904) {xs : List Fw} (h : AllV q.g xs) : xs.Perm (L.map (·.2)) := by
  obtain ⟨M, h1, h2, h3, rfl⟩ := h
  refine List.Perm.map _ ?_
  have hnd : ∀ {A : List (Int × Fw)}, (A.map Prod.fst).Nodup → A.Nodup := fun {A} hA => by
    have := List.pairwise_map.1 hA
    exact this.imp fun hne e => hne (by rw [e])
  refine (List.perm_ext_iff_of_nodup (hnd h1) (hnd ?_)).2 fun p => ?_
  · exact List.pairwise_map.2 (I.m.srt.imp fun {a b} hab => by omega)
  · have hk : p ∈ L → gF.kOk p.1 := fun hp => by
      have := I.m.pos p hp
      exact wf64 ⟨by omega, by omega⟩
    constructor
    · intro hp
      exact (I.m.gk p.1 p.2).1 ((h2 p.1 p.2 (h3 p hp)).1 hp)
    · intro hp
      exact (h2 p.1 p.2 (hk hp)).2 ((I.m.gk p.1 p.2).2 hp)

/-- List. -/
theorem list_any (w : World) (b : Nat) (lim : Int) (q : Raw) (F : Nat → Prop) (L : List (Int × Fw)) (hs : St w b lim q F) (I : Inv lim q L) (hlim : lim ≤ 65536) (hlast : q.last < 4611686018427387904) :
    Calls Tryz.prog 7 #[.pointer (some ⟨b, 0, none⟩)] w fun e w' => ∃ ao n cp R, e = .returned (.slice ao n cp) ∧ R.Perm (L.map (·.2)) ∧ R.Pairwise (fun x y => ltOf cmpTh y x = false) ∧ Ow.Own kF w' w.heap.size (.slice ao n cp) R ∧ Below w.heap.size w w' := by
  obtain ⟨p, hp, hF⟩ := hs
  have c3 : w.cell? ⟨b, 3, none⟩ = some (.map (some p.fb)) := hp.cells (j := 3) rfl
  have hcg : q.cg ≤ 1000000 := by rw [I.m.cg]; have := I.lm; omega
  obtain ⟨wa, HWA⟩ : ∃ wa, Hid (wa = w.alloc (.cells #[.map (some p.fb)] 59)) := ⟨_, rfl⟩
  have hba : Below w.heap.size w wa := by rw [HWA.out]; exact (Below.refl _ _).alloc (Nat.le_refl _) _
  have HV := hid (values_new p.fb w)
  have HS := hid (sortedV_any w.heap.size p.fb q.cg wa (by rw [HWA.out]; exact heap_alloc_new w _) (hp.below hba).fm hcg fun xs hx => by
    rw [(allV_perm I hlast hx).length_eq, List.length_map]; have := I.lm; omega)
  have HP : Hid (∀ xs, AllV q.g xs → xs.Perm (L.map (·.2))) := fun xs hx => allV_perm I hlast hx
  have HBA := hid hba
  generalize p.fb = fb at *
  clear hba hcg hp hF I
  go_enter Tryz.func7, Tryz.ntmps7
  go_wp2_with fail
  refine HV.out.mono ?_
  rintro _ w1 ⟨rfl, e⟩
  rw [← HWA.out] at e
  subst e
  go_wp2_with fail
  refine HS.out.mono ?_
  rintro _ w2 ⟨ao, n, cp, xs, R, rfl, hx, hp, hr, ho, hb⟩
  have HF : Hid (R.Perm (L.map (·.2)) ∧ R.Pairwise (fun x y => ltOf cmpTh y x = false) ∧ Ow.Own kF w2 w.heap.size (.slice ao n cp) R ∧ Below w.heap.size w w2) := ⟨hp.trans (HP.out xs hx), hr, ho.low HBA.out.size, HBA.out.trans (hb.mono HBA.out.size)⟩
  clear hx hp hr ho hb
  go_wp2_with fail
  go_ret
  exact ⟨_, _, _, R, rfl, HF.out⟩
end Go.Proofs.YtkkfioebpppffaaGreatDoor.Fl
