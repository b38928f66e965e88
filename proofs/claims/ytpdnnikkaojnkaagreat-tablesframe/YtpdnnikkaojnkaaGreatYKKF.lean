import Derived.Test.YtpdnnikkaojnkaaGreatYKKN
namespace Go.Proofs.YtpdnnikkaojnkaaGreat.Rt
open Go.Proofs.YtpdnnikkaojnkaaGreat Go.ChangeShapes Go.WideShapes Go.ChangeAt Go.RowKit Go.Shelf Go.Maps Tri N
attribute [local go_sem] Oper.semAt_some
set_option maxHeartbeats 8000000
set_option maxRecDepth 100000
def AllF (f : Mc -> Option Fd) (ss : List Mc) : Prop := ss.Nodup /\ ∀ k, k ∈ ss ↔ gF.kOk k /\ (f k).isSome = true
theorem keysF_gives (n : Nat) (hn : 1 <= n) (Bm bm c : Nat) {f : Mc -> Option Fd} (w : World) (hBm : w.heap[Bm]? = some (.cells #[.map (some bm)] 126)) (hm : MapG gF w bm f c) :
  SeqGives Fence.wide n Tryz.prog 76 #[.pointer (some ⟨Bm, 0, none⟩)] gF.kV (AllF f) c w := fun l J W hW hJ hY h0 => by
 obtain ⟨D, hown, hsz, hsay, hcl⟩ := hm.kept (hW.block _ hm.lt)
 have hcell : W.cell? ⟨Bm, 0, none⟩ = some (.map (some bm)) := by rw [cell_of_row _ _ _ _ _ _ (below_keeps hW hBm (gsl hBm))]; rfl
 have HSAY := hid hsay
 have HCL := hid hcl
 have HSZ := hid hsz
 have HJ := hid hJ
 have HY := hid hY
 have H0 := hid h0
 clear hsay hcl hsz hJ hY h0 hW hBm hm
 refine callsIn_of_wp Tryz.func76 rfl trivial ?_ rfl
 simp only [Tryz.ntmps76, List.size_toArray, List.length_cons, List.length_nil, Nat.reduceAdd, Nat.reduceSub, Array.replicate_succ, Array.replicate_zero, List.push_toArray, List.append_toArray, List.nil_append, List.cons_append]
 gi_wp2_with (first | (gi_at_range; refine wpListIn_range_own _ rfl _ 126 rfl 40 44 gF.law gF.um _ bm c _ rfl hown ?_; intro w0 hrg0 hg0 hs0) | gi_in)
 go_frame
 have HRG0 := hid hrg0
 have HJ0 : Hid (J [] w0) := HJ.out [] W w0 none H0.out hg0 (fun r e => by cases e)
 clear hrg0 hg0 hs0 hown hcell
 gi_loopw [3] (fun _ wr => ∃ (left : Lit -> Bool) (cnt : Nat) (ss : List Mc), Hid (wr.ranges Tryz.prog 40 gF.R bm W.heap.size c D left cnt) /\ Hid (ss.length + cnt <= c) /\ Hid (MetG gF f D left ss) /\ Hid (J ss wr) /\ Hid (W.heap.size < wr.heap.size))
  (fun _ wr => wr.rangeLeft bm W.heap.size)
 case atStart =>
  exact ⟨_, _, [], HRG0, by unfold Hid; rw [HSZ.out]; simp, MetG.start HSAY.out, HJ0, by
   obtain ⟨_, _, _, _, _, _, _, _, _, h2, _⟩ := HRG0.out
   exact (gsl h2)⟩
 case round =>
  obtain ⟨left, cnt, ss, HRG, HCS, HM, HJS, HWS⟩ := hrel
  gi_wp2_with (first | (gi_at_next; refine wpListIn_next_ranges _ rfl _ rfl 40 gF.law gF.R id gF.eV (fun key kl _ => ⟨key, rfl⟩) gF.einv bm W.heap.size c _ _ _ rfl HRG.out ?_ ?_) | gi_in)
  ·intro hc0 hl0
   have HFIN : Hid (AllF f ss /\ J ss wr) := ⟨⟨HM.out.nd, fun k => ⟨fun hk => ⟨(HM.out.mem k hk).1, (HM.out.mem k hk).2.1⟩, fun hk => HM.out.all k hk.1 hk.2 (hl0 _)⟩⟩, HJS.out⟩
   clear hc0 hl0
   gi_wp2
   go_end0
   exact ⟨⟨_, rfl⟩, ss, HFIN.out⟩
  ·intro x e kl yd yp w2 cnt2 hkey hlk hv hat hrg2 hlt hg2 hs2 hen
   have hkey' : keyOf Tryz.prog 40 x = some kl := hkey
   obtain ⟨k, k1, rfl, k3, k4⟩ := HM.out.key HSAY.out HCL.out hkey' hlk
   have hJ2 : J ss w2 := HJ.out ss wr w2 (some W.heap.size) HJS.out hg2 (fun r e => by cases e; exact ⟨nL, HRG.out.iter_walk⟩)
   obtain ⟨w2b, HWB⟩ : ∃ w2b, Hid (w2b = w2.alloc (.cells #[.int .u8 (k.b0 : Int), .int .u8 (k.b1 : Int), .int .u8 (k.b2 : Int), .int .u8 (k.b3 : Int), .int .u8 (k.b4 : Int), .int .u8 (k.b5 : Int)] 40)) := ⟨_, rfl⟩
   have hJb : J ss w2b := by rw [HWB.out]; exact HJ.out ss w2 _ none hJ2 (World.grownBy_alloc w2 _ none) (fun r e => by cases e)
   have hrgb : w2b.ranges Tryz.prog 40 gF.R bm W.heap.size c D (fun z => left z && !z.sameKey kl) cnt2 := by rw [HWB.out]; exact hrg2.alloc _
   obtain ⟨fn, tmps, assign, body, hy, hR⟩ := HY.out ss k w2b hJb (by have := HCS.out; omega)
   have hen' : (Instr.entry (.pointer (some ⟨W.heap.size, 0, none⟩))).run Tryz.prog w2 = .ok (.tuple #[.agg #[.int .u8 (k.b0 : Int), .int .u8 (k.b1 : Int), .int .u8 (k.b2 : Int), .int .u8 (k.b3 : Int), .int .u8 (k.b4 : Int), .int .u8 (k.b5 : Int)], .agg e.cells]) w2 := hen
   have hy' : (Instr.yield l #[.agg #[.int .u8 (k.b0 : Int), .int .u8 (k.b1 : Int), .int .u8 (k.b2 : Int), .int .u8 (k.b3 : Int), .int .u8 (k.b4 : Int), .int .u8 (k.b5 : Int)]]).run Tryz.prog w2b = .ok (.round l fn tmps assign body) w2b := hy
   have HRG2 := hid hrgb
   have HKK := hid (And.intro k1 (And.intro k3 k4))
   have HLK := hid hlk
   have HLT := hid hlt
   have rb : w2b.heap[w2.heap.size]? = some (.cells #[.int .u8 (k.b0 : Int), .int .u8 (k.b1 : Int), .int .u8 (k.b2 : Int), .int .u8 (k.b3 : Int), .int .u8 (k.b4 : Int), .int .u8 (k.b5 : Int)] 40) := by rw [HWB.out]; exact heap_alloc_new w2 _
   have c0 : w2b.cell? ⟨w2.heap.size, 0, none⟩ = some (.int .u8 (k.b0 : Int)) := crw rb rfl
   have c1 : w2b.cell? ⟨w2.heap.size, 1, none⟩ = some (.int .u8 (k.b1 : Int)) := crw rb rfl
   have c2 : w2b.cell? ⟨w2.heap.size, 2, none⟩ = some (.int .u8 (k.b2 : Int)) := crw rb rfl
   have c3 : w2b.cell? ⟨w2.heap.size, 3, none⟩ = some (.int .u8 (k.b3 : Int)) := crw rb rfl
   have c4 : w2b.cell? ⟨w2.heap.size, 4, none⟩ = some (.int .u8 (k.b4 : Int)) := crw rb rfl
   have c5 : w2b.cell? ⟨w2.heap.size, 5, none⟩ = some (.int .u8 (k.b5 : Int)) := crw rb rfl
   have HS2 : Hid (W.heap.size < w2b.heap.size) := by have := HWS.out; have := (gsl rb); unfold Hid; omega
   rw [show gF.kV k = Value.agg #[.int .u8 (k.b0 : Int), .int .u8 (k.b1 : Int), .int .u8 (k.b2 : Int), .int .u8 (k.b3 : Int), .int .u8 (k.b4 : Int), .int .u8 (k.b5 : Int)] from rfl, show gF.eV e = Value.agg e.cells from rfl]
   rw [HWB.out] at c0 c1 c2 c3 c4 c5 hy'
   clear hkey hkey' hlk hv hat hrg2 hlt hg2 hs2 hen k1 k3 k4 hJ2 hy hJb hrgb rb
   gi_wp2
   rw [<- HWB.out]
   refine hR.mono ?_
   rintro _ W3 ⟨rfl, hJ3, hk3⟩
   have HRG3 := hid (HRG2.out.of_walks hk3)
   have HJ3 := hid hJ3
   have HS3 : Hid (W.heap.size < W3.heap.size) := Nat.lt_of_lt_of_le HS2.out hk3.size
   clear hJ3 hk3 hR c0 c1 c2 c3 c4 c5
   gi_wp2
   go_roundw
   case rel =>
    refine ⟨_, cnt2, ss ++ [k], HRG3, ?_, ?_, HJ3, HS3⟩
    ·have := HCS.out; have := HLT.out; unfold Hid; simp; omega
    ·obtain ⟨k1, k3, k4⟩ := HKK.out
     rw [k3]
     exact HM.out.step k1 k4 (by rw [<- k3]; exact HLK.out)
   case measure =>
    have h1 := HRG3.out.left_eq
    have h2 := HRG.out.left_eq
    have h3 := HLT.out
    simp only [h1, h2]
    exact h3
theorem keysF_new (bm : Nat) (w : World) : Calls Tryz.prog 54 #[.map (some bm)] w fun e w' => e = .returned (.func (.func 76) #[] #[.pointer (some ⟨w.heap.size, 0, none⟩)]) /\ w' = w.alloc (.cells #[.map (some bm)] 126) := by
 go_enter Tryz.func54, Tryz.ntmps54
 go_wp2_with fail
 go_ret
 exact ⟨rfl, rfl⟩
def kcF (L : List Mc) : List Value := L.flatMap fun k : Mc => [.int .u8 (k.b0 : Int), .int .u8 (k.b1 : Int), .int .u8 (k.b2 : Int), .int .u8 (k.b3 : Int), .int .u8 (k.b4 : Int), .int .u8 (k.b5 : Int)]
def OwnKF (w : World) (base : Nat) (v : Value) (L : List Mc) : Prop := w.ownsRow base 40 6 v L.length (kcF L)
theorem kcF_snoc (L : List Mc) (k : Mc) : kcF L ++ [.int .u8 (k.b0 : Int), .int .u8 (k.b1 : Int), .int .u8 (k.b2 : Int), .int .u8 (k.b3 : Int), .int .u8 (k.b4 : Int), .int .u8 (k.b5 : Int)] = kcF (L ++ [k]) := by
 unfold kcF
 rw [List.flatMap_append]
 rfl
structure SqIF (w w1 : World) (L : List Mc) (W : World) (vp : Value) : Prop where
 sz : w1.heap.size <= W.heap.size
 ch : Chg (fun b => b = w.heap.size) w1 W
 bp : W.heap[w.heap.size]? = some (.cells #[vp] 121)
 rp : W.ownsRow w1.heap.size 40 6 vp L.length (kcF L)
theorem SqIF.app {w w1 W w6 : World} {L : List Mc} {vp v6 : Value} {tmp : Obj} (h : SqIF w w1 L W vp) (hs : w.heap.size + 1 <= w1.heap.size) {k : Mc} (hown : w6.ownsRow w1.heap.size 40 6 v6 (L.length + 1) (kcF L ++ [.int .u8 (k.b0 : Int), .int .u8 (k.b1 : Int), .int .u8 (k.b2 : Int), .int .u8 (k.b3 : Int), .int .u8 (k.b4 : Int), .int .u8 (k.b5 : Int)])) (hg : (W.alloc tmp).grownBy w6 vp.ownBlock) :
  SqIF w w1 (L ++ [k]) (w6.setCell ⟨w.heap.size, 0, none⟩ v6) v6 /\ KeepsC W (w6.setCell ⟨w.heap.size, 0, none⟩ v6) /\ w6.heap[w.heap.size]? = some (.cells #[vp] 121) := by
 have hc := grew (u := v6) w.heap.size hg
 have hz := h.sz
 have hlow : ∀ b, b < w1.heap.size -> vp.ownBlock ≠ some b := fun b hb e => by have := (row_own h.rp e).1; omega
 have hb6 : w6.heap[w.heap.size]? = some (.cells #[vp] 121) := (hg.block _ (by simp; omega) (fun e => hlow _ (by omega) e.symm)).trans ((Below.heap_alloc _ _ _ (by omega)).trans h.bp)
 refine ⟨⟨Nat.le_trans h.sz hc.size, ⟨hc.os.trans h.ch.os, hc.tape.trans h.ch.tape, hc.output.trans h.ch.output, Nat.le_trans h.ch.size hc.size, fun k hk hn => ?_⟩, ?_, ?_⟩, ⟨hc.size, fun j o hj ho => (hc.block j (gsl hj) (fun hx => ?_)).trans hj⟩, hb6⟩
 ·refine (hc.block k (by omega) (fun hx => ?_)).trans (h.ch.block k hk hn)
  rcases hx with hx | hx
  ·exact hn hx
  ·exact hlow k hk hx
 ·rw [set_row hb6]; rfl
 ·rw [kcF_snoc] at hown
  have := row_chg hown (Chg.of_but (X := fun b => b = w.heap.size) (But.set w.heap.size 0 w6 v6) rfl) (fun b hb e => by have := (row_own hown hb).1; omega)
  rw [List.length_append]
  exact this
 ·rcases hx with hx | hx
  ·rw [hx, h.bp] at hj; cases hj; cases ho
  ·obtain ⟨_, cs, hcs⟩ := row_own h.rp hx
   rw [hcs] at hj; cases hj; cases ho
theorem SqIF.own {w w1 : World} (hs : w.heap.size + 1 <= w1.heap.size) : OwnC w1.heap.size (fun L W => ∃ vp, SqIF w w1 L W vp) := by
 rintro i W W' row ⟨vp, h⟩ hg hr
 have hs1 := h.sz
 have hne : ∀ j, j < w1.heap.size -> some j ≠ row := fun j hj e => by have := (hr j e.symm).1; omega
 refine ⟨vp, Nat.le_trans h.sz hg.size, ⟨hg.os.trans h.ch.os, hg.tape.trans h.ch.tape, hg.output.trans h.ch.output, Nat.le_trans h.ch.size hg.size, fun j hj hn => (hg.block j (by omega) (hne j hj)).trans (h.ch.block j hj hn)⟩, (hg.block _ (by omega) (hne _ (by omega))).trans h.bp, h.rp.kept hg ?_⟩
 rcases h.rp.2 with ⟨hv, _⟩ | ⟨g, cap, cur, hv, _, hgb, _⟩
 ·exact .inl (by rw [hv]; rfl)
 ·refine .inr fun e' => ?_
  rw [hv] at e'
  obtain ⟨o, ho, hm⟩ := (hr g (by simpa [Value.ownBlock] using e'.symm)).2
  rw [hgb] at ho
  cases ho
  cases hm
theorem infoKF : (Tryz.prog.info? 40).map (fun i => (i.zero, i.size, i.bytes)) = some (some (.agg #[.int .u8 0, .int .u8 0, .int .u8 0, .int .u8 0, .int .u8 0, .int .u8 0]), 6, 6) := by kernel_rfl
theorem appendF_any (Bm bm c : Nat) {f : Mc -> Option Fd} (w : World) (hBm : w.heap[Bm]? = some (.cells #[.map (some bm)] 126)) (hm : MapG gF w bm f c) (hc : c <= 256) :
  Calls Tryz.prog 89 #[.slice none 0 0, .func (.func 76) #[] #[.pointer (some ⟨Bm, 0, none⟩)]] w fun e w' => ∃ v ss, e = .returned v /\ AllF f ss /\ OwnKF w' w.heap.size v ss /\ Below w.heap.size w w' := by
 obtain ⟨i0, hi0, hz0, hz1, hz2⟩ := info_parts infoKF
 have HIP : Hid (Tryz.prog.info? 40 = some i0) := hi0
 obtain ⟨w1, HW1⟩ : ∃ w1, Hid (w1 = w.alloc (.cells #[.slice none 0 0] 121)) := ⟨_, rfl⟩
 have hs1 : w1.heap.size = w.heap.size + 1 := by rw [HW1.out]; simp
 have hb1 : Below w.heap.size w w1 := by rw [HW1.out]; exact bR.alloc nL _
 have r4 : w1.heap[w.heap.size]? = some (.cells #[.slice none 0 0] 121) := by rw [HW1.out]; exact heap_alloc_new w _
 have HSEQ := hid (keysF_gives 8 (by omega) Bm bm c w1 (below_keeps hb1 hBm (gsl hBm)) (hm.kept (hb1.block _ hm.lt)))
 have HT0 : Hid (SqIF w w1 [] w1 (.slice none 0 0)) := ⟨nL, Chg.refl _ _, r4, World.ownsRow_nil _ _ _ _⟩
 have HS1 : Hid (w.heap.size + 1 <= w1.heap.size) := by unfold Hid; omega
 have HB1 := hid hb1
 clear hb1 r4 hs1 hi0 hBm hm
 refine (callsIn_wide (n := 9)).1 ?_
 refine callsIn_of_wp_marks Tryz.func89 rfl trivial ?_ rfl
 refine wpIn_wide.2 ?_
 simp only [Tryz.ntmps89, List.size_toArray, List.length_cons, List.length_nil, Nat.reduceAdd, Nat.reduceSub, Array.replicate_succ, Array.replicate_zero, List.push_toArray, List.append_toArray, List.nil_append, List.cons_append]
 go_upto_region 1 with fail
 rw [<- HW1.out]
 go_wp2_with fail
 refine wpIn_wide.1 (wpIn_seq (β := Nat) (n := 9) (F := Fence.wide) rfl (by omega) (gf := 76) (lb := #[.pointer (some ⟨Bm, 0, none⟩)]) rfl trivial (enters_of Tryz.func76 (by kernel_rfl) rfl)
  HSEQ.out rfl (fun L W => ∃ vp, SqIF w w1 L W vp) ?hI ?h0 (fun k b tt => (tt.setIfInBounds 7 (.agg #[.int .u8 (k.b0 : Int), .int .u8 (k.b1 : Int), .int .u8 (k.b2 : Int), .int .u8 (k.b3 : Int), .int .u8 (k.b4 : Int), .int .u8 (k.b5 : Int)])).setIfInBounds 5 (.pointer (some ⟨b, 0, none⟩))) (fun k b W => W.heap[b]? = some (.cells #[.int .u8 (k.b0 : Int), .int .u8 (k.b1 : Int), .int .u8 (k.b2 : Int), .int .u8 (k.b3 : Int), .int .u8 (k.b4 : Int), .int .u8 (k.b5 : Int)] 40)) ?hAy ?assign ?body ?done)
 case hI => exact SqIF.own HS1.out
 case h0 => exact ⟨_, HT0.out⟩
 case hAy =>
  rintro k b _ W W' row h2 hg hr
  refine (hg.block _ (gsl h2) (fun he => ?_)).trans h2
  obtain ⟨_, o, ho, hm⟩ := hr b he.symm
  rw [h2] at ho
  cases ho
  cases hm
 case assign =>
  intro l pre k W K hi hK
  obtain ⟨W2, HW2'⟩ : ∃ W2, Hid (W2 = W.alloc (.cells #[.int .u8 (k.b0 : Int), .int .u8 (k.b1 : Int), .int .u8 (k.b2 : Int), .int .u8 (k.b3 : Int), .int .u8 (k.b4 : Int), .int .u8 (k.b5 : Int)] 40)) := ⟨_, rfl⟩
  have hbW : Below W.heap.size W W2 := by rw [HW2'.out]; exact bR.alloc nL _
  have hrW : W2.heap[W.heap.size]? = some (.cells #[.int .u8 (k.b0 : Int), .int .u8 (k.b1 : Int), .int .u8 (k.b2 : Int), .int .u8 (k.b3 : Int), .int .u8 (k.b4 : Int), .int .u8 (k.b5 : Int)] 40) := by rw [HW2'.out]; exact heap_alloc_new W _
  have HK := hK W.heap.size W2 (KeepsC.of_below hbW) (by rw [HW2'.out]; exact (SqIF.own HS1.out).alloc _ hi) hrW
  simp only [List.setIfInBounds_toArray, List.set_cons_zero, List.set_cons_succ] at HK ⊢
  clear hK hi hbW hrW
  rw [show gF.kV k = Value.agg #[.int .u8 (k.b0 : Int), .int .u8 (k.b1 : Int), .int .u8 (k.b2 : Int), .int .u8 (k.b3 : Int), .int .u8 (k.b4 : Int), .int .u8 (k.b5 : Int)] from rfl]
  gi_wp2
  rw [<- HW2'.out]
  exact HK
 case body =>
  rintro l pre k b W hl ⟨vp, h⟩ j2 hlen
  have p0 : W.cell? ⟨b, 0, none⟩ = some (.int .u8 (k.b0 : Int)) := crw j2 rfl
  have p1 : W.cell? ⟨b, 1, none⟩ = some (.int .u8 (k.b1 : Int)) := crw j2 rfl
  have p2 : W.cell? ⟨b, 2, none⟩ = some (.int .u8 (k.b2 : Int)) := crw j2 rfl
  have p3 : W.cell? ⟨b, 3, none⟩ = some (.int .u8 (k.b3 : Int)) := crw j2 rfl
  have p4 : W.cell? ⟨b, 4, none⟩ = some (.int .u8 (k.b4 : Int)) := crw j2 rfl
  have p5 : W.cell? ⟨b, 5, none⟩ = some (.int .u8 (k.b5 : Int)) := crw j2 rfl
  have c4 : W.cell? ⟨w.heap.size, 0, none⟩ = some vp := crw h.bp rfl
  obtain ⟨ap, np, cp, hvp⟩ : ∃ a n c, vp = .slice a n c := by
   rcases h.rp.2 with ⟨hv, _⟩ | ⟨g, cap, cur, hv, _⟩
   ·exact ⟨_, _, _, hv⟩
   ·exact ⟨_, _, _, hv⟩
  subst hvp
  have HTI := hid h
  have b0 : pre.length <= 256 := by omega
  clear h hl hlen j2
  simp only [List.setIfInBounds_toArray, List.set_cons_zero, List.set_cons_succ]
  gi_wp2_with (gi_at_builtin; refine wpListIn_append_own _ rfl _ _ 121 rfl w1.heap.size 40 i0 (.agg #[.int .u8 0, .int .u8 0, .int .u8 0, .int .u8 0, .int .u8 0, .int .u8 0]) 6 6 (by kernel_rfl) HIP.out hz0 hz1 hz2 rfl (by decide) _ _ _ rfl (World.ownsRow.alloc HTI.out.rp _) ⟨W.heap.size, 0, none⟩ 1 1 [.int .u8 (k.b0 : Int), .int .u8 (k.b1 : Int), .int .u8 (k.b2 : Int), .int .u8 (k.b3 : Int), .int .u8 (k.b4 : Int), .int .u8 (k.b5 : Int)] rfl rfl ?aa1 ?aa2 ?aa3 ?aa4 ?aa5 ?_)
  case aa1 => exact six_at rfl _ _ _ _ _ _ _
  case aa2 => intro u hu; simp at hu; rcases hu with rfl | rfl | rfl | rfl | rfl | rfl <;> rfl
  case aa3 => unfold maxLen; omega
  case aa4 => omega
  case aa5 => have := HTI.out.sz; simp; omega
  intro v6 w6 hown6 hgrow6 _
  obtain ⟨ht6, hk6, hb6⟩ := HTI.out.app HS1.out hown6 hgrow6
  have hsl : ∃ g cap, v6 = .slice (some ⟨g, 0, none⟩) (pre.length + 1) cap := by
   rcases hown6.2 with ⟨_, h0⟩ | ⟨g, cap, cur, hv, _⟩
   ·omega
   ·exact ⟨g, cap, hv⟩
  obtain ⟨g6, cap6, rfl⟩ := hsl
  have q0 : w6.cell? ⟨w.heap.size, 0, none⟩ = some (.slice ap np cp) := crw hb6 rfl
  have qf : w6.frozen? ⟨w.heap.size, 0, none⟩ = false := frozen_of_row _ _ _ _ _ hb6
  obtain ⟨W9, HW9⟩ : ∃ W9, Hid (W9 = w6.setCell ⟨w.heap.size, 0, none⟩ (.slice (some ⟨g6, 0, none⟩) (pre.length + 1) cap6)) := ⟨_, rfl⟩
  rw [<- HW9.out] at ht6 hk6
  have HFIN : Hid (KeepsC W W9 /\ ∃ vp, SqIF w w1 (pre ++ [k]) W9 vp) := ⟨hk6, _, ht6⟩
  clear hown6 hgrow6 ht6 hk6 hb6 c4 p0 p1 p2 p3 p4 p5
  gi_wp2
  rw [<- HW9.out]
  exact HFIN.out
 case done =>
  rintro D W xs hD hS ⟨vp, h⟩ hK
  have c4 : W.cell? ⟨w.heap.size, 0, none⟩ = some vp := crw h.bp rfl
  obtain ⟨ap, np, cp, hvp⟩ : ∃ a n c, vp = .slice a n c := by
   rcases h.rp.2 with ⟨hv, _⟩ | ⟨g, cap, cur, hv, _⟩
   ·exact ⟨_, _, _, hv⟩
   ·exact ⟨_, _, _, hv⟩
  subst hvp
  have HKD := hid hK
  have hs := HS1.out
  have HDD : Hid (w.heap.size <= D) := Nat.le_trans HB1.out.size hD
  have hbW : Below w.heap.size w W := HB1.out.trans ⟨h.ch.os, h.ch.tape, h.ch.output, h.ch.size, fun j hj => h.ch.block j (by omega) (by omega)⟩
  have HBF := hid hbW
  have HRP : Hid (OwnKF W w.heap.size (.slice ap np cp) xs) := row_base h.rp (by omega : w.heap.size <= w1.heap.size)
  have HSS := hid hS
  clear h hK hD hbW hS
  go_wp2_with fail
  have hKz : W.heap[D]? = some (.deferred (some [])) := HKD.out
  have hbf : Below w.heap.size w (W.putObj D (.deferred none)) := HBF.out.trans (belowK_b (w := w) nL W D _ _ HDD.out hKz rfl rfl)
  have hrp : OwnKF (W.putObj D (.deferred none)) w.heap.size (.slice ap np cp) xs := ownsRow_putObj (W := W) HRP.out _ hKz rfl
  refine ⟨by simp, .inl ⟨_, _, rfl, run_takeDeferred hKz, ?_⟩⟩
  exact ⟨_, results_tmp Tryz.results89 _ _ _, _, _, rfl, HSS.out, hrp, hbf⟩
theorem collectF_any (Bm bm c : Nat) {f : Mc -> Option Fd} (w : World) (hBm : w.heap[Bm]? = some (.cells #[.map (some bm)] 126)) (hm : MapG gF w bm f c) (hc : c <= 256) :
  Calls Tryz.prog 74 #[.func (.func 76) #[] #[.pointer (some ⟨Bm, 0, none⟩)]] w fun e w' => ∃ v ss, e = .returned v /\ AllF f ss /\ OwnKF w' w.heap.size v ss /\ Below w.heap.size w w' := by
 have HA := hid (appendF_any Bm bm c w hBm hm hc)
 clear hBm hm hc
 go_enter Tryz.func74, Tryz.ntmps74
 go_wp2_with fail
 refine HA.out.mono ?_
 rintro e w' ⟨v, ss, rfl, hS, ho, hb⟩
 have HF := hid (And.intro hS (And.intro ho hb))
 obtain ⟨a, n, cp, hv⟩ : ∃ a n c, v = .slice a n c := by
  rcases ho.2 with ⟨hv, _⟩ | ⟨g, cap, cur, hv, _⟩
  ·exact ⟨_, _, _, hv⟩
  ·exact ⟨_, _, _, hv⟩
 subst hv
 clear hS ho hb
 go_wp2_with fail
 go_ret
 exact ⟨_, ss, rfl, HF.out⟩
end Go.Proofs.YtpdnnikkaojnkaaGreat.Rt
