import Derived.Test.YtpdnnikkaojnkaaGreatYKJ
namespace Go.Proofs.YtpdnnikkaojnkaaGreat.Rt
open Go.Proofs.YtpdnnikkaojnkaaGreat Go.ChangeShapes Go.WideShapes Go.ChangeAt Go.RowKit Go.Shelf Go.Maps Tri N
attribute [local go_sem] Oper.semAt_some
set_option maxHeartbeats 8000000
set_option maxRecDepth 100000
def AllN (f : Nat -> Option Nb) (ss : List Nat) : Prop := ss.Nodup /\ ∀ k, k ∈ ss ↔ gN.kOk k /\ (f k).isSome = true
theorem keysN_gives (n : Nat) (hn : 1 <= n) (Bm bm c : Nat) {f : Nat -> Option Nb} (w : World) (hBm : w.heap[Bm]? = some (.cells #[.map (some bm)] 118)) (hm : MapG gN w bm f c) :
  SeqGives Fence.wide n Tryz.prog 73 #[.pointer (some ⟨Bm, 0, none⟩)] gN.kV (AllN f) c w := fun l J W hW hJ hY h0 => by
 obtain ⟨D, hown, hsz, hsay, hcl⟩ := hm.kept (hW.block _ hm.lt)
 have hcell : W.cell? ⟨Bm, 0, none⟩ = some (.map (some bm)) := by rw [cell_of_row _ _ _ _ _ _ (below_keeps hW hBm (gsl hBm))]; rfl
 have HSAY := hid hsay
 have HCL := hid hcl
 have HSZ := hid hsz
 have HJ := hid hJ
 have HY := hid hY
 have H0 := hid h0
 clear hsay hcl hsz hJ hY h0 hW hBm hm
 refine callsIn_of_wp Tryz.func73 rfl trivial ?_ rfl
 simp only [Tryz.ntmps73, List.size_toArray, List.length_cons, List.length_nil, Nat.reduceAdd, Nat.reduceSub, Array.replicate_succ, Array.replicate_zero, List.push_toArray, List.append_toArray, List.nil_append, List.cons_append]
 gi_wp2_with (first | (gi_at_range; refine wpListIn_range_own _ rfl _ 118 rfl 34 42 gN.law gN.um _ bm c _ rfl hown ?_; intro w0 hrg0 hg0 hs0) | gi_in)
 go_frame
 have HRG0 := hid hrg0
 have HJ0 : Hid (J [] w0) := HJ.out [] W w0 none H0.out hg0 (fun r e => by cases e)
 clear hrg0 hg0 hs0 hown hcell
 gi_loopw [3] (fun _ wr => ∃ (left : Lit -> Bool) (cnt : Nat) (ss : List Nat), Hid (wr.ranges Tryz.prog 34 gN.R bm W.heap.size c D left cnt) /\ Hid (ss.length + cnt <= c) /\ Hid (MetG gN f D left ss) /\ Hid (J ss wr) /\ Hid (W.heap.size < wr.heap.size))
  (fun _ wr => wr.rangeLeft bm W.heap.size)
 case atStart =>
  exact ⟨_, _, [], HRG0, by unfold Hid; rw [HSZ.out]; simp, MetG.start HSAY.out, HJ0, by
   obtain ⟨_, _, _, _, _, _, _, _, _, h2, _⟩ := HRG0.out
   exact (gsl h2)⟩
 case round =>
  obtain ⟨left, cnt, ss, HRG, HCS, HM, HJS, HWS⟩ := hrel
  gi_wp2_with (first | (gi_at_next; refine wpListIn_next_ranges _ rfl _ rfl 34 gN.law gN.R id gN.eV (fun key kl _ => ⟨key, rfl⟩) gN.einv bm W.heap.size c _ _ _ rfl HRG.out ?_ ?_) | gi_in)
  ·intro hc0 hl0
   have HFIN : Hid (AllN f ss /\ J ss wr) := ⟨⟨HM.out.nd, fun k => ⟨fun hk => ⟨(HM.out.mem k hk).1, (HM.out.mem k hk).2.1⟩, fun hk => HM.out.all k hk.1 hk.2 (hl0 _)⟩⟩, HJS.out⟩
   clear hc0 hl0
   gi_wp2
   go_end0
   exact ⟨⟨_, rfl⟩, ss, HFIN.out⟩
  ·intro x e kl yd yp w2 cnt2 hkey hlk hv hat hrg2 hlt hg2 hs2 hen
   have hkey' : keyOf Tryz.prog 34 x = some kl := hkey
   obtain ⟨k, k1, rfl, k3, k4⟩ := HM.out.key HSAY.out HCL.out hkey' hlk
   have hJ2 : J ss w2 := HJ.out ss wr w2 (some W.heap.size) HJS.out hg2 (fun r e => by cases e; exact ⟨nL, HRG.out.iter_walk⟩)
   obtain ⟨fn, tmps, assign, body, hy, hR⟩ := HY.out ss k w2 hJ2 (by have := HCS.out; omega)
   have hen' : (Instr.entry (.pointer (some ⟨W.heap.size, 0, none⟩))).run Tryz.prog w2 = .ok (.tuple #[.int .u32 (k : Int), .agg e.cells]) w2 := hen
   have hy' : (Instr.yield l #[.int .u32 (k : Int)]).run Tryz.prog w2 = .ok (.round l fn tmps assign body) w2 := hy
   have HRG2 := hid hrg2
   have HKK := hid (And.intro k1 (And.intro k3 k4))
   have HLK := hid hlk
   have HLT := hid hlt
   have HS2 : Hid (W.heap.size < w2.heap.size) := by have := HWS.out; unfold Hid; omega
   rw [show gN.kV k = Value.int .u32 (k : Int) from rfl, show gN.eV e = Value.agg e.cells from rfl]
   clear hkey hkey' hlk hv hat hrg2 hlt hg2 hs2 hen k1 k3 k4 hJ2 hy
   gi_wp2
   refine hR.mono ?_
   rintro _ W3 ⟨rfl, hJ3, hk3⟩
   have HRG3 := hid (HRG2.out.of_walks hk3)
   have HJ3 := hid hJ3
   have HS3 : Hid (W.heap.size < W3.heap.size) := Nat.lt_of_lt_of_le HS2.out hk3.size
   clear hJ3 hk3 hR
   gi_wp2
   go_roundw
   case rel =>
    refine ⟨_, cnt2, ss ++ [k], HRG3, ?_, ?_, HJ3, HS3⟩
    ·have := HCS.out; have := HLT.out; unfold Hid; simp; omega
    ·obtain ⟨k1, k3, k4⟩ := HKK.out
     rw [k3]
     exact HM.out.step k1 k4 (by rw [<- k3]; exact HLK.out)
   case measure =>
    have h1 := HRG3.out.left_eq
    have h2 := HRG.out.left_eq
    have h3 := HLT.out
    simp only [h1, h2]
    exact h3
theorem keysN_new (bm : Nat) (w : World) : Calls Tryz.prog 52 #[.map (some bm)] w fun e w' => e = .returned (.func (.func 73) #[] #[.pointer (some ⟨w.heap.size, 0, none⟩)]) /\ w' = w.alloc (.cells #[.map (some bm)] 118) := by
 go_enter Tryz.func52, Tryz.ntmps52
 go_wp2_with fail
 go_ret
 exact ⟨rfl, rfl⟩
def kcN (L : List Nat) : List Value := L.flatMap fun k : Nat => [.int .u32 (k : Int)]
def OwnKN (w : World) (base : Nat) (v : Value) (L : List Nat) : Prop := w.ownsRow base 34 1 v L.length (kcN L)
theorem kcN_snoc (L : List Nat) (k : Nat) : kcN L ++ [.int .u32 (k : Int)] = kcN (L ++ [k]) := by
 unfold kcN
 rw [List.flatMap_append]
 rfl
structure SqIN (w w1 : World) (L : List Nat) (W : World) (vp : Value) : Prop where
 sz : w1.heap.size <= W.heap.size
 ch : Chg (fun b => b = w.heap.size) w1 W
 bp : W.heap[w.heap.size]? = some (.cells #[vp] 25)
 rp : W.ownsRow w1.heap.size 34 1 vp L.length (kcN L)
theorem SqIN.app {w w1 W w6 : World} {L : List Nat} {vp v6 : Value} {tmp : Obj} (h : SqIN w w1 L W vp) (hs : w.heap.size + 1 <= w1.heap.size) {k : Nat} (hown : w6.ownsRow w1.heap.size 34 1 v6 (L.length + 1) (kcN L ++ [.int .u32 (k : Int)])) (hg : (W.alloc tmp).grownBy w6 vp.ownBlock) :
  SqIN w w1 (L ++ [k]) (w6.setCell ⟨w.heap.size, 0, none⟩ v6) v6 /\ KeepsC W (w6.setCell ⟨w.heap.size, 0, none⟩ v6) /\ w6.heap[w.heap.size]? = some (.cells #[vp] 25) := by
 have hc := grew (u := v6) w.heap.size hg
 have hz := h.sz
 have hlow : ∀ b, b < w1.heap.size -> vp.ownBlock ≠ some b := fun b hb e => by have := (row_own h.rp e).1; omega
 have hb6 : w6.heap[w.heap.size]? = some (.cells #[vp] 25) := (hg.block _ (by simp; omega) (fun e => hlow _ (by omega) e.symm)).trans ((Below.heap_alloc _ _ _ (by omega)).trans h.bp)
 refine ⟨⟨Nat.le_trans h.sz hc.size, ⟨hc.os.trans h.ch.os, hc.tape.trans h.ch.tape, hc.output.trans h.ch.output, Nat.le_trans h.ch.size hc.size, fun k hk hn => ?_⟩, ?_, ?_⟩, ⟨hc.size, fun j o hj ho => (hc.block j (gsl hj) (fun hx => ?_)).trans hj⟩, hb6⟩
 ·refine (hc.block k (by omega) (fun hx => ?_)).trans (h.ch.block k hk hn)
  rcases hx with hx | hx
  ·exact hn hx
  ·exact hlow k hk hx
 ·rw [set_row hb6]; rfl
 ·rw [kcN_snoc] at hown
  have := row_chg hown (Chg.of_but (X := fun b => b = w.heap.size) (But.set w.heap.size 0 w6 v6) rfl) (fun b hb e => by have := (row_own hown hb).1; omega)
  rw [List.length_append]
  exact this
 ·rcases hx with hx | hx
  ·rw [hx, h.bp] at hj; cases hj; cases ho
  ·obtain ⟨_, cs, hcs⟩ := row_own h.rp hx
   rw [hcs] at hj; cases hj; cases ho
theorem SqIN.own {w w1 : World} (hs : w.heap.size + 1 <= w1.heap.size) : OwnC w1.heap.size (fun L W => ∃ vp, SqIN w w1 L W vp) := by
 rintro i W W' row ⟨vp, h⟩ hg hr
 have hs1 := h.sz
 have hne : ∀ j, j < w1.heap.size -> some j ≠ row := fun j hj e => by have := (hr j e.symm).1; omega
 refine ⟨vp, Nat.le_trans h.sz hg.size, ⟨hg.os.trans h.ch.os, hg.tape.trans h.ch.tape, hg.output.trans h.ch.output, Nat.le_trans h.ch.size hg.size, fun j hj hn => (hg.block j (by omega) (hne j hj)).trans (h.ch.block j hj hn)⟩, (hg.block _ (by omega) (hne _ (by omega))).trans h.bp, h.rp.kept hg ?_⟩
 rcases h.rp.2 with ⟨hv, _⟩ | ⟨g, cap, cur, hv, _, hgb, _⟩
 ·exact .inl (by rw [hv]; rfl)
 ·refine .inr fun e' => ?_
  rw [hv] at e'
  obtain ⟨o, ho, hm⟩ := (hr g (by simpa [Value.ownBlock] using e'.symm)).2
  rw [hgb] at ho
  cases ho
  cases hm
theorem one_at {W : World} {n : Nat} (hn : W.heap.size = n) (a : Value) (T : TypeId) : ∀ (j : Nat) (u : Value), [a][j]? = some u -> (W.alloc (.cells #[a] T)).cell? ((⟨n, 0, none⟩ : Addr).add j) = some u := by
 intro j u hu
 subst hn
 have e : (⟨W.heap.size, 0, none⟩ : Addr).add j = ⟨W.heap.size, j, none⟩ := by simp [Addr.add]; exact fun h => h.symm
 rw [e, cell_of_row _ _ _ _ _ _ (heap_alloc_new W _)]
 simpa using hu
theorem six_at {W : World} {n : Nat} (hn : W.heap.size = n) (a b c d e f : Value) (T : TypeId) : ∀ (j : Nat) (u : Value), [a, b, c, d, e, f][j]? = some u -> (W.alloc (.cells #[a, b, c, d, e, f] T)).cell? ((⟨n, 0, none⟩ : Addr).add j) = some u := by
 intro j u hu
 subst hn
 have e : (⟨W.heap.size, 0, none⟩ : Addr).add j = ⟨W.heap.size, j, none⟩ := by simp [Addr.add]; exact fun h => h.symm
 rw [e, cell_of_row _ _ _ _ _ _ (heap_alloc_new W _)]
 simpa using hu
theorem infoKN : (Tryz.prog.info? 34).map (fun i => (i.zero, i.size, i.bytes)) = some (some (.int .u32 0), 1, 4) := by kernel_rfl
theorem appendN_any (Bm bm c : Nat) {f : Nat -> Option Nb} (w : World) (hBm : w.heap[Bm]? = some (.cells #[.map (some bm)] 118)) (hm : MapG gN w bm f c) (hc : c <= 256) :
  Calls Tryz.prog 86 #[.slice none 0 0, .func (.func 73) #[] #[.pointer (some ⟨Bm, 0, none⟩)]] w fun e w' => ∃ v ss, e = .returned v /\ AllN f ss /\ OwnKN w' w.heap.size v ss /\ Below w.heap.size w w' := by
 obtain ⟨i0, hi0, hz0, hz1, hz2⟩ := info_parts infoKN
 have HIP : Hid (Tryz.prog.info? 34 = some i0) := hi0
 obtain ⟨w1, HW1⟩ : ∃ w1, Hid (w1 = w.alloc (.cells #[.slice none 0 0] 25)) := ⟨_, rfl⟩
 have hs1 : w1.heap.size = w.heap.size + 1 := by rw [HW1.out]; simp
 have hb1 : Below w.heap.size w w1 := by rw [HW1.out]; exact bR.alloc nL _
 have r4 : w1.heap[w.heap.size]? = some (.cells #[.slice none 0 0] 25) := by rw [HW1.out]; exact heap_alloc_new w _
 have HSEQ := hid (keysN_gives 8 (by omega) Bm bm c w1 (below_keeps hb1 hBm (gsl hBm)) (hm.kept (hb1.block _ hm.lt)))
 have HT0 : Hid (SqIN w w1 [] w1 (.slice none 0 0)) := ⟨nL, Chg.refl _ _, r4, World.ownsRow_nil _ _ _ _⟩
 have HS1 : Hid (w.heap.size + 1 <= w1.heap.size) := by unfold Hid; omega
 have HB1 := hid hb1
 clear hb1 r4 hs1 hi0 hBm hm
 refine (callsIn_wide (n := 9)).1 ?_
 refine callsIn_of_wp_marks Tryz.func86 rfl trivial ?_ rfl
 refine wpIn_wide.2 ?_
 simp only [Tryz.ntmps86, List.size_toArray, List.length_cons, List.length_nil, Nat.reduceAdd, Nat.reduceSub, Array.replicate_succ, Array.replicate_zero, List.push_toArray, List.append_toArray, List.nil_append, List.cons_append]
 go_upto_region 1 with fail
 rw [<- HW1.out]
 go_wp2_with fail
 refine wpIn_wide.1 (wpIn_seq (β := Unit) (n := 9) (F := Fence.wide) rfl (by omega) (gf := 73) (lb := #[.pointer (some ⟨Bm, 0, none⟩)]) rfl trivial (enters_of Tryz.func73 (by kernel_rfl) rfl)
  HSEQ.out rfl (fun L W => ∃ vp, SqIN w w1 L W vp) ?hI ?h0 (fun k _ tt => (tt.setIfInBounds 7 (.int .u32 (k : Int))).setIfInBounds 5 (.int .u32 (k : Int))) (fun _ _ _ => True) ?hAy ?assign ?body ?done)
 case hI => exact SqIN.own HS1.out
 case h0 => exact ⟨_, HT0.out⟩
 case hAy => exact fun _ _ _ _ _ _ _ _ _ => trivial
 case assign =>
  intro l pre k W K hi hK
  have HK := hK () W (KeepsC.refl W) hi trivial
  simp only [List.setIfInBounds_toArray, List.set_cons_zero, List.set_cons_succ] at HK ⊢
  clear hK hi
  rw [show gN.kV k = Value.int .u32 (k : Int) from rfl]
  gi_wp2
  exact HK
 case body =>
  rintro l pre k b W hl ⟨vp, h⟩ - hlen
  have c4 : W.cell? ⟨w.heap.size, 0, none⟩ = some vp := crw h.bp rfl
  obtain ⟨ap, np, cp, hvp⟩ : ∃ a n c, vp = .slice a n c := by
   rcases h.rp.2 with ⟨hv, _⟩ | ⟨g, cap, cur, hv, _⟩
   ·exact ⟨_, _, _, hv⟩
   ·exact ⟨_, _, _, hv⟩
  subst hvp
  have HTI := hid h
  have b0 : pre.length <= 256 := by omega
  clear h hl hlen
  simp only [List.setIfInBounds_toArray, List.set_cons_zero, List.set_cons_succ]
  gi_wp2_with (gi_at_builtin; refine wpListIn_append_own _ rfl _ _ 25 rfl w1.heap.size 34 i0 (.int .u32 0) 1 4 (by kernel_rfl) HIP.out hz0 hz1 hz2 rfl (by decide) _ _ _ rfl (World.ownsRow.alloc HTI.out.rp _) ⟨W.heap.size, 0, none⟩ 1 1 [.int .u32 (k : Int)] rfl rfl ?aa1 ?aa2 ?aa3 ?aa4 ?aa5 ?_)
  case aa1 => exact one_at rfl _ _
  case aa2 => intro u hu; simp at hu; subst hu; rfl
  case aa3 => unfold maxLen; omega
  case aa4 => omega
  case aa5 => have := HTI.out.sz; simp; omega
  intro v6 w6 hown6 hgrow6 _
  obtain ⟨ht6, hk6, hb6⟩ := HTI.out.app HS1.out hown6 hgrow6
  have hsl : ∃ g cap, v6 = .slice (some ⟨g, 0, none⟩) (pre.length + 1) cap := by
   rcases hown6.2 with ⟨_, h0⟩ | ⟨g, cap, cur, hv, _⟩
   ·omega
   ·exact ⟨g, cap, hv⟩
  obtain ⟨g6, cap6, rfl⟩ := hsl
  have q0 : w6.cell? ⟨w.heap.size, 0, none⟩ = some (.slice ap np cp) := crw hb6 rfl
  have qf : w6.frozen? ⟨w.heap.size, 0, none⟩ = false := frozen_of_row _ _ _ _ _ hb6
  obtain ⟨W9, HW9⟩ : ∃ W9, Hid (W9 = w6.setCell ⟨w.heap.size, 0, none⟩ (.slice (some ⟨g6, 0, none⟩) (pre.length + 1) cap6)) := ⟨_, rfl⟩
  rw [<- HW9.out] at ht6 hk6
  have HFIN : Hid (KeepsC W W9 /\ ∃ vp, SqIN w w1 (pre ++ [k]) W9 vp) := ⟨hk6, _, ht6⟩
  clear hown6 hgrow6 ht6 hk6 hb6 c4
  gi_wp2
  rw [<- HW9.out]
  exact HFIN.out
 case done =>
  rintro D W xs hD hS ⟨vp, h⟩ hK
  have c4 : W.cell? ⟨w.heap.size, 0, none⟩ = some vp := crw h.bp rfl
  obtain ⟨ap, np, cp, hvp⟩ : ∃ a n c, vp = .slice a n c := by
   rcases h.rp.2 with ⟨hv, _⟩ | ⟨g, cap, cur, hv, _⟩
   ·exact ⟨_, _, _, hv⟩
   ·exact ⟨_, _, _, hv⟩
  subst hvp
  have HKD := hid hK
  have hs := HS1.out
  have HDD : Hid (w.heap.size <= D) := Nat.le_trans HB1.out.size hD
  have hbW : Below w.heap.size w W := HB1.out.trans ⟨h.ch.os, h.ch.tape, h.ch.output, h.ch.size, fun j hj => h.ch.block j (by omega) (by omega)⟩
  have HBF := hid hbW
  have HRP : Hid (OwnKN W w.heap.size (.slice ap np cp) xs) := row_base h.rp (by omega : w.heap.size <= w1.heap.size)
  have HSS := hid hS
  clear h hK hD hbW hS
  go_wp2_with fail
  have hKz : W.heap[D]? = some (.deferred (some [])) := HKD.out
  have hbf : Below w.heap.size w (W.putObj D (.deferred none)) := HBF.out.trans (belowK_b (w := w) nL W D _ _ HDD.out hKz rfl rfl)
  have hrp : OwnKN (W.putObj D (.deferred none)) w.heap.size (.slice ap np cp) xs := ownsRow_putObj (W := W) HRP.out _ hKz rfl
  refine ⟨by simp, .inl ⟨_, _, rfl, run_takeDeferred hKz, ?_⟩⟩
  exact ⟨_, results_tmp Tryz.results86 _ _ _, _, _, rfl, HSS.out, hrp, hbf⟩
theorem collectN_any (Bm bm c : Nat) {f : Nat -> Option Nb} (w : World) (hBm : w.heap[Bm]? = some (.cells #[.map (some bm)] 118)) (hm : MapG gN w bm f c) (hc : c <= 256) :
  Calls Tryz.prog 71 #[.func (.func 73) #[] #[.pointer (some ⟨Bm, 0, none⟩)]] w fun e w' => ∃ v ss, e = .returned v /\ AllN f ss /\ OwnKN w' w.heap.size v ss /\ Below w.heap.size w w' := by
 have HA := hid (appendN_any Bm bm c w hBm hm hc)
 clear hBm hm hc
 go_enter Tryz.func71, Tryz.ntmps71
 go_wp2_with fail
 refine HA.out.mono ?_
 rintro e w' ⟨v, ss, rfl, hS, ho, hb⟩
 have HF := hid (And.intro hS (And.intro ho hb))
 obtain ⟨a, n, cp, hv⟩ : ∃ a n c, v = .slice a n c := by
  rcases ho.2 with ⟨hv, _⟩ | ⟨g, cap, cur, hv, _⟩
  ·exact ⟨_, _, _, hv⟩
  ·exact ⟨_, _, _, hv⟩
 subst hv
 clear hS ho hb
 go_wp2_with fail
 go_ret
 exact ⟨_, ss, rfl, HF.out⟩
end Go.Proofs.YtpdnnikkaojnkaaGreat.Rt
