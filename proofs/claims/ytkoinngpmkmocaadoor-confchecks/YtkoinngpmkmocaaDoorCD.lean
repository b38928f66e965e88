import Derived.Test.YtkoinngpmkmocaaDoorCB
import Derived.Test.YtkoinngpmkmocaaDoorCC
import Derived.Deep.MidRow
namespace Go.Proofs.YtkoinngpmkmocaaDoor
open Go.ChangeShapes Go.WideShapes Go.ChangeAt Go.RowKit
set_option maxHeartbeats 400000
set_option maxRecDepth 100000

/-- The network, its subnets and the hosts' addresses are such as may be. -/
def adr (c : Cfg) : Bool := (err (c.net, c.nlen) == 0) && (inb c.nlen 8 28 && ((cls c.net == 0) && (inb c.slen (c.nlen + 1) 30 && (sub c c.min && (sub c c.max && plain c)))))

theorem inb_no {n lo hi : Int} (h : n < lo ∨ hi < n) : inb n lo hi = false := by
  unfold inb
  rcases h with h | h
  · simp; omega
  · simp; omega
theorem inb_yes {n lo hi : Int} (h : lo ≤ n) (g : n ≤ hi) : inb n lo hi = true := by unfold inb; simp [h, g]

theorem und29 : ∃ fs, Tryd.prog.underlying 29 = some (.struct fs) := ⟨_, Tryd.underlying29⟩

/-- A configuration is read whole. -/
theorem Cfg.load {u : World} {b : Nat} (c : Cfg) (h : ∀ i (hi : i < 18), u.cell? ⟨b, i, none⟩ = some (c.cells[i]'hi)) : (Instr.loadAt 29 (.pointer (some ⟨b, 0, none⟩))).run Tryd.prog u = .ok (.agg c.cells) u := by
  obtain ⟨fs, hu⟩ := und29
  refine run_loadAt_mid u b 0 29 c.cells.toList (.struct fs) (fun j v hv => ?_) hu rfl (by rw [show (Tryd.prog.info? 29).map (·.size) = some 18 from by kernel_rfl]; rfl)
  have hj : j < 18 := (List.getElem?_eq_some_iff.1 hv).1
  rw [Nat.zero_add, h j hj]
  rw [List.getElem?_eq_getElem hj] at hv
  exact hv

/-- The step that reads a configuration whole, guarded or not. -/
theorem wpList_cfg {P : Program} {ops : Array Oper} {Q : Exit → Act → World → Prop} {a : Act} {w : World} {rest : List Oper} {o : Oper} {v : Value} (b : Nat) (x : Operand) (ho : o.op = .load 29 x) (hx : a.eval x = .pointer (some ⟨b, 0, none⟩))
    (hr : (Instr.loadAt 29 (.pointer (some ⟨b, 0, none⟩))).run P w = .ok v w) (hw : Region.wanted o (yielded ops a.tmps) = true) (h : wpList P ops Q rest (a.put o.dst v) w) : wpList P ops Q (o :: rest) a w := by
  refine wpList_step fun K hK => ?_
  rw [if_pos hw]
  unfold Oper.wp execOp
  simp only [ho, hx, Sem.run_bind, hr, Result.andThen_ok, Sem.run_pure]
  exact hK _ _ h

set_option maxHeartbeats 8000000 in
theorem addressesFit_any (c : Cfg) (w : World) (ht : TabC w) (hh : 1 ≤ c.hosts ∧ c.hosts ≤ 64) :
    Calls Tryd.prog 24 #[.agg c.cells] w fun e w' => e = .returned (.bool (adr c)) ∧ Below w.heap.size w w' := by
  obtain ⟨wc, hwc⟩ : ∃ wc, wc = w.alloc (.cells c.cells 29) := ⟨_, rfl⟩
  obtain ⟨wa, hwa⟩ : ∃ wa, wa = wc.alloc (.cells #[.int .u32 (c.net : Int), .int .i64 c.nlen] 26) := ⟨_, rfl⟩
  have hsc : wc.heap.size = w.heap.size + 1 := by rw [hwc]; simp
  have hbc : Below wc.heap.size wc wa := by rw [hwa]; exact (Below.refl _ _).alloc (Nat.le_refl _) _
  have hb0 : Below w.heap.size w wa := by
    have : Below w.heap.size w wc := by rw [hwc]; exact (Below.refl _ _).alloc (Nat.le_refl _) _
    exact this.trans (hbc.mono this.size)
  have q : ∀ u : Beh wa, ∀ i (hi : i < 18), u.wd.cell? ⟨w.heap.size, i, none⟩ = some (c.cells[i]'hi) := by
    intro u i hi
    have := Cfg.at (w := w) c
    rw [← hwc] at this
    exact this ⟨u.wd, hbc.trans (u.ok.mono hbc.size)⟩ i hi
  have r2 := Beh.two (w := wa) (b := wc.heap.size) (x := .int .u32 (c.net : Int)) (y := .int .i64 c.nlen) (T := 26) (by rw [hwa]; exact heap_alloc_new wc _)
  rw [hsc] at r2
  have n0 := r2.1
  have n1 := r2.2
  have q0 : ∀ u : Beh wa, u.wd.cell? ⟨w.heap.size, 0, none⟩ = some (.int .u32 (c.net : Int)) := fun u => q u 0 (by omega)
  have q1 : ∀ u : Beh wa, u.wd.cell? ⟨w.heap.size, 1, none⟩ = some (.int .i64 c.nlen) := fun u => q u 1 (by omega)
  have q2 : ∀ u : Beh wa, u.wd.cell? ⟨w.heap.size, 2, none⟩ = some (.int .i64 c.slen) := fun u => q u 2 (by omega)
  have q3 : ∀ u : Beh wa, u.wd.cell? ⟨w.heap.size, 3, none⟩ = some (.int .u32 (c.min : Int)) := fun u => q u 3 (by omega)
  have q4 : ∀ u : Beh wa, u.wd.cell? ⟨w.heap.size, 4, none⟩ = some (.int .u32 (c.max : Int)) := fun u => q u 4 (by omega)
  have ql : ∀ u : Beh wa, (Instr.loadAt 29 (.pointer (some ⟨w.heap.size, 0, none⟩))).run Tryd.prog u.wd = .ok (.agg c.cells) u.wd := fun u => Cfg.load c (q u)
  have s0 : wc.cell? ⟨w.heap.size, 0, none⟩ = some (.int .u32 (c.net : Int)) := by have := Cfg.at (w := w) c; rw [← hwc] at this; exact this ⟨wc, Below.refl _ _⟩ 0 (by omega)
  have s1 : wc.cell? ⟨w.heap.size, 1, none⟩ = some (.int .i64 c.nlen) := by have := Cfg.at (w := w) c; rw [← hwc] at this; exact this ⟨wc, Below.refl _ _⟩ 1 (by omega)
  have HT : Hid (∀ u : Beh wa, TabC u.wd) := fun u => ht.below (hb0.trans (u.ok.mono hb0.size))
  have HV : Hid (∀ u : Beh wa, Calls Tryd.prog 48 #[.agg #[.int .u32 (c.net : Int), .int .i64 c.nlen]] u.wd fun e w' => e = .returned (.bool (err (c.net, c.nlen) == 0)) ∧ ∃ u' : Beh wa, w' = u'.wd) := fun u => Calls.beh (valid_any c.net c.nlen _ c.hnet)
  have HCL : Hid (∀ u : Beh wa, Calls Tryd.prog 49 #[.int .u32 (c.net : Int)] u.wd fun e w' => e = .returned (.int .i64 (cls c.net)) ∧ ∃ u' : Beh wa, w' = u'.wd) := fun u => Calls.beh (class_any c.net _ c.hnet (HT.out u))
  have HS1 : Hid (∀ u : Beh wa, Calls Tryd.prog 50 #[.agg c.cells, .int .u32 (c.min : Int)] u.wd fun e w' => e = .returned (.bool (sub c c.min)) ∧ ∃ u' : Beh wa, w' = u'.wd) := fun u => Calls.beh (isSubnet_any c c.min _ c.hmin)
  have HS2 : Hid (∀ u : Beh wa, Calls Tryd.prog 50 #[.agg c.cells, .int .u32 (c.max : Int)] u.wd fun e w' => e = .returned (.bool (sub c c.max)) ∧ ∃ u' : Beh wa, w' = u'.wd) := fun u => Calls.beh (isSubnet_any c c.max _ c.hmax)
  have HPL : Hid (∀ u : Beh wa, Calls Tryd.prog 51 #[.agg c.cells] u.wd fun e w' => e = .returned (.bool (plain c)) ∧ ∃ u' : Beh wa, w' = u'.wd) := fun u => Calls.beh (hostsPlain_any c _ (HT.out u) hh)
  have HWA := hid hwa
  have HWC := hid hwc
  obtain ⟨u0, hu0⟩ : ∃ u0 : Beh wa, u0.wd = wa := ⟨⟨wa, Below.refl _ _⟩, rfl⟩
  have HU0 := hid hu0
  have HAD : Hid (adr c = ((err (c.net, c.nlen) == 0) && (inb c.nlen 8 28 && ((cls c.net == 0) && (inb c.slen (c.nlen + 1) 30 && (sub c c.min && (sub c c.max && plain c))))))) := rfl
  have HBD : Hid (∀ u : Beh wa, Below w.heap.size w u.wd) := fun u => hb0.trans (u.ok.mono hb0.size)
  have HSC := hid hsc
  clear hwc hwa hu0 q ht hh r2 hsc hbc hb0
  generalize (err (c.net, c.nlen) == 0) = b1 at HV HAD
  generalize cls c.net = cl at HCL HAD
  generalize sub c c.min = b2 at HS1 HAD
  generalize sub c c.max = b3 at HS2 HAD
  generalize plain c = b4 at HPL HAD
  generalize adr c = res at HAD ⊢
  have hnl := c.hnlen
  generalize c.cells = cc at ql HS1 HS2 HPL HWC ⊢
  go_enter Tryd.func24, Tryd.ntmps24
  go_upto_region 1 with fail
  rw [← HWC.out]
  go_wp2_with fail
  rw [HSC.out, ← HWA.out, ← HU0.out]
  clear s0 s1
  refine (HV.out u0).mono ?_
  rintro _ _ ⟨rfl, u1, rfl⟩
  cases b1
  · go_wp2_with fail
    go_ret
    exact ⟨ret_bool HAD.out.symm, HBD.out u1⟩
  by_cases g1 : c.nlen < 8
  · have HE : Hid (res = false) := by unfold Hid; rw [HAD.out, inb_no (.inl g1)]; rfl
    go_wp2_with fail
    go_ret
    exact ⟨ret_bool HE.out.symm, HBD.out u1⟩
  by_cases g2 : 28 < c.nlen
  · have HE : Hid (res = false) := by unfold Hid; rw [HAD.out, inb_no (.inr g2)]; rfl
    go_wp2_with fail
    go_ret
    exact ⟨ret_bool HE.out.symm, HBD.out u1⟩
  go_wp2_with fail
  refine (HCL.out u1).mono ?_
  rintro _ _ ⟨rfl, u2, rfl⟩
  by_cases g3 : cl = 0
  case neg =>
    have HE : Hid (res = false) := by unfold Hid; rw [HAD.out]; simp [g3]
    have g3' : (cl != 0) = true := by simp [g3]
    clear g3
    go_wp2_with fail
    go_ret
    exact ⟨ret_bool HE.out.symm, HBD.out u2⟩
  have g3' : (cl != 0) = false := by simp [g3]
  have HCL0 := hid g3
  clear g3
  by_cases g4 : c.slen ≤ c.nlen
  · have HE : Hid (res = false) := by unfold Hid; rw [HAD.out, inb_no (n := c.slen) (.inl (by omega))]; simp
    go_wp2_with fail
    go_ret
    exact ⟨ret_bool HE.out.symm, HBD.out u2⟩
  by_cases g5 : 30 < c.slen
  · have HE : Hid (res = false) := by unfold Hid; rw [HAD.out, inb_no (n := c.slen) (.inr (by omega))]; simp
    go_wp2_with fail
    go_ret
    exact ⟨ret_bool HE.out.symm, HBD.out u2⟩
  have HR : Hid (res = (b2 && (b3 && b4))) := by unfold Hid; rw [HAD.out, inb_yes (n := c.nlen) (by omega) (by omega), inb_yes (n := c.slen) (by omega) (by omega), HCL0.out]; simp
  go_wp2_with (first | (refine wpList_cfg w.heap.size (.tmp 1) rfl rfl (ql _) rfl ?_) | fail)
  refine (HS1.out u2).mono ?_
  rintro _ _ ⟨rfl, u3, rfl⟩
  cases b2
  · go_wp2_with fail
    go_ret
    exact ⟨ret_bool HR.out.symm, HBD.out u3⟩
  go_wp2_with (first | (refine wpList_cfg w.heap.size (.tmp 1) rfl rfl (ql _) rfl ?_) | fail)
  refine (HS2.out u3).mono ?_
  rintro _ _ ⟨rfl, u4, rfl⟩
  cases b3
  · go_wp2_with fail
    go_ret
    exact ⟨ret_bool HR.out.symm, HBD.out u4⟩
  go_wp2_with (first | (refine wpList_cfg w.heap.size (.tmp 1) rfl rfl (ql _) rfl ?_) | fail)
  refine (HPL.out u4).mono ?_
  rintro _ _ ⟨rfl, u5, rfl⟩
  go_wp2_with fail
  go_ret
  exact ⟨ret_bool HR.out.symm, HBD.out u5⟩
end Go.Proofs.YtkoinngpmkmocaaDoor
