/-
  weftlaw6.echoed: what an answer to an echo is.
-/
import Derived.Test.YtcboenmmkaochaaDoorM5
namespace Go.Proofs.YtcboenmmkaochaaDoor.N
open Go.ChangeShapes Go.WideShapes Go.ChangeAt Go.RowKit
set_option maxHeartbeats 8000000
set_option maxRecDepth 100000

theorem wpList_bd {ops : Array Oper} {Q : Exit → Act → World → Prop} {a : Act} {w : World} {rest : List Oper} {o : Oper} {v : Value} (T : TypeId) (parts : Array (Nat × Operand)) (ps : Array (Nat × Value)) (ho : o.op = .build T parts) (hp : (parts.map fun (i, x) => (i, a.eval x)) = ps)
    (hr : (Instr.build T ps).run Tryd.prog w = .ok v w) (hw : Region.wanted o (yielded ops a.tmps) = true) (h : wpList Tryd.prog ops Q rest (a.put o.dst v) w) : wpList Tryd.prog ops Q (o :: rest) a w := by
  refine wpList_step fun K hK => ?_
  rw [if_pos hw]
  unfold Oper.wp execOp
  simp only [ho, hp, Sem.run_bind, hr, Result.andThen_ok, Sem.run_pure]
  exact hK _ _ h

theorem echo_facts (h : Hd) (m : Im.Ct) (hmt : m.t = 8) (hmc : m.c = 0) (hok : m.Ok) (hl : m.B.length ≤ 65507) (hp : h.proto = 1) (ho : h.off = 0) (hm : h.mf = false) :
    (refE h (Im.laid m).length ≠ 0 → ecE h (Im.laid m) = refE h (Im.laid m).length ∧ ecP h (Im.laid m) = (zeroH, [])) ∧
    (refE h (Im.laid m).length = 0 → (pln h.src && pln h.dst) = false → ecE h (Im.laid m) = 61 ∧ ecP h (Im.laid m) = (zeroH, [])) ∧
    (refE h (Im.laid m).length = 0 → pln h.src = true → pln h.dst = true → ecE h (Im.laid m) = 0 ∧ ecP h (Im.laid m) = (mdH h.tos h.dst h.src, Im.laid ⟨0, 0, m.r, m.B⟩)) := by
  refine ⟨fun hq => ?_, fun hq hpl => ?_, fun hq h1 h2 => ?_⟩
  · obtain ⟨e1, _⟩ := msg_bad rfl hq
    have e : ecE h (Im.laid m) = refE h (Im.laid m).length := by unfold ecE; rw [e1, if_pos hq]
    exact ⟨e, ec_bad e hq⟩
  · obtain ⟨e1, e2⟩ := msg_pr (h := h) (B := Im.laid m) hq (by rw [hp, ho, hm]; simp)
    rw [Im.prE_laid m hl] at e1
    rw [Im.prC_laid m hok hl] at e2
    have e : ecE h (Im.laid m) = 61 := by
      unfold ecE
      rw [e1, e2, if_neg (by simp), if_neg (by rw [hmt, hmc]; simp), hpl, if_neg (by simp)]
    exact ⟨e, ec_bad e (by decide)⟩
  · obtain ⟨e1, e2⟩ := msg_pr (h := h) (B := Im.laid m) hq (by rw [hp, ho, hm]; simp)
    rw [Im.prE_laid m hl] at e1
    rw [Im.prC_laid m hok hl] at e2
    have e : ecE h (Im.laid m) = 0 := by
      unfold ecE
      rw [e1, e2, if_neg (by simp), if_neg (by rw [hmt, hmc]; simp), h1, h2]
      rfl
    refine ⟨e, ?_⟩
    unfold ecP ecM
    rw [if_pos e, e2, hmc]

theorem back_facts (tos s d r : Nat) (B : List Nat) (hr : r < 4294967296) (hl : B.length ≤ 65507) (hs : pln s = true) (hd : pln d = true) :
    (Im.laid ⟨0, 0, r, B⟩).length ≤ 65515 ∧ Im.prE (Im.laid ⟨0, 0, r, B⟩) = 0 ∧ Im.prC (Im.laid ⟨0, 0, r, B⟩) = ⟨0, 0, r, B⟩ ∧ ecE (mdH tos s d) (Im.laid ⟨0, 0, r, B⟩) = 62 ∧ abt (mdH tos s d) (Im.laid ⟨0, 0, r, B⟩) = (zeroH, [], 62) ∧ fltE (mdH tos s d) (Im.laid ⟨0, 0, r, B⟩) 3 1 0 167838209 = 0 := by
  have hmok : (⟨0, 0, r, B⟩ : Im.Ct).Ok := ⟨by show 0 < 256; omega, by show 0 < 256; omega, hr⟩
  have hlen : (Im.laid ⟨0, 0, r, B⟩).length ≤ 65515 := by rw [Im.laid_len]; show 8 + B.length ≤ 65515; omega
  have hre := md_refE tos s d (Im.laid ⟨0, 0, r, B⟩).length hlen
  have p1 := Im.prE_laid ⟨0, 0, r, B⟩ hl
  have p2 := Im.prC_laid ⟨0, 0, r, B⟩ hmok hl
  obtain ⟨e1, e2⟩ := msg_pr (h := mdH tos s d) (B := Im.laid ⟨0, 0, r, B⟩) hre (by simp [mdH])
  rw [p1] at e1
  rw [p2] at e2
  refine ⟨hlen, p1, p2, ?_, ?_, ?_⟩
  · unfold ecE
    rw [e1, e2, if_neg (by simp), if_pos (by simp)]
  · unfold abt
    rw [e1, e2, if_neg (by simp), show kF (⟨0, 0, r, B⟩ : Im.Ct).t = false from rfl]
    rfl
  · unfold fltE
    rw [gate_may.1, gate_may.2, hre, if_pos (show (true && true) = true from rfl), if_neg (by simp)]
    have : told (mdH tos s d) (Im.laid ⟨0, 0, r, B⟩) = true := by
      unfold told
      rw [laid_head, show (mdH tos s d).src = s from rfl, show (mdH tos s d).dst = d from rfl, hs, hd, show kF (⟨0, 0, r, B⟩ : Im.Ct).t = false from rfl, decide_eq_true (laid_ne ⟨0, 0, r, B⟩)]
      simp [mdH]
    rw [if_pos this]

/-- A head and a body as one packet. -/
theorem build_pk (h : Hd) (ao p : Option Addr) (no capo n cap : Nat) (u : World) : (Instr.build 29 #[(0, .agg (hdCells h (.slice ao no capo))), (1, .slice p n cap)]).run Tryd.prog u = .ok (.agg (pkCells h (.slice ao no capo) (.slice p n cap))) u := by
  unfold hdCells pkCells
  simp [Instr.build, run_underlying Tryd.underlying29, go_sem]
end Go.Proofs.YtcboenmmkaochaaDoor.N
