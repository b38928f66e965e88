import Derived.Test.YtcelcnafcfefhaaUWQ
import Derived.Test.YtcelcnafcfefhaaEZ
namespace Go.Proofs.Ytcelcnafcfefhaa.N.tunnelReserved
open Go.ChangeShapes Go.WideShapes Go.ChangeAt Go.RowKit

theorem own : ownKnob Try.prog.godebug = none := by kernel_rfl
theorem laidOut : laidOutB Try.prog = true := by kernel_rfl

set_option maxRecDepth 100000 in
theorem lifted (os : Os) (started : os.Started) (H : Type) (enc : TypeId × Value → H) :
    ReturnsInHanded {} Try.checked os 8 .any (Rows.tunnelReservedSpec.pre6 enc Try.prog Try.f8 Rows.tunnelReservedRow.domain false) (Rows.tunnelReservedSpec.post enc Try.prog Try.f8 false true false false) := by
  refine returnsInHanded_of_change_sized (C := Try.checked) own started (by kernel_rfl) Try.func8
    (ChangeSpec.witness6 (enc := enc) (C := Try.checked) false ⟨#[], #[.agg #[.int .u32 0, .int .u32 0, .int .u16 0, .int .u16 0, .int .u8 0, .int .i64 0], .agg #[.int .u8 0, .int .u8 0, .int .u8 0, .int .u8 0, .int .u8 0, .int .u8 0, .int .u8 0, .int .u8 0, .int .u8 0, .int .u8 0, .int .u8 0, .int .u8 0, .int .u16 0, .slice none 0 0], .int .u8 0, .agg #[.int .u8 0, .int .u8 0, .int .u8 0, .int .u8 0]], []⟩ 8 (by kernel_rfl) (by kernel_rfl) (by kernel_rfl) (by kernel_rfl)) ?_
  intro W base args ds gs before hval0 hW _ hsz0 _
  have hsz : (DataW.weightsEach Try.prog (Try.f8.params.toList ++ Rows.tunnelReservedSpec.plain.varTypes Try.prog) (ds ++ gs)).all (· ≤ reachBytes) = true := hsz0
  have hval : ∀ (j : Nat) t v, Try.f8.params[j]? = some t → args[j]? = some v → Value.okWide Try.prog W .any base t v := hval0
  clear hval0
  have hW' := hW
  obtain ⟨p, q, hA0, hV, rfl, hfz, hnd⟩ := hW
  have hA : DataW.TrodAll enc Try.prog W 0 (fun _ => true) true Try.f8.params.toList args.toList ds p := hA0
  rw [Try.params8] at hA hval hsz
  obtain ⟨v0, vs0, d0, ds0, p0, q0, hargs, rfl, rfl, h0, r0⟩ := trodAll_cons hA
  obtain ⟨v1, vs1, d1, ds1, p1, q1, rfl, rfl, rfl, h1, r1⟩ := trodAll_cons r0
  obtain ⟨v2, vs2, d2, ds2, p2, q2, rfl, rfl, rfl, h2, r2⟩ := trodAll_cons r1
  obtain ⟨v3, vs3, d3, ds3, p3, q3, rfl, rfl, rfl, h3, r3⟩ := trodAll_cons r2
  obtain ⟨rfl, rfl, rfl⟩ := trodAll_nil r3
  obtain rfl : args = #[v0, v1, v2, v3] := by cases args; simp_all
  obtain ⟨rfl, rfl⟩ := trodVars_none hV
  clear hA0
  simp only [List.append_nil] at hW'
  obtain ⟨f0, hf0⟩ := h0
  obtain ⟨m0, e0, hm0⟩ := open_ou hf0
  have hv0 : v0 = .agg (ouCells m0) := by
    obtain ⟨_, _, _, _, _, _, hu, _⟩ := und_ou
    obtain ⟨cs, rfl, _⟩ := okWide_struct hu (hval 0 60 v0 rfl rfl)
    have : cs.toList = (ouCells m0).toList := by simpa [Value.cells] using e0
    rw [show cs = ouCells m0 from Array.toList_inj.1 this]
  subst hv0
  obtain ⟨f1, hf1⟩ := h1
  have hw1 : ∀ x ∈ d1.weights Try.prog 41, x ≤ reachBytes := fun x hx => by
    have := List.all_eq_true.1 hsz x (DataW.weights_mem_each (j := 1) (t := 41) (d := d1) rfl rfl x hx)
    simpa using this
  obtain ⟨m1, e1, hm1⟩ := open_fr hf1 hw1
  have hv1 : v1 = .agg (frCells m1.f m1.vb) := by
    obtain ⟨_, _, _, _, hu, _⟩ := und_fr
    obtain ⟨cs, rfl, _⟩ := okWide_struct hu (hval 1 41 v1 rfl rfl)
    have : cs.toList = (frCells m1.f m1.vb).toList := by have e1' : (Value.agg cs).cells.toList = (frCells m1.f m1.vb).toList := e1; simpa [Value.cells] using e1'
    rw [show cs = frCells m1.f m1.vb from Array.toList_inj.1 this]
  subst hv1
  obtain ⟨z2, rfl, _, _, wk2⟩ := open_int u5 (hval 2 5 v2 rfl rfl) h2
  obtain ⟨k2, rfl, hk2⟩ := wf_u8 wk2
  obtain ⟨f3, hf3⟩ := h3
  obtain ⟨qa3, qb3, qc3, qd3, e3, hq3⟩ := open_b4 hf3
  have hv3 : v3 = .agg #[.int .u8 (qa3 : Int), .int .u8 (qb3 : Int), .int .u8 (qc3 : Int), .int .u8 (qd3 : Int)] := by
    have hw := hval 3 67 v3 rfl rfl
    simp only [Value.okWide, und_b4] at hw
    obtain ⟨cs, rfl, _⟩ := hw
    have : cs.toList = [.int .u8 (qa3 : Int), .int .u8 (qb3 : Int), .int .u8 (qc3 : Int), .int .u8 (qd3 : Int)] := by simpa [Value.cells] using e3
    rw [show cs = #[.int .u8 (qa3 : Int), .int .u8 (qb3 : Int), .int .u8 (qc3 : Int), .int .u8 (qd3 : Int)] from Array.toList_inj.1 this]
  subst hv3
  have hlt : ∀ x, x ∈ p0 ∨ x ∈ p1 ∨ x ∈ p2 ∨ x ∈ p3 → x.block < W.heap.size := fun x hx => hW'.lt x (by simpa using hx)
  refine (tunnelReserved_walk m0 m1.f m1.vb k2 qa3 qb3 qc3 qd3 W hm0 hm1.f hm1.vb hk2 hq3).mono fun e W' ⟨he, hg⟩ => ?_
  subst he
  exact ⟨_, rfl, _, _, _, [], p0 ++ (p1 ++ (p2 ++ (p3 ++ []))), [], hW', trodAll_cons_mk (shut_bool Try.underlying4 _) trodAll_mk0,
    trodAll_cons_mk (Below.trod laidOut (by kernel_rfl) (of_decide_eq_true (by kernel_rfl)) ⟨f0, hf0⟩ hg (fun x hx => hlt x (.inl hx))) (trodAll_cons_mk (Below.trod laidOut (by kernel_rfl) (of_decide_eq_true (by kernel_rfl)) ⟨f1, hf1⟩ hg (fun x hx => hlt x (.inr (.inl hx)))) (trodAll_cons_mk (Below.trod laidOut (by kernel_rfl) (of_decide_eq_true (by kernel_rfl)) h2 hg (fun x hx => hlt x (.inr (.inr (.inl hx))))) (trodAll_cons_mk (Below.trod laidOut (by kernel_rfl) (of_decide_eq_true (by kernel_rfl)) ⟨f3, hf3⟩ hg (fun x hx => hlt x (.inr (.inr (.inr hx))))) trodAll_mk0))), rfl, hg.frame _, fun h => by cases h⟩

theorem over : Rows.tunnelReservedRow.holds Try.pinned (OpenSpec.ofChange Rows.tunnelReservedSpec) :=
  OpenClaim.holds_of_wide 8 Try.f8 rfl rfl rfl rfl rfl rfl rfl ⟨rfl, rfl, rfl, rfl, rfl⟩ rfl rfl rfl rfl rfl (by kernel_rfl) Try.func8 (by kernel_rfl)
    (of_decide_eq_true (by kernel_rfl)) (by unfold Func.isWrapper; first | (rw [if_pos (by decide +kernel)]; kernel_rfl) | (rw [if_neg (by decide +kernel)]; exact ⟨rfl, rfl⟩))
    (fun os started H enc _ => lifted os started H enc)
end Go.Proofs.Ytcelcnafcfefhaa.N.tunnelReserved
namespace Go.Proofs.Ytcelcnafcfefhaa
theorem tunnelReserved_holds : Rows.TunnelReservedSaid := N.tunnelReserved.over
#print axioms tunnelReserved_holds
end Go.Proofs.Ytcelcnafcfefhaa
