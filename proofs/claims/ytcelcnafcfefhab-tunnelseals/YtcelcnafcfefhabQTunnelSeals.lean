import Derived.Test.YtcelcnafcfefhabSZ
namespace Go.Proofs.Ytcelcnafcfefhab.N.tunnelSeals
open Go.ChangeShapes Go.WideShapes Go.ChangeAt Go.RowKit

theorem own : ownKnob Try.prog.godebug = none := by kernel_rfl
theorem laidOut : laidOutB Try.prog = true := by kernel_rfl

set_option maxRecDepth 100000 in
theorem lifted (os : Os) (started : os.Started) (H : Type) (enc : TypeId × Value → H) :
    ReturnsInHanded {} Try.checked os 4 .any (Rows.tunnelSealsSpec.pre6 enc Try.prog Try.f4 Rows.tunnelSealsRow.domain false) (Rows.tunnelSealsSpec.post enc Try.prog Try.f4 false true false false) := by
  refine returnsInHanded_of_change_sized (C := Try.checked) own started (by kernel_rfl) Try.func4
    (ChangeSpec.witness6 (enc := enc) (C := Try.checked) false ⟨#[], #[.agg #[.int .u32 0, .int .u32 0, .int .u16 0, .int .u16 0, .int .u8 0, .int .i64 0], .agg #[.int .u8 0, .int .u8 0, .int .u8 0, .int .u8 0, .int .u8 0, .int .u8 0, .int .u8 0, .int .u8 0, .int .u8 0, .int .u8 0, .int .u8 0, .int .u8 0, .int .u16 0, .slice none 0 0]], []⟩ 8 (by kernel_rfl) (by kernel_rfl) (by kernel_rfl) (by kernel_rfl)) ?_
  intro W base args ds gs before hval0 hW _ hsz0 _
  have hsz : (DataW.weightsEach Try.prog (Try.f4.params.toList ++ Rows.tunnelSealsSpec.plain.varTypes Try.prog) (ds ++ gs)).all (· ≤ reachBytes) = true := hsz0
  have hval : ∀ (j : Nat) t v, Try.f4.params[j]? = some t → args[j]? = some v → Value.okWide Try.prog W .any base t v := hval0
  clear hval0
  have hW' := hW
  obtain ⟨p, q, hA0, hV, rfl, hfz, hnd⟩ := hW
  have hA : DataW.TrodAll enc Try.prog W 0 (fun _ => true) true Try.f4.params.toList args.toList ds p := hA0
  rw [Try.params4] at hA hval hsz
  obtain ⟨v0, vs0, d0, ds0, p0, q0, hargs, rfl, rfl, h0, r0⟩ := trodAll_cons hA
  obtain ⟨v1, vs1, d1, ds1, p1, q1, rfl, rfl, rfl, h1, r1⟩ := trodAll_cons r0
  obtain ⟨rfl, rfl, rfl⟩ := trodAll_nil r1
  obtain rfl : args = #[v0, v1] := by cases args; simp_all
  obtain ⟨rfl, rfl⟩ := trodVars_none hV
  clear hA0
  simp only [List.append_nil] at hW'
  obtain ⟨f0, hf0⟩ := h0
  obtain ⟨m0, e0, hm0⟩ := open_ou hf0
  have hv0 : v0 = .agg (ouCells m0) := by
    obtain ⟨_, _, _, _, _, _, hu, _⟩ := und_ou
    obtain ⟨cs, rfl, _⟩ := okWide_struct hu (hval 0 26 v0 rfl rfl)
    have : cs.toList = (ouCells m0).toList := by simpa [Value.cells] using e0
    rw [show cs = ouCells m0 from Array.toList_inj.1 this]
  subst hv0
  obtain ⟨f1, hf1⟩ := h1
  have hw1 : ∀ x ∈ d1.weights Try.prog 31, x ≤ reachBytes := fun x hx => by
    have := List.all_eq_true.1 hsz x (DataW.weights_mem_each (j := 1) (t := 31) (d := d1) rfl rfl x hx)
    simpa using this
  obtain ⟨m1, e1, hm1⟩ := open_fr hf1 hw1
  have hv1 : v1 = .agg (frCells m1.f m1.vb) := by
    obtain ⟨_, _, _, _, hu, _⟩ := und_fr
    obtain ⟨cs, rfl, _⟩ := okWide_struct hu (hval 1 31 v1 rfl rfl)
    have : cs.toList = (frCells m1.f m1.vb).toList := by have e1' : (Value.agg cs).cells.toList = (frCells m1.f m1.vb).toList := e1; simpa [Value.cells] using e1'
    rw [show cs = frCells m1.f m1.vb from Array.toList_inj.1 this]
  subst hv1
  have hlt : ∀ x, x ∈ p0 ∨ x ∈ p1 → x.block < W.heap.size := fun x hx => hW'.lt x (by simpa using hx)
  refine (tunnelSeals_walk m0 m1.f m1.vb W hm0 hm1.f hm1.vb hm1.lb).mono fun e W' ⟨he, hg⟩ => ?_
  subst he
  exact ⟨_, rfl, _, _, _, [], p0 ++ (p1 ++ []), [], hW', trodAll_cons_mk (shut_bool Try.underlying4 _) trodAll_mk0,
    trodAll_cons_mk (Below.trod laidOut (by kernel_rfl) (of_decide_eq_true (by kernel_rfl)) ⟨f0, hf0⟩ hg (fun x hx => hlt x (.inl hx))) (trodAll_cons_mk (Below.trod laidOut (by kernel_rfl) (of_decide_eq_true (by kernel_rfl)) ⟨f1, hf1⟩ hg (fun x hx => hlt x (.inr hx))) trodAll_mk0), rfl, hg.frame _, fun h => by cases h⟩

theorem over : Rows.tunnelSealsRow.holds Try.pinned (OpenSpec.ofChange Rows.tunnelSealsSpec) :=
  OpenClaim.holds_of_wide 4 Try.f4 rfl rfl rfl rfl rfl rfl rfl ⟨rfl, rfl, rfl, rfl, rfl⟩ rfl rfl rfl rfl rfl (by kernel_rfl) Try.func4 (by kernel_rfl)
    (of_decide_eq_true (by kernel_rfl)) (by unfold Func.isWrapper; first | (rw [if_pos (by decide +kernel)]; kernel_rfl) | (rw [if_neg (by decide +kernel)]; exact ⟨rfl, rfl⟩))
    (fun os started H enc _ => lifted os started H enc)
end Go.Proofs.Ytcelcnafcfefhab.N.tunnelSeals
namespace Go.Proofs.Ytcelcnafcfefhab
theorem tunnelSeals_holds : Rows.TunnelSealsSaid := N.tunnelSeals.over
#print axioms tunnelSeals_holds
end Go.Proofs.Ytcelcnafcfefhab
