import Derived.Test.YtcelcnafcfefhaaTS
import Derived.Test.YtcelcnafcfefhaaTU
namespace Go.Proofs.Ytcelcnafcfefhaa.N.tunnelSums
open Go.ChangeShapes Go.WideShapes Go.ChangeAt Go.RowKit

theorem own : ownKnob Try.prog.godebug = none := by kernel_rfl
theorem laidOut : laidOutB Try.prog = true := by kernel_rfl

set_option maxRecDepth 100000 in
theorem lifted (os : Os) (started : os.Started) (H : Type) (enc : TypeId × Value → H) :
    ReturnsInHanded {} Try.checked os 3 .any (Rows.tunnelSumsSpec.pre6 enc Try.prog Try.f3 Rows.tunnelSumsRow.domain false) (Rows.tunnelSumsSpec.post enc Try.prog Try.f3 false true false false) := by
  refine returnsInHanded_of_change_sized (C := Try.checked) own started (by kernel_rfl) Try.func3
    (ChangeSpec.witness6 (enc := enc) (C := Try.checked) false ⟨#[], #[.int .u32 0, .int .u32 0, .agg #[.int .u16 0, .int .u16 0, .slice none 0 0], .int .i64 0, .int .i64 0], []⟩ 8 (by kernel_rfl) (by kernel_rfl) (by kernel_rfl) (by kernel_rfl)) ?_
  intro W base args ds gs before hval0 hW _ hsz0 _
  have hsz : (DataW.weightsEach Try.prog (Try.f3.params.toList ++ Rows.tunnelSumsSpec.plain.varTypes Try.prog) (ds ++ gs)).all (· ≤ reachBytes) = true := hsz0
  have hval : ∀ (j : Nat) t v, Try.f3.params[j]? = some t → args[j]? = some v → Value.okWide Try.prog W .any base t v := hval0
  clear hval0
  have hW' := hW
  obtain ⟨p, q, hA0, hV, rfl, hfz, hnd⟩ := hW
  have hA : DataW.TrodAll enc Try.prog W 0 (fun _ => true) true Try.f3.params.toList args.toList ds p := hA0
  rw [Try.params3] at hA hval hsz
  obtain ⟨v0, vs0, d0, ds0, p0, q0, hargs, rfl, rfl, h0, r0⟩ := trodAll_cons hA
  obtain ⟨v1, vs1, d1, ds1, p1, q1, rfl, rfl, rfl, h1, r1⟩ := trodAll_cons r0
  obtain ⟨v2, vs2, d2, ds2, p2, q2, rfl, rfl, rfl, h2, r2⟩ := trodAll_cons r1
  obtain ⟨v3, vs3, d3, ds3, p3, q3, rfl, rfl, rfl, h3, r3⟩ := trodAll_cons r2
  obtain ⟨v4, vs4, d4, ds4, p4, q4, rfl, rfl, rfl, h4, r4⟩ := trodAll_cons r3
  obtain ⟨rfl, rfl, rfl⟩ := trodAll_nil r4
  obtain rfl : args = #[v0, v1, v2, v3, v4] := by cases args; simp_all
  obtain ⟨rfl, rfl⟩ := trodVars_none hV
  clear hA0
  simp only [List.append_nil] at hW'
  obtain ⟨z0, rfl, _, _, wk0⟩ := open_int und_ad (hval 0 23 v0 rfl rfl) h0
  obtain ⟨k0, rfl, hk0⟩ := wf_u32 wk0
  obtain ⟨z1, rfl, _, _, wk1⟩ := open_int und_ad (hval 1 23 v1 rfl rfl) h1
  obtain ⟨k1, rfl, hk1⟩ := wf_u32 wk1
  obtain ⟨f2, hf2⟩ := h2
  obtain ⟨m2, vm2, e2, hm2, hsm2, _, _⟩ := open_dg hf2
  have hv2 : v2 = .agg (dgCells m2 vm2) := by
    obtain ⟨_, _, _, hu, _⟩ := und_dg
    obtain ⟨cs, rfl, _⟩ := okWide_struct hu (hval 2 27 v2 rfl rfl)
    have : cs.toList = (dgCells m2 vm2).toList := by simpa [Value.cells] using e2
    rw [show cs = dgCells m2 vm2 from Array.toList_inj.1 this]
  subst hv2
  have hw2 : ∀ x ∈ d2.weights Try.prog 27, x ≤ reachBytes := fun x hx => by
    have := List.all_eq_true.1 hsz x (DataW.weights_mem_each (j := 2) (t := 27) (d := d2) rfl rfl x hx)
    simpa using this
  obtain ⟨k3, rfl, _, _, wk3⟩ := open_int u3 (hval 3 3 v3 rfl rfl) h3
  have hk3 := wf_i64 wk3
  obtain ⟨k4, rfl, _, _, wk4⟩ := open_int u3 (hval 4 3 v4 rfl rfl) h4
  have hk4 := wf_i64 wk4
  have hlt : ∀ x, x ∈ p0 ∨ x ∈ p1 ∨ x ∈ p2 ∨ x ∈ p3 ∨ x ∈ p4 → x.block < W.heap.size := fun x hx => hW'.lt x (by simpa using hx)
  refine (tunnelSums_walk k0 k1 m2 vm2 k3 k4 W hk0 hk1 hm2 hsm2 hk3 hk4).mono fun e W' ⟨he, hg⟩ => ?_
  subst he
  exact ⟨_, rfl, _, _, _, [], p0 ++ (p1 ++ (p2 ++ (p3 ++ (p4 ++ [])))), [], hW', trodAll_cons_mk (shut_bool Try.underlying4 _) trodAll_mk0,
    trodAll_cons_mk (Below.trod laidOut (by kernel_rfl) (of_decide_eq_true (by kernel_rfl)) h0 hg (fun x hx => hlt x (.inl hx))) (trodAll_cons_mk (Below.trod laidOut (by kernel_rfl) (of_decide_eq_true (by kernel_rfl)) h1 hg (fun x hx => hlt x (.inr (.inl hx)))) (trodAll_cons_mk (Below.trod laidOut (by kernel_rfl) (of_decide_eq_true (by kernel_rfl)) ⟨f2, hf2⟩ hg (fun x hx => hlt x (.inr (.inr (.inl hx))))) (trodAll_cons_mk (Below.trod laidOut (by kernel_rfl) (of_decide_eq_true (by kernel_rfl)) h3 hg (fun x hx => hlt x (.inr (.inr (.inr (.inl hx)))))) (trodAll_cons_mk (Below.trod laidOut (by kernel_rfl) (of_decide_eq_true (by kernel_rfl)) h4 hg (fun x hx => hlt x (.inr (.inr (.inr (.inr hx)))))) trodAll_mk0)))), rfl, hg.frame _, fun h => by cases h⟩

theorem over : Rows.tunnelSumsRow.holds Try.pinned (OpenSpec.ofChange Rows.tunnelSumsSpec) :=
  OpenClaim.holds_of_wide 3 Try.f3 rfl rfl rfl rfl rfl rfl rfl ⟨rfl, rfl, rfl, rfl, rfl⟩ rfl rfl rfl rfl rfl (by kernel_rfl) Try.func3 (by kernel_rfl)
    (of_decide_eq_true (by kernel_rfl)) (by unfold Func.isWrapper; first | (rw [if_pos (by decide +kernel)]; kernel_rfl) | (rw [if_neg (by decide +kernel)]; exact ⟨rfl, rfl⟩))
    (fun os started H enc _ => lifted os started H enc)
end Go.Proofs.Ytcelcnafcfefhaa.N.tunnelSums
namespace Go.Proofs.Ytcelcnafcfefhaa
theorem tunnelSums_holds : Rows.TunnelSumsSaid := N.tunnelSums.over
#print axioms tunnelSums_holds
end Go.Proofs.Ytcelcnafcfefhaa
