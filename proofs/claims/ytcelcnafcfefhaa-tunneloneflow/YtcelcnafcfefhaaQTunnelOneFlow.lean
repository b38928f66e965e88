import Derived.Test.YtcelcnafcfefhaaFZ
namespace Go.Proofs.Ytcelcnafcfefhaa.N.tunnelOneFlow
open Go.ChangeShapes Go.WideShapes Go.ChangeAt Go.RowKit

theorem own : ownKnob Try.prog.godebug = none := by kernel_rfl
theorem laidOut : laidOutB Try.prog = true := by kernel_rfl

set_option maxRecDepth 100000 in
theorem lifted (os : Os) (started : os.Started) (H : Type) (enc : TypeId × Value → H) :
    ReturnsInHanded {} Try.checked os 6 .any (Rows.tunnelOneFlowSpec.pre6 enc Try.prog Try.f6 Rows.tunnelOneFlowRow.domain false) (Rows.tunnelOneFlowSpec.post enc Try.prog Try.f6 false true false false) := by
  refine returnsInHanded_of_change_sized (C := Try.checked) own started (by kernel_rfl) Try.func6
    (ChangeSpec.witness6 (enc := enc) (C := Try.checked) false ⟨#[], #[.agg #[.int .u8 0, .int .u16 0, .bool false, .bool false, .int .i64 0, .int .u8 0, .int .u8 0, .int .u32 0, .int .u32 0, .slice none 0 0, .slice none 0 0], .int .i64 0, .agg #[.int .u8 0, .int .u8 0, .int .u8 0, .int .u8 0, .int .u8 0, .int .u8 0], .agg #[.int .u8 0, .int .u8 0, .int .u8 0, .int .u8 0, .int .u8 0, .int .u8 0]], []⟩ 8 (by kernel_rfl) (by kernel_rfl) (by kernel_rfl) (by kernel_rfl)) ?_
  intro W base args ds gs before hval0 hW _ hsz0 _
  have hsz : (DataW.weightsEach Try.prog (Try.f6.params.toList ++ Rows.tunnelOneFlowSpec.plain.varTypes Try.prog) (ds ++ gs)).all (· ≤ reachBytes) = true := hsz0
  have hval : ∀ (j : Nat) t v, Try.f6.params[j]? = some t → args[j]? = some v → Value.okWide Try.prog W .any base t v := hval0
  clear hval0
  have hW' := hW
  obtain ⟨p, q, hA0, hV, rfl, hfz, hnd⟩ := hW
  have hA : DataW.TrodAll enc Try.prog W 0 (fun _ => true) true Try.f6.params.toList args.toList ds p := hA0
  rw [Try.params6] at hA hval hsz
  obtain ⟨v0, vs0, d0, ds0, p0, q0, hargs, rfl, rfl, h0, r0⟩ := trodAll_cons hA
  obtain ⟨v1, vs1, d1, ds1, p1, q1, rfl, rfl, rfl, h1, r1⟩ := trodAll_cons r0
  obtain ⟨v2, vs2, d2, ds2, p2, q2, rfl, rfl, rfl, h2, r2⟩ := trodAll_cons r1
  obtain ⟨v3, vs3, d3, ds3, p3, q3, rfl, rfl, rfl, h3, r3⟩ := trodAll_cons r2
  obtain ⟨rfl, rfl, rfl⟩ := trodAll_nil r3
  obtain rfl : args = #[v0, v1, v2, v3] := by cases args; simp_all
  obtain ⟨rfl, rfl⟩ := trodVars_none hV
  clear hA0
  simp only [List.append_nil] at hW'
  obtain ⟨f0, hf0⟩ := h0
  obtain ⟨hd0, vo0, vb0, B0, e0, hok0, hso0, hsb0, fo0, fb0, _, _⟩ := open_pk hf0
  have hv0 : v0 = .agg (pkCells hd0 vo0 vb0) := by
    obtain ⟨x0, x1, hu, _⟩ := u29
    obtain ⟨cs, rfl, _⟩ := okWide_struct hu (hval 0 52 v0 rfl rfl)
    have : cs.toList = (pkCells hd0 vo0 vb0).toList := by simpa [Value.cells] using e0
    rw [show cs = pkCells hd0 vo0 vb0 from Array.toList_inj.1 this]
  subst hv0
  have hw0 : ∀ x ∈ d0.weights Try.prog 52, x ≤ reachBytes := fun x hx => by
    have := List.all_eq_true.1 hsz x (DataW.weights_mem_each (j := 0) (t := 52) (d := d0) rfl rfl x hx)
    simpa using this
  have bo0 := fo0.room hw0
  unfold reachBytes at bo0
  have bb0 := fb0.room hw0
  unfold reachBytes at bb0
  obtain ⟨k1, rfl, _, _, wk1⟩ := open_int u3 (hval 1 3 v1 rfl rfl) h1
  have hk1 := wf_i64 wk1
  obtain ⟨f2, hf2⟩ := h2
  obtain ⟨D2, e2, hD2, hDb2⟩ := open_mac hf2
  have hv2 : v2 = .agg (bs D2).toArray := by
    have hw := hval 2 39 v2 rfl rfl
    simp only [Value.okWide, und_mac] at hw
    obtain ⟨cs, rfl, _⟩ := hw
    have : cs.toList = bs D2 := by simpa [Value.cells] using e2
    rw [show cs = (bs D2).toArray from Array.toList_inj.1 (by simpa using this)]
  subst hv2
  obtain ⟨f3, hf3⟩ := h3
  obtain ⟨D3, e3, hD3, hDb3⟩ := open_mac hf3
  have hv3 : v3 = .agg (bs D3).toArray := by
    have hw := hval 3 39 v3 rfl rfl
    simp only [Value.okWide, und_mac] at hw
    obtain ⟨cs, rfl, _⟩ := hw
    have : cs.toList = bs D3 := by simpa [Value.cells] using e3
    rw [show cs = (bs D3).toArray from Array.toList_inj.1 (by simpa using this)]
  subst hv3
  have hlt : ∀ x, x ∈ p0 ∨ x ∈ p1 ∨ x ∈ p2 ∨ x ∈ p3 → x.block < W.heap.size := fun x hx => hW'.lt x (by simpa using hx)
  refine (tunnelOneFlow_walk hd0 vo0 vb0 B0 k1 D2 D3 W hok0 hso0 hsb0 (by omega) (by omega) hk1.1 hk1.2 hD2 hDb2 hD3 hDb3).mono fun e W' ⟨he, hg⟩ => ?_
  subst he
  exact ⟨_, rfl, _, _, _, [], p0 ++ (p1 ++ (p2 ++ (p3 ++ []))), [], hW', trodAll_cons_mk (shut_bool Try.underlying4 _) trodAll_mk0,
    trodAll_cons_mk (Below.trod laidOut (by kernel_rfl) (of_decide_eq_true (by kernel_rfl)) ⟨f0, hf0⟩ hg (fun x hx => hlt x (.inl hx))) (trodAll_cons_mk (Below.trod laidOut (by kernel_rfl) (of_decide_eq_true (by kernel_rfl)) h1 hg (fun x hx => hlt x (.inr (.inl hx)))) (trodAll_cons_mk (Below.trod laidOut (by kernel_rfl) (of_decide_eq_true (by kernel_rfl)) ⟨f2, hf2⟩ hg (fun x hx => hlt x (.inr (.inr (.inl hx))))) (trodAll_cons_mk (Below.trod laidOut (by kernel_rfl) (of_decide_eq_true (by kernel_rfl)) ⟨f3, hf3⟩ hg (fun x hx => hlt x (.inr (.inr (.inr hx))))) trodAll_mk0))), rfl, hg.frame _, fun h => by cases h⟩

theorem over : Rows.tunnelOneFlowRow.holds Try.pinned (OpenSpec.ofChange Rows.tunnelOneFlowSpec) :=
  OpenClaim.holds_of_wide 6 Try.f6 rfl rfl rfl rfl rfl rfl rfl ⟨rfl, rfl, rfl, rfl, rfl⟩ rfl rfl rfl rfl rfl (by kernel_rfl) Try.func6 (by kernel_rfl)
    (of_decide_eq_true (by kernel_rfl)) (by unfold Func.isWrapper; first | (rw [if_pos (by decide +kernel)]; kernel_rfl) | (rw [if_neg (by decide +kernel)]; exact ⟨rfl, rfl⟩))
    (fun os started H enc _ => lifted os started H enc)
end Go.Proofs.Ytcelcnafcfefhaa.N.tunnelOneFlow
namespace Go.Proofs.Ytcelcnafcfefhaa
theorem tunnelOneFlow_holds : Rows.TunnelOneFlowSaid := N.tunnelOneFlow.over
#print axioms tunnelOneFlow_holds
end Go.Proofs.Ytcelcnafcfefhaa
