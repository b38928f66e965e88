import Derived.Test.YtjjmopmdiflffaaG
import Derived.Test.YtjjmopmdiflffaaO
namespace Go.Proofs.Ytjjmopmdiflffaa.ip4AdjustSum
open Go.ChangeShapes Go.WideShapes Go.ChangeAt Go.RowKit

theorem own : ownKnob Try.prog.godebug = none := by kernel_rfl
theorem laidOut : laidOutB Try.prog = true := by kernel_rfl

set_option maxRecDepth 100000 in
theorem lifted (os : Os) (started : os.Started) (H : Type) (enc : TypeId × Value → H) :
    ReturnsInHanded {} Try.checked os 4 .any (Rows.ip4AdjustSumSpec.pre6 enc Try.prog Try.f4 Rows.ip4AdjustSumRow.domain false) (Rows.ip4AdjustSumSpec.post enc Try.prog Try.f4 false true false false) := by
  refine returnsInHanded_of_change_sized (C := Try.checked) own started (by kernel_rfl) Try.func4
    (ChangeSpec.witness6 (enc := enc) (C := Try.checked) false ⟨#[], #[.slice none 0 0, .int .i64 0, .int .u16 0], []⟩ 8 (by kernel_rfl) (by kernel_rfl) (by kernel_rfl) (by kernel_rfl)) ?_
  intro W base args ds gs before hval0 hW _ hsz0 _
  have hsz : (DataW.weightsEach Try.prog (Try.f4.params.toList ++ Rows.ip4AdjustSumSpec.plain.varTypes Try.prog) (ds ++ gs)).all (· ≤ reachBytes) = true := hsz0
  have hval : ∀ (j : Nat) t v, Try.f4.params[j]? = some t → args[j]? = some v → Value.okWide Try.prog W .any base t v := hval0
  have hW' := hW
  obtain ⟨p, q, hA0, hV, rfl, hfz, hnd⟩ := hW
  have hA : DataW.TrodAll enc Try.prog W 0 (fun _ => true) true Try.f4.params.toList args.toList ds p := hA0
  rw [Try.params4] at hA hval hsz
  obtain ⟨v0, vs0, d0, ds0, p0, q0, hargs, rfl, rfl, h0, r0⟩ := trodAll_cons hA
  obtain ⟨v1, vs1, d1, ds1, p1, q1, rfl, rfl, rfl, h1, r1⟩ := trodAll_cons r0
  obtain ⟨v2, vs2, d2, ds2, p2, q2, rfl, rfl, rfl, h2, r2⟩ := trodAll_cons r1
  obtain ⟨rfl, rfl, rfl⟩ := trodAll_nil r2
  obtain rfl : args = #[v0, v1, v2] := by cases args; simp_all
  obtain ⟨rfl, rfl⟩ := trodVars_none hV
  clear hA0 hval0
  simp only [List.append_nil] at hW'
  obtain ⟨at0, rfl, _, _, wa⟩ := open_int u3 (hval 1 3 v1 rfl rfl) h1
  obtain ⟨b0, rfl, _, _, wb⟩ := open_int u23 (hval 2 23 v2 rfl rfl) h2
  obtain ⟨n0, rfl, hn0⟩ := wf_u16 wb
  obtain ⟨fuel, hf⟩ := h0
  obtain ⟨vb, L, e, hs, hfit, _⟩ := open_bytes hf
  have hv : v0 = vb := by
    obtain ⟨a0, len, cap, rfl⟩ := okWide_slice u24 (hval 0 24 v0 rfl rfl)
    simpa [Value.cells] using e
  subst hv
  have hl : L.length ≤ reachBytes := hfit.room (fun x hx => by
    have := List.all_eq_true.1 hsz x (DataW.weights_mem_each (j := 0) (t := 24) (d := d0) rfl rfl x hx)
    simpa using this)
  unfold reachBytes at hl
  have hlt : ∀ x, x ∈ p0 ∨ x ∈ p1 ∨ x ∈ p2 → x.block < W.heap.size := fun x hx => hW'.lt x (by simpa using hx)
  refine (adjustSum_walk v0 L at0 n0 W hs (by omega) (wf_i64 wa) hn0).mono fun e W' ⟨he, hg⟩ => ?_
  subst he
  exact ⟨_, rfl, _, _, _, [], p0 ++ (p1 ++ (p2 ++ [])), [], hW', trodAll_cons_mk (shut_bool Try.underlying4 _) trodAll_mk0,
    trodAll_cons_mk (Below.trod laidOut (by kernel_rfl) (of_decide_eq_true (by kernel_rfl)) ⟨fuel, hf⟩ hg (fun x hx => hlt x (.inl hx)))
      (trodAll_cons_mk (Below.trod laidOut (by kernel_rfl) (of_decide_eq_true (by kernel_rfl)) h1 hg (fun x hx => hlt x (.inr (.inl hx))))
        (trodAll_cons_mk (Below.trod laidOut (by kernel_rfl) (of_decide_eq_true (by kernel_rfl)) h2 hg (fun x hx => hlt x (.inr (.inr hx)))) trodAll_mk0)), rfl, hg.frame _, fun h => by cases h⟩

theorem over : Rows.ip4AdjustSumRow.holds Try.pinned (OpenSpec.ofChange Rows.ip4AdjustSumSpec) :=
  OpenClaim.holds_of_wide 4 Try.f4 rfl rfl rfl rfl rfl rfl rfl ⟨rfl, rfl, rfl, rfl, rfl⟩ rfl rfl rfl rfl rfl (by kernel_rfl) Try.func4 (by kernel_rfl)
    (of_decide_eq_true (by kernel_rfl)) (by unfold Func.isWrapper; first | (rw [if_pos (by decide +kernel)]; kernel_rfl) | (rw [if_neg (by decide +kernel)]; exact ⟨rfl, rfl⟩))
    (fun os started H enc _ => lifted os started H enc)
end Go.Proofs.Ytjjmopmdiflffaa.ip4AdjustSum
namespace Go.Proofs.Ytjjmopmdiflffaa
theorem ip4AdjustSum_holds : Rows.Ip4AdjustSumSaid := ip4AdjustSum.over
#print axioms ip4AdjustSum_holds
end Go.Proofs.Ytjjmopmdiflffaa
