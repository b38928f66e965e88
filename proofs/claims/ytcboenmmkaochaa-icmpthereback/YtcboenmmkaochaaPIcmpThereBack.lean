import Derived.Test.YtcboenmmkaochaaIN
import Derived.Test.YtcboenmmkaochaaLE
namespace Go.Proofs.Ytcboenmmkaochaa.N.icmpThereBack
open Go.ChangeShapes Go.WideShapes Go.ChangeAt Go.RowKit

theorem own : ownKnob Try.prog.godebug = none := by kernel_rfl
theorem laidOut : laidOutB Try.prog = true := by kernel_rfl

set_option maxRecDepth 100000 in
theorem lifted (os : Os) (started : os.Started) (H : Type) (enc : TypeId × Value → H) :
    ReturnsInHanded {} Try.checked os 4 .any (Rows.icmpThereBackSpec.pre6 enc Try.prog Try.f4 Rows.icmpThereBackRow.domain false) (Rows.icmpThereBackSpec.post enc Try.prog Try.f4 false true false false) := by
  refine returnsInHanded_of_change_sized (C := Try.checked) own started (by kernel_rfl) Try.func4
    (ChangeSpec.witness6 (enc := enc) (C := Try.checked) false ⟨#[], #[.agg #[.int .u8 0, .int .u8 0, .int .u32 0, .slice none 0 0], .slice none 0 0], []⟩ 8 (by kernel_rfl) (by kernel_rfl) (by kernel_rfl) (by kernel_rfl)) ?_
  intro W base args ds gs before hval0 hW _ hsz0 _
  have hsz : (DataW.weightsEach Try.prog (Try.f4.params.toList ++ Rows.icmpThereBackSpec.plain.varTypes Try.prog) (ds ++ gs)).all (· ≤ reachBytes) = true := hsz0
  have hval : ∀ (j : Nat) t v, Try.f4.params[j]? = some t → args[j]? = some v → Value.okWide Try.prog W .any base t v := hval0
  clear hval0
  have hW' := hW
  obtain ⟨p, q, hA0, hV, rfl, hfz, hnd⟩ := hW
  have hA : DataW.TrodAll enc Try.prog W 0 (fun _ => true) true Try.f4.params.toList args.toList ds p := hA0
  rw [Try.params4] at hA hval hsz
  obtain ⟨v0, vs0, d0, ds0, p0, q0, hargs, rfl, rfl, h0, r0⟩ := trodAll_cons hA
  obtain ⟨v1, vs1, d1, ds1, p1, q1, rfl, rfl, rfl, h1, r1⟩ := trodAll_cons r0
  obtain ⟨rfl, rfl, rfl⟩ := trodAll_nil r1
  obtain rfl : args = #[v0, v1] := by cases args; simp_all
  obtain ⟨rfl, rfl⟩ := trodVars_none hV
  clear hA0
  simp only [List.append_nil] at hW'
  obtain ⟨f0, hf0⟩ := h0
  obtain ⟨m0, vm0, e0, hm0, hsm0, fm0, _⟩ := open_ct hf0
  have hv0 : v0 = .agg (ctCells m0 vm0) := by
    obtain ⟨_, _, _, _, hu, _⟩ := und_ct
    obtain ⟨cs, rfl, _⟩ := okWide_struct hu (hval 0 25 v0 rfl rfl)
    have : cs.toList = (ctCells m0 vm0).toList := by simpa [Value.cells] using e0
    rw [show cs = ctCells m0 vm0 from Array.toList_inj.1 this]
  subst hv0
  have hw0 : ∀ x ∈ d0.weights Try.prog 25, x ≤ reachBytes := fun x hx => by
    have := List.all_eq_true.1 hsz x (DataW.weights_mem_each (j := 0) (t := 25) (d := d0) rfl rfl x hx)
    simpa using this
  have bm0 := fm0.room hw0
  unfold reachBytes at bm0
  obtain ⟨f1, hf1⟩ := h1
  obtain ⟨vb1, L1, e1, hs1, fit1, _⟩ := open_bytes hf1
  have hv1 : v1 = vb1 := by
    obtain ⟨a0, len, cap, rfl⟩ := okWide_slice u25 (hval 1 23 v1 rfl rfl)
    simpa [Value.cells] using e1
  subst hv1
  have hw1 : ∀ x ∈ d1.weights Try.prog 23, x ≤ reachBytes := fun x hx => by
    have := List.all_eq_true.1 hsz x (DataW.weights_mem_each (j := 1) (t := 23) (d := d1) rfl rfl x hx)
    simpa using this
  have hl1 := fit1.room hw1
  unfold reachBytes at hl1
  have hlt : ∀ x, x ∈ p0 ∨ x ∈ p1 → x.block < W.heap.size := fun x hx => hW'.lt x (by simpa using hx)
  refine (icmpThereBack_walk m0 vm0 v1 L1 W hm0 hsm0 hs1).mono fun e W' ⟨he, hg⟩ => ?_
  subst he
  exact ⟨_, rfl, _, _, _, [], p0 ++ (p1 ++ []), [], hW', trodAll_cons_mk (shut_bool Try.underlying4 _) trodAll_mk0,
    trodAll_cons_mk (Below.trod laidOut (by kernel_rfl) (of_decide_eq_true (by kernel_rfl)) ⟨f0, hf0⟩ hg (fun x hx => hlt x (.inl hx))) (trodAll_cons_mk (Below.trod laidOut (by kernel_rfl) (of_decide_eq_true (by kernel_rfl)) ⟨f1, hf1⟩ hg (fun x hx => hlt x (.inr hx))) trodAll_mk0), rfl, hg.frame _, fun h => by cases h⟩

theorem over : Rows.icmpThereBackRow.holds Try.pinned (OpenSpec.ofChange Rows.icmpThereBackSpec) :=
  OpenClaim.holds_of_wide 4 Try.f4 rfl rfl rfl rfl rfl rfl rfl ⟨rfl, rfl, rfl, rfl, rfl⟩ rfl rfl rfl rfl rfl (by kernel_rfl) Try.func4 (by kernel_rfl)
    (of_decide_eq_true (by kernel_rfl)) (by unfold Func.isWrapper; first | (rw [if_pos (by decide +kernel)]; kernel_rfl) | (rw [if_neg (by decide +kernel)]; exact ⟨rfl, rfl⟩))
    (fun os started H enc _ => lifted os started H enc)
end Go.Proofs.Ytcboenmmkaochaa.N.icmpThereBack
namespace Go.Proofs.Ytcboenmmkaochaa
theorem icmpThereBack_holds : Rows.IcmpThereBackSaid := N.icmpThereBack.over
#print axioms icmpThereBack_holds
end Go.Proofs.Ytcboenmmkaochaa
