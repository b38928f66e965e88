import Derived.Test.YthbjfbalgejndaaTQ
import Derived.Test.YthbjfbalgejndaaTO
namespace Go.Proofs.Ythbjfbalgejndaa.timerForgets
open Go.ChangeShapes Go.WideShapes Go.ChangeAt Go.RowKit

set_option maxRecDepth 100000 in
theorem lifted (os : Os) (started : os.Started) (H : Type) (enc : TypeId × Value → H) :
    ReturnsInHanded {} Try.checked os 6 .any (Rows.timerForgetsSpec.pre6 enc Try.prog Try.f6 Rows.timerForgetsRow.domain false) (Rows.timerForgetsSpec.post enc Try.prog Try.f6 false true false false) := by
  refine returnsInHanded_of_change_sized (C := Try.checked) ownT started (by kernel_rfl) Try.func6
    (ChangeSpec.witness6 (enc := enc) (C := Try.checked) false ⟨#[], #[.slice none 0 0, .slice none 0 0, .int .i64 0], []⟩ 8 (by kernel_rfl) (by kernel_rfl) (by kernel_rfl) (by kernel_rfl)) ?_
  intro W base args ds gs before hval0 hW _ hsz0 _
  have hsz : (DataW.weightsEach Try.prog (Try.f6.params.toList ++ Rows.timerForgetsSpec.plain.varTypes Try.prog) (ds ++ gs)).all (· ≤ reachBytes) = true := hsz0
  have hval : ∀ (j : Nat) t v, Try.f6.params[j]? = some t → args[j]? = some v → Value.okWide Try.prog W .any base t v := hval0
  have hW' := hW
  obtain ⟨p, q, hA0, hV, rfl, hfz, hnd⟩ := hW
  have hA : DataW.TrodAll enc Try.prog W 0 (fun _ => true) true Try.f6.params.toList args.toList ds p := hA0
  rw [Try.params6] at hA hval hsz
  obtain ⟨v0, vs0, d0, ds0, p0, q0, hargs, rfl, rfl, h0, r0⟩ := trodAll_cons hA
  obtain ⟨v1, vs1, d1, ds1, p1, q1, rfl, rfl, rfl, h1, r1⟩ := trodAll_cons r0
  obtain ⟨v2, vs2, d2, ds2, p2, q2, rfl, rfl, rfl, h2, r2⟩ := trodAll_cons r1
  obtain ⟨rfl, rfl, rfl⟩ := trodAll_nil r2
  obtain rfl : args = #[v0, v1, v2] := by cases args; simp_all
  obtain ⟨rfl, rfl⟩ := trodVars_none hV
  clear hA0 hval0
  simp only [List.append_nil] at hW'
  obtain ⟨L0, hs0, hd0⟩ := open_pairs (hval 0 25 v0 rfl rfl) h0
  have hb0 : L0.length ≤ 8796093022208 := by
    by_cases e : L0 = []
    · rw [e]; simp
    · obtain ⟨es, sp, rfl, hl⟩ := hd0 e
      have h1 := sized_slice hsz (j := 0) (t := 25) (e := 35) rfl rfl Try.underlying25
      rw [bytes35] at h1
      unfold reachBytes at h1
      omega
  obtain ⟨L1, hs1, hd1⟩ := open_pairs (hval 1 25 v1 rfl rfl) h1
  have hb1 : L1.length ≤ 8796093022208 := by
    by_cases e : L1 = []
    · rw [e]; simp
    · obtain ⟨es, sp, rfl, hl⟩ := hd1 e
      have h1 := sized_slice hsz (j := 1) (t := 25) (e := 35) rfl rfl Try.underlying25
      rw [bytes35] at h1
      unfold reachBytes at h1
      omega
  obtain ⟨k2, rfl, _, _, wk2⟩ := open_int Try.underlying2 (hval 2 2 v2 rfl rfl) h2
  have hk2 := wf64 wk2
  have hlt : ∀ x, x ∈ p0 ∨ x ∈ p1 ∨ x ∈ p2 → x.block < W.heap.size := fun x hx => hW'.lt x (by simpa using hx)
  refine (forgets_walk v0 v1 L0 L1 k2 W hs0 hs1 hb0 hb1 hk2).mono fun e W' ⟨he, hg⟩ => ?_
  subst he
  exact ⟨_, rfl, _, _, _, [], p0 ++ (p1 ++ (p2 ++ [])), [], hW', trodAll_cons_mk (shut_bool Try.underlying4 _) trodAll_mk0,
    trodAll_cons_mk (Below.trod laidOutT (by kernel_rfl) (of_decide_eq_true (by kernel_rfl)) h0 hg (fun x hx => hlt x (.inl hx))) (trodAll_cons_mk (Below.trod laidOutT (by kernel_rfl) (of_decide_eq_true (by kernel_rfl)) h1 hg (fun x hx => hlt x (.inr (.inl hx)))) (trodAll_cons_mk (Below.trod laidOutT (by kernel_rfl) (of_decide_eq_true (by kernel_rfl)) h2 hg (fun x hx => hlt x (.inr (.inr hx)))) trodAll_mk0)), rfl, hg.frame _, fun h => by cases h⟩

theorem over : Rows.timerForgetsRow.holds Try.pinned (OpenSpec.ofChange Rows.timerForgetsSpec) :=
  OpenClaim.holds_of_wide 6 Try.f6 rfl rfl rfl rfl rfl rfl rfl ⟨rfl, rfl, rfl, rfl, rfl⟩ rfl rfl rfl rfl rfl (by kernel_rfl) Try.func6 (by kernel_rfl)
    (of_decide_eq_true (by kernel_rfl)) (by unfold Func.isWrapper; first | (rw [if_pos (by decide +kernel)]; kernel_rfl) | (rw [if_neg (by decide +kernel)]; exact ⟨rfl, rfl⟩))
    (fun os started H enc _ => lifted os started H enc)
end Go.Proofs.Ythbjfbalgejndaa.timerForgets
namespace Go.Proofs.Ythbjfbalgejndaa
theorem timerForgets_holds : Rows.TimerForgetsSaid := timerForgets.over
#print axioms timerForgets_holds
end Go.Proofs.Ythbjfbalgejndaa
