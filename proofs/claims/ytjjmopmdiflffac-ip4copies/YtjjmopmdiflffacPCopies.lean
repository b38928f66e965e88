import Derived.Test.YtjjmopmdiflffacCC
import Derived.Test.YtjjmopmdiflffacO
namespace Go.Proofs.Ytjjmopmdiflffac.ip4Copies
open Go.ChangeShapes Go.WideShapes Go.ChangeAt Go.RowKit

theorem own : ownKnob Try.prog.godebug = none := by kernel_rfl
theorem laidOut : laidOutB Try.prog = true := by kernel_rfl

set_option maxRecDepth 100000 in
theorem walk (v : Value) (Os : List OpD) (lim : Nat) (w : World) (hs : SeesO w v (Os.map fun o => (o.cells, o.k))) (ho : ∀ o ∈ Os, o.Ok w lim) :
    Calls Try.prog 6 #[v] w fun e w' => e = .returned (.bool true) ∧ Below w.heap.size w w' := by
  have hh : ∀ k : Nat, 7 ≤ k → k ≤ 7 → ∀ u, Below w.heap.size w u → Calls Try.prog 10 #[.int .i64 (k : Int)] u fun e w' => e = .returned (.bool true) ∧ Below u.heap.size u w' := fun k h1 h2 u _ => by
    obtain rfl : k = 7 := by omega
    exact head_copied u
  have HU := hid (upTo_any v 7 7 _ w hs (by omega) (by omega) (by omega) hh (fun j hj h1 h2 u hu => by
    simp only [List.getElem_map] at h1 h2 ⊢
    have hj' : j < Os.length := by simpa using hj
    have hok := ho _ (List.getElem_mem hj')
    generalize Os[j] = o at *
    have hk : o.k = 7 := by omega
    unfold OpD.cells
    rw [hk]
    exact plays_copied _ _ o.By _ _ _ _ _ _ u (hok.vy.below hu)))
  go_enter Try.func6, Try.ntmps6
  go_wp2_with fail
  refine HU.out.mono ?_
  rintro _ w2 ⟨rfl, hb⟩
  go_wp2_with fail
  go_ret
  exact ⟨rfl, hb⟩

set_option maxRecDepth 100000 in
theorem lifted (os : Os) (started : os.Started) (H : Type) (enc : TypeId × Value → H) :
    ReturnsInHanded {} Try.checked os 6 .any (Rows.ip4CopiesSpec.pre6 enc Try.prog Try.f6 Rows.ip4CopiesRow.domain false) (Rows.ip4CopiesSpec.post enc Try.prog Try.f6 false true false false) := by
  refine returnsInHanded_of_change_sized (C := Try.checked) own started (by kernel_rfl) Try.func6
    (ChangeSpec.witness6 (enc := enc) (C := Try.checked) false ⟨#[], #[.slice none 0 0], []⟩ 8 (by kernel_rfl) (by kernel_rfl) (by kernel_rfl) (by kernel_rfl)) ?_
  intro W base args ds gs before hval0 hW _ hsz0 _
  have hsz : (DataW.weightsEach Try.prog (Try.f6.params.toList ++ Rows.ip4CopiesSpec.plain.varTypes Try.prog) (ds ++ gs)).all (· ≤ reachBytes) = true := hsz0
  have hval : ∀ (j : Nat) t v, Try.f6.params[j]? = some t → args[j]? = some v → Value.okWide Try.prog W .any base t v := hval0
  have hW' := hW
  obtain ⟨p, q, hA0, hV, rfl, hfz, hnd⟩ := hW
  have hA : DataW.TrodAll enc Try.prog W 0 (fun _ => true) true Try.f6.params.toList args.toList ds p := hA0
  rw [Try.params6] at hA hval hsz
  obtain ⟨v0, vs0, d0, ds0, p0, q0, hargs, rfl, rfl, h0, r0⟩ := trodAll_cons hA
  obtain ⟨rfl, rfl, rfl⟩ := trodAll_nil r0
  obtain rfl : args = #[v0] := by cases args; simp_all
  obtain ⟨rfl, rfl⟩ := trodVars_none hV
  clear hA0 hval0
  simp only [List.append_nil] at hW'
  obtain ⟨Os, hs, ho⟩ := open_ops (hval 0 22 v0 rfl rfl) h0 (fun x hx => by
    have := List.all_eq_true.1 hsz x (DataW.weights_mem_each (j := 0) (t := 22) (d := d0) rfl rfl x hx)
    simpa using this)
  have hlt : ∀ x ∈ p0, x.block < W.heap.size := fun x hx => hW'.lt x (by simpa using hx)
  refine (walk v0 Os _ W hs ho).mono fun e W' ⟨he, hg⟩ => ?_
  subst he
  exact ⟨_, rfl, _, _, _, [], p0 ++ [], [], hW', trodAll_cons_mk (shut_bool Try.underlying4 _) trodAll_mk0, trodAll_cons_mk (Below.trod laidOut (by kernel_rfl) (of_decide_eq_true (by kernel_rfl)) h0 hg hlt) trodAll_mk0, rfl, hg.frame _, fun h => by cases h⟩

theorem over : Rows.ip4CopiesRow.holds Try.pinned (OpenSpec.ofChange Rows.ip4CopiesSpec) :=
  OpenClaim.holds_of_wide 6 Try.f6 rfl rfl rfl rfl rfl rfl rfl ⟨rfl, rfl, rfl, rfl, rfl⟩ rfl rfl rfl rfl rfl (by kernel_rfl) Try.func6 (by kernel_rfl)
    (of_decide_eq_true (by kernel_rfl)) (by unfold Func.isWrapper; first | (rw [if_pos (by decide +kernel)]; kernel_rfl) | (rw [if_neg (by decide +kernel)]; exact ⟨rfl, rfl⟩))
    (fun os started H enc _ => lifted os started H enc)
end Go.Proofs.Ytjjmopmdiflffac.ip4Copies
namespace Go.Proofs.Ytjjmopmdiflffac
theorem ip4Copies_holds : Rows.Ip4CopiesSaid := ip4Copies.over
#print axioms ip4Copies_holds
end Go.Proofs.Ytjjmopmdiflffac
