import Derived.Test.YtjjmopmdiflffacAP
import Derived.Test.YtjjmopmdiflffacO
namespace Go.Proofs.Ytjjmopmdiflffac.ip4Apart
open Go.ChangeShapes Go.WideShapes Go.ChangeAt Go.RowKit

theorem own : ownKnob Try.prog.godebug = none := by kernel_rfl
theorem laidOut : laidOutB Try.prog = true := by kernel_rfl

set_option maxRecDepth 100000 in
theorem lifted (os : Os) (started : os.Started) (H : Type) (enc : TypeId × Value → H) :
    ReturnsInHanded {} Try.checked os 8 .any (Rows.ip4ApartSpec.pre6 enc Try.prog Try.f8 Rows.ip4ApartRow.domain false) (Rows.ip4ApartSpec.post enc Try.prog Try.f8 false true false false) := by
  refine returnsInHanded_of_change_sized (C := Try.checked) own started (by kernel_rfl) Try.func8
    (ChangeSpec.witness6 (enc := enc) (C := Try.checked) false ⟨#[], #[.agg #[.int .u8 0, .int .u16 0, .bool false, .bool false, .int .i64 0, .int .u8 0, .int .u8 0, .int .u32 0, .int .u32 0, .slice none 0 0, .slice none 0 0]], []⟩ 8 (by kernel_rfl) (by kernel_rfl) (by kernel_rfl) (by kernel_rfl)) ?_
  intro W base args ds gs before hval0 hW _ hsz0 _
  have hsz : (DataW.weightsEach Try.prog (Try.f8.params.toList ++ Rows.ip4ApartSpec.plain.varTypes Try.prog) (ds ++ gs)).all (· ≤ reachBytes) = true := hsz0
  have hval : ∀ (j : Nat) t v, Try.f8.params[j]? = some t → args[j]? = some v → Value.okWide Try.prog W .any base t v := hval0
  have hW' := hW
  obtain ⟨p, q, hA0, hV, rfl, hfz, hnd⟩ := hW
  have hA : DataW.TrodAll enc Try.prog W 0 (fun _ => true) true Try.f8.params.toList args.toList ds p := hA0
  rw [Try.params8] at hA hval hsz
  obtain ⟨v0, vs0, d0, ds0, p0, q0, hargs, rfl, rfl, h0, r0⟩ := trodAll_cons hA
  obtain ⟨rfl, rfl, rfl⟩ := trodAll_nil r0
  obtain rfl : args = #[v0] := by cases args; simp_all
  obtain ⟨rfl, rfl⟩ := trodVars_none hV
  clear hA0 hval0
  simp only [List.append_nil] at hW'
  obtain ⟨f0, hf0⟩ := h0
  obtain ⟨hd0, vo0, vb0, B0, e0, hok0, hso0, hsb0, fo0, fb0, _, _⟩ := open_pk hf0
  have hv0 : v0 = .agg (pkCells hd0 vo0 vb0) := by
    obtain ⟨x0, x1, hu, _⟩ := u29
    obtain ⟨cs, rfl, _⟩ := okWide_struct hu (hval 0 32 v0 rfl rfl)
    have : cs.toList = (pkCells hd0 vo0 vb0).toList := by simpa [Value.cells] using e0
    rw [show cs = pkCells hd0 vo0 vb0 from Array.toList_inj.1 this]
  subst hv0
  have hw0 : ∀ x ∈ d0.weights Try.prog 32, x ≤ reachBytes := fun x hx => by
    have := List.all_eq_true.1 hsz x (DataW.weights_mem_each (j := 0) (t := 32) (d := d0) rfl rfl x hx)
    simpa using this
  have bo0 := fo0.room hw0
  have bb0 := fb0.room hw0
  unfold reachBytes at bo0 bb0
  have hlt : ∀ x, x ∈ p0 → x.block < W.heap.size := fun x hx => hW'.lt x (by simpa using hx)
  refine (apart_walk hd0 vo0 vb0 B0 W hok0 hso0 hsb0 (by omega) (by omega)).mono fun e W' ⟨he, hg⟩ => ?_
  subst he
  exact ⟨_, rfl, _, _, _, [], p0 ++ [], [], hW', trodAll_cons_mk (shut_bool Try.underlying4 _) trodAll_mk0,
    trodAll_cons_mk (Below.trod laidOut (by kernel_rfl) (of_decide_eq_true (by kernel_rfl)) ⟨f0, hf0⟩ hg (fun x hx => hlt x (hx))) trodAll_mk0, rfl, hg.frame _, fun h => by cases h⟩

theorem over : Rows.ip4ApartRow.holds Try.pinned (OpenSpec.ofChange Rows.ip4ApartSpec) :=
  OpenClaim.holds_of_wide 8 Try.f8 rfl rfl rfl rfl rfl rfl rfl ⟨rfl, rfl, rfl, rfl, rfl⟩ rfl rfl rfl rfl rfl (by kernel_rfl) Try.func8 (by kernel_rfl)
    (of_decide_eq_true (by kernel_rfl)) (by unfold Func.isWrapper; first | (rw [if_pos (by decide +kernel)]; kernel_rfl) | (rw [if_neg (by decide +kernel)]; exact ⟨rfl, rfl⟩))
    (fun os started H enc _ => lifted os started H enc)
end Go.Proofs.Ytjjmopmdiflffac.ip4Apart
namespace Go.Proofs.Ytjjmopmdiflffac
theorem ip4Apart_holds : Rows.Ip4ApartSaid := ip4Apart.over
#print axioms ip4Apart_holds
end Go.Proofs.Ytjjmopmdiflffac
