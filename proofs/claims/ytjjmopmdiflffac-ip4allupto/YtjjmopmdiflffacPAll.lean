import Derived.Test.YtjjmopmdiflffacWJ
import Derived.Test.YtjjmopmdiflffacBE
import Derived.Test.YtjjmopmdiflffacBI
import Derived.Test.YtjjmopmdiflffacCC
import Derived.Test.YtjjmopmdiflffacO
import Derived.JoinedCond
import Derived.Deep.CondSized
namespace Go.Proofs.Ytjjmopmdiflffac.ip4All
open Go.ChangeShapes Go.WideShapes Go.ChangeAt Go.RowKit

theorem own : ownKnob Try.prog.godebug = none := by kernel_rfl
theorem laidOut : laidOutB Try.prog = true := by kernel_rfl

set_option maxRecDepth 100000 in
theorem walk (v : Value) (Os : List OpD) (lim : Nat) (w : World) (hs : SeesO w v (Os.map fun o => (o.cells, o.k))) (ho : ∀ o ∈ Os, o.Ok w lim) (hlim : lim ≤ 1048576) :
    Calls Try.prog 7 #[v] w fun e w' => e = .returned (.bool true) ∧ Below w.heap.size w w' := by
  have hh : ∀ k : Nat, 1 ≤ k → k ≤ 7 → ∀ u, Below w.heap.size w u → Calls Try.prog 10 #[.int .i64 (k : Int)] u fun e w' => e = .returned (.bool true) ∧ Below u.heap.size u w' := fun k h1 h2 u _ => by
    match k, h1, h2 with
    | 1, _, _ => exact head_sum u
    | 2, _, _ => exact head_adj u
    | 3, _, _ => exact head_parse u
    | 4, _, _ => exact head_peek u
    | 5, _, _ => exact head_build u
    | 6, _, _ => exact head_age u
    | 7, _, _ => exact head_copied u
  have HU := hid (upTo_any v 1 7 _ w hs (by omega) (by omega) (by omega) hh (fun j hj h1 h2 u hu => by
    simp only [List.getElem_map] at h1 h2 ⊢
    have hj' : j < Os.length := by simpa using hj
    have hok := ho _ (List.getElem_mem hj')
    generalize Os[j] = o at *
    have hly : o.By.length ≤ 140737488355328 := by have := hok.ly; unfold reachBytes at this; omega
    have hlo : o.h.opts.length ≤ 140737488355328 := by have := hok.lo; unfold reachBytes at this; omega
    have hlb : o.B.length ≤ 140737488355328 := by have := hok.lb; unfold reachBytes at this; omega
    unfold OpD.cells
    have hk : o.k = 1 ∨ o.k = 2 ∨ o.k = 3 ∨ o.k = 4 ∨ o.k = 5 ∨ o.k = 6 ∨ o.k = 7 := by omega
    rcases hk with hk | hk | hk | hk | hk | hk | hk <;> rw [hk]
    · exact plays_num 1 (.inl rfl) _ _ _ _ _ _ _ _ u (fun u' hu' => numbers_sum _ _ o.Ls _ _ _ _ _ _ u' ((hok.vp.below hu).below hu') (by have := hok.lp; omega))
    · exact plays_num 2 (.inr rfl) _ _ _ _ _ _ _ _ u (fun u' _ => numbers_adj _ _ _ _ _ _ _ _ u' hok.x hok.y hok.z)
    · exact plays_parse _ _ o.By _ _ _ _ _ _ u (hok.vy.below hu) hly
    · exact plays_peek _ _ o.By _ _ _ _ _ _ u (hok.vy.below hu) hly
    · exact plays_build _ _ _ _ _ _ _ _ o.B u hok.h (hok.vo.below hu) (hok.vb.below hu) hlo hlb
    · exact plays_age _ _ o.By _ _ _ _ _ _ u (hok.vy.below hu) hly
    · exact plays_copied _ _ o.By _ _ _ _ _ _ u (hok.vy.below hu)))
  go_enter Try.func7, Try.ntmps7
  go_wp2_with fail
  refine HU.out.mono ?_
  rintro _ w2 ⟨rfl, hb⟩
  go_wp2_with fail
  go_ret
  exact ⟨rfl, hb⟩

set_option maxRecDepth 100000 in
theorem contract (H : Type) (enc : TypeId × Value → H) (W : World) (base : Nat) (args : Array Value) (ds gs : List (DataW H)) (before : List MemPlace)
    (hval0 : ∀ (j : Nat) t v, Try.f7.params[j]? = some t → args[j]? = some v → Value.okWide Try.prog W .any base t v)
    (hW : DataW.Whole enc Try.prog Try.f7.params.toList Rows.ip4AllSpec.vars false W args.toList ds gs before) (hk : Rows.uptoSmall H (ds ++ gs) = true)
    (hsz0 : (DataW.weightsEach Try.prog (Try.f7.params.toList ++ Rows.ip4AllSpec.plain.varTypes Try.prog) (ds ++ gs)).all (· ≤ reachBytes) = true) :
    Calls Try.prog 7 args W fun e W' => ∃ v, e = .returned v ∧ Rows.ip4AllSpec.post enc Try.prog Try.f7 false true false false W args v W' := by
  have hsz := hsz0
  have hval := hval0
  have hW' := hW
  obtain ⟨p, q, hA0, hV, rfl, hfz, hnd⟩ := hW
  have hA : DataW.TrodAll enc Try.prog W 0 (fun _ => true) true Try.f7.params.toList args.toList ds p := hA0
  rw [Try.params7] at hA hval hsz
  obtain ⟨v0, vs0, d0, ds0, p0, q0, hargs, rfl, rfl, h0, r0⟩ := trodAll_cons hA
  obtain ⟨rfl, rfl, rfl⟩ := trodAll_nil r0
  obtain rfl : args = #[v0] := by cases args; simp_all
  obtain ⟨rfl, rfl⟩ := trodVars_none hV
  clear hA0 hval0
  simp only [List.append_nil] at hW'
  obtain ⟨Os, hs, ho⟩ := open_ops (hval 0 22 v0 rfl rfl) h0 (fun x hx => by
    have := List.all_eq_true.1 hsz x (DataW.weights_mem_each (j := 0) (t := 22) (d := d0) rfl rfl x hx)
    simpa using this)
  have hlt : ∀ x ∈ p0, x.block < W.heap.size := fun x hx => hW'.lt x (by simpa using hx)
  have hlim : Rows.uptoBulk d0 ≤ 1048576 := by
    have h1 : Rows.uptoBulkAll ([d0] ++ []) ≤ 1048576 := of_decide_eq_true hk
    simp only [List.append_nil, Rows.uptoBulkAll] at h1
    omega
  refine (walk v0 Os _ W hs ho hlim).mono fun e W' ⟨he, hg⟩ => ?_
  subst he
  exact ⟨_, rfl, _, _, _, [], p0 ++ [], [], hW', trodAll_cons_mk (shut_bool Try.underlying4 _) trodAll_mk0, trodAll_cons_mk (Below.trod laidOut (by kernel_rfl) (of_decide_eq_true (by kernel_rfl)) h0 hg hlt) trodAll_mk0, rfl, hg.frame _, fun h => by cases h⟩

set_option maxRecDepth 100000 in
theorem lifted (os : Os) (started : os.Started) (H : Type) (enc : TypeId × Value → H) (F : Stop.Interp) :
    ReturnsInHanded {} Try.checked os 7 .any ((Rows.OpenSpec.upto Rows.ip4AllSpec).pre6 enc Try.prog Try.f7 Rows.ip4AllUptoRow.domain false) (((Rows.OpenSpec.upto Rows.ip4AllSpec).at F).post enc Try.prog Try.f7 false true false false) := by
  refine returnsInHanded_of_cond_sized (C := Try.checked) (s := Rows.OpenSpec.upto Rows.ip4AllSpec) (k := Rows.uptoSmall) rfl own started (by kernel_rfl) Try.func7
    (OpenSpec.witness (enc := enc) (C := Try.checked) (s := Rows.OpenSpec.upto Rows.ip4AllSpec) (k := Rows.uptoSmall) rfl false ⟨#[], #[.slice none 0 0], []⟩ 8 (by kernel_rfl) (by kernel_rfl) (by kernel_rfl)
      (x := ([.nil], [], [])) (by kernel_rfl) rfl (by kernel_rfl)) ?_
  intro W base args ds gs before hval hW _ hk hsz _
  exact contract H enc W base args ds gs before hval hW hk hsz

theorem over : Rows.ip4AllUptoRow.holds Try.pinned (Rows.OpenSpec.upto Rows.ip4AllSpec) :=
  OpenClaim.holds_of_cond 7 Try.f7 rfl rfl rfl rfl rfl rfl rfl ⟨rfl, rfl, rfl, rfl, rfl⟩ rfl rfl rfl rfl rfl (by kernel_rfl) Try.func7 (by kernel_rfl)
    (of_decide_eq_true (by kernel_rfl)) (by unfold Func.isWrapper; first | (rw [if_pos (by decide +kernel)]; kernel_rfl) | (rw [if_neg (by decide +kernel)]; exact ⟨rfl, rfl⟩))
    (fun os started H enc _ F => lifted os started H enc F)
end Go.Proofs.Ytjjmopmdiflffac.ip4All
namespace Go.Proofs.Ytjjmopmdiflffac
theorem ip4AllUpto_holds : Rows.Ip4AllUptoSaid := ip4All.over
#print axioms ip4AllUpto_holds
end Go.Proofs.Ytjjmopmdiflffac
