import Derived.Test.YtpdnnikkaojnkaaGreatYLN
namespace Go.Proofs.YtpdnnikkaojnkaaGreat.Rt
open Go.Proofs.YtpdnnikkaojnkaaGreat Go.ChangeShapes Go.WideShapes Go.ChangeAt Go.RowKit Go.Maps Tri N
set_option maxHeartbeats 8000000
set_option maxRecDepth 100000
theorem do_one (s : Ks) (o : Opv) : doN s [o] = (if oneE s o = 0 then 1 else 0) ∧ doE s [o] = oneE s o ∧ doS s [o] = oneS s o := by
  by_cases h : oneE s o = 0
  · simp [doN, doE, doS, h]
  · refine ⟨by simp [doN, h], by simp [doE, h], ?_⟩
    simp [doS, oneS, h]
theorem sees_one {w : World} {g : Nat} {o : Opv} (h : w.heap[g]? = some (.cells o.cells 46)) : SeesOp (fun c => c = g) w (some ⟨g, 0, none⟩) 1 [o] := by
  refine ⟨rfl, .inr ⟨g, 0, rfl, rfl, (Array.getElem?_eq_some_iff.1 h).1, fun j x hx i v hv => ?_⟩⟩
  rw [cell_of_row _ _ _ _ _ _ h]
  match j, hx with
  | 0, hx =>
    obtain rfl := Option.some.inj hx
    rw [show 0 + 0 * 19 + i = i by omega, ← Array.getElem?_toList]
    exact hv
  | j + 1, hx => cases hx
structure K1 (w0 : World) (N : Nat) (w : World) (k : Nat) (s : Ks) : Prop where
  at_ : ∃ b, KAt w (fun c => w0.heap.size ≤ c ∧ c < N) b s ∧ b.kb = k
  bel : Below w0.heap.size w0 w
  hi : N ≤ w.heap.size
section
variable {H : Type} {enc : TypeId × Value → H} {W : World}
theorem open_ps {base : Nat} {v : Value} {d : DataW H} {ps : List MemPlace} (hval : Value.okWide Tryz.prog W .any base 24 v) (h : DataW.Trod enc Tryz.prog W 0 (fun _ => true) true 24 v d ps) :
    ∃ a n c L, v = .slice a n c ∧ SeesOp (fun k => k < W.heap.size) W a n L ∧ (∀ o ∈ L, o.Ok) ∧ n ≤ 9223372036854775807 := by
  obtain ⟨a0, len, cap, rfl⟩ := okWide_slice uOps hval
  obtain ⟨fuel, hf⟩ := h
  obtain ⟨a, n, c, L, h1, h2, h3, h4⟩ := open_ops hf
  simp [Value.cells] at h1
  obtain ⟨rfl, rfl, rfl⟩ := h1
  exact ⟨_, _, _, L, rfl, h2, h3, h4⟩
end
end Go.Proofs.YtpdnnikkaojnkaaGreat.Rt
