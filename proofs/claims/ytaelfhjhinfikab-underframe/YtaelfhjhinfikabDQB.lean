/-
  A script that came in, with a bound on its length; packets, numbers, flags.
-/
import Derived.Test.YtaelfhjhinfikabDQ
namespace Go.Proofs.Ytaelfhjhinfikab
open Go.ChangeShapes Go.WideShapes Go.ChangeAt Go.RowKit Me
set_option maxHeartbeats 1000000
set_option maxRecDepth 100000

theorem bytesOp : Try.prog.bytesOf 35 = 56 := by kernel_rfl
section
variable {H : Type} {enc : TypeId × Value → H} {W : World}
theorem open_osB {base : Nat} {v : Value} {d : DataW H} {ps : List MemPlace} (hval : Value.okWide Try.prog W .any base 22 v) (h : DataW.Trod enc Try.prog W 0 (fun _ => true) true 22 v d ps) (hw : ∀ x ∈ d.weights Try.prog 22, x ≤ reachBytes) :
    ∃ S : List Stp, SeesO (fun k => k < W.heap.size) W v S ∧ S.length ≤ 4398046511104 := by
  obtain ⟨S, hS⟩ := open_os hval h
  refine ⟨S, hS, ?_⟩
  obtain ⟨ao, n, cap, rfl, HN, -, -⟩ := hS.shape
  rw [← HN.out]
  obtain ⟨fuel, hf⟩ := h
  rcases Go.Deep.open_slice uOs hf with ⟨h1, _⟩ | ⟨a, len', cap', m, q, D, Pl, h1, _, hlc, hcm, hm, hxx, hx⟩
  · simp [Value.cells] at h1
    omega
  · simp [Value.cells] at h1
    obtain ⟨rfl, rfl, rfl⟩ := h1
    simp at hm
    subst hm
    simp only [Prod.mk.injEq] at hxx
    obtain ⟨rfl, _⟩ := hxx
    have := hw ((((List.range n).map D).length + ((List.range (m - n)).map fun j => D (n + j)).length) * Try.prog.bytesOf 35) (by simp [DataW.weights])
    rw [bytesOp] at this
    simp only [List.length_map, List.length_range] at this
    unfold reachBytes at this
    omega
theorem open_ss {base : Nat} {v : Value} {d : DataW H} {ps : List MemPlace} (hval : Value.okWide Try.prog W .any base 33 v) (h : DataW.Trod enc Try.prog W 0 (fun _ => true) true 33 v d ps) :
    ∃ L : List Pk, SeesS (fun k => k < W.heap.size) W v L := by
  obtain ⟨a0, len, cap, rfl⟩ := okWide_slice uS hval
  obtain ⟨fuel, hf⟩ := h
  obtain ⟨v, L, e, hs⟩ := open_sents hf
  simp [Value.cells] at e
  subst e
  exact ⟨L, hs⟩
theorem open_sn {base : Nat} {v : Value} {d : DataW H} {ps : List MemPlace} (hval : Value.okWide Try.prog W .any base 41 v) (h : DataW.Trod enc Try.prog W 0 (fun _ => true) true 41 v d ps) :
    ∃ (ad : Nat) (u : Value) (L : List Nat), v = .agg #[.int .u32 (ad : Int), u] ∧ ad < 4294967296 ∧ SeesB (fun k => k < W.heap.size) W u L := by
  obtain ⟨cs, rfl, _⟩ := okWide_struct Try.underlying41 hval
  obtain ⟨fuel, hf⟩ := h
  obtain ⟨ad, u, L, e, had, hs⟩ := open_sent hf
  refine ⟨ad, u, L, ?_, had, hs⟩
  congr 1
  exact Array.toList_inj.1 (by simpa [Value.cells] using e)
theorem open_by {base : Nat} {v : Value} {d : DataW H} {ps : List MemPlace} (hval : Value.okWide Try.prog W .any base 5 v) (h : DataW.Trod enc Try.prog W 0 (fun _ => true) true 5 v d ps) :
    ∃ n : Nat, v = .int .u8 (n : Int) ∧ n < 256 := by
  obtain ⟨n, rfl⟩ := okWide_int u5 hval
  obtain ⟨fuel, hf⟩ := h
  obtain ⟨n', e, _, hw⟩ := DataW.trod_int u5 hf
  simp [Value.cells] at e
  subst e
  obtain ⟨y, rfl, hy⟩ := wf_u8 hw
  exact ⟨y, rfl, hy⟩
end
end Go.Proofs.Ytaelfhjhinfikab
