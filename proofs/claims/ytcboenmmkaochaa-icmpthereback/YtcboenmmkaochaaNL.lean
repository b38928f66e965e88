import Derived.Test.YtcboenmmkaochaaNF
namespace Go.Proofs.Ytcboenmmkaochaa.N
open Go.ChangeShapes Go.WideShapes Go.ChangeAt Go.RowKit
set_option maxHeartbeats 400000
set_option maxRecDepth 100000

/-- A cut 'x[:m]': its address is kept a letter. -/
theorem SeesB.high {w : World} {ao : Option Addr} {n cap : Nat} {L : List Nat} (h : SeesB w (.slice ao n cap) L) (m : Nat) (i : Int) (hi : i = m) (hm : m ≤ n) :
    ∃ ao', Hid (SeesB w (.slice ao' m cap) (L.take m)) ∧ ∀ u : World, (Instr.sliceAt 23 (.slice ao n cap) none (some (.int .i64 i)) none).run Try.prog u = .ok (.slice ao' m cap) u := by
  subst hi
  have h0 := h
  obtain ⟨ao1, cap1, hv, h1, h2, h3⟩ := h
  simp at hv
  obtain ⟨rfl, hlen, rfl⟩ := hv
  refine ⟨ao, ?_, fun u => ?_⟩
  · refine ⟨ao, cap, by rw [List.length_take]; congr 1; omega, ⟨by rw [List.length_take]; omega, h1.2⟩, h2, fun j hj => ?_⟩
    rw [List.length_take] at hj
    obtain ⟨g, off, ha, hg, hc, hb⟩ := h3 j (by omega)
    exact ⟨g, off, ha, hg, by rw [List.getElem_take]; exact hc, by rw [List.getElem_take]; exact hb⟩
  · have hu : Try.prog.underlying 23 = some (.slice (Try.prog.elem 23)) := by kernel_rfl
    have hsz : (sizeOf (Try.prog.elem 23)).run Try.prog u = .ok 1 u := by kernel_rfl
    rw [run_sliceAt_slice (h := hu), run_slice_h (ht := hu) (h0 := by omega) (h2 := by omega), hsz]
    simp [Result.andThen, sliced]
    intro _
    cases ao <;> simp [Addr.add]

theorem okO_zero {t : List Nat} : M.okO (0 :: t) = (0 :: t).all (· == 0) := by
  cases h : (0 :: t).all (· == 0) with
  | true => rw [M.okO_some (by simp) (M.nxt_zero_ok h), List.drop_length, M.okO_nil]
  | false => exact M.okO_none (by simp) (M.nxt_zero_no h)

theorem okO_step {r : List Nat} (hr : r ≠ []) (h0 : r.head? ≠ some 0) : M.okO r = if M.opt r = 0 then false else M.okO (r.drop (M.opt r)) := by
  by_cases h : M.opt r = 0
  · rw [if_pos h]; exact M.okO_none hr (by unfold M.nxt; rw [if_neg h0, if_pos h])
  · rw [if_neg h]; exact M.okO_some hr (by unfold M.nxt; rw [if_neg h0, if_neg h])

end Go.Proofs.Ytcboenmmkaochaa.N
