import Derived.Test.YtcelcnafcfefhaaNG
namespace Go.Proofs.Ytcelcnafcfefhaa.N
open Go.ChangeShapes Go.WideShapes Go.ChangeAt Go.RowKit
set_option maxHeartbeats 400000
set_option maxRecDepth 100000

def lenOfPk (h : Hd) (B : List Nat) : Nat := 20 + h.opts.length + B.length

def builtL (h : Hd) (B : List Nat) : List Nat := if refE h B.length = 0 then hdBytes h (lenOfPk h B) (M.csum (hdBytes h (lenOfPk h B) 0)) ++ B else []

theorem refE_ok {h : Hd} {nb : Nat} (e : refE h nb = 0) : M.area h.opts = true ∧ M.pieceOk h.off nb h.mf = true ∧ 20 + h.opts.length + nb ≤ 65535 := by
  unfold refE at e
  split at e
  · rename_i h1
    split at e
    · rename_i h2
      split at e
      · rename_i h3; exact ⟨h1, h2, h3⟩
      · cases e
    · cases e
  · cases e

theorem area_len {o : List Nat} (h : M.area o = true) : o.length ≤ 40 ∧ o.length % 4 = 0 := by
  unfold M.area at h; simp at h; exact h.1

theorem piece_off {off : Int} {n : Nat} {m : Bool} (h : M.pieceOk off n m = true) : ∃ f : Nat, off = (f : Int) ∧ f ≤ 65528 ∧ f % 8 = 0 := by
  unfold M.pieceOk at h; simp at h
  exact ⟨off.toNat, by omega, by omega, by omega⟩

theorem hdBytes_ok {h : Hd} (hok : h.Ok) (ho : ∀ x ∈ h.opts, x < 256) (hl : h.opts.length ≤ 40) {f : Nat} (hf : h.off = (f : Int)) (hf1 : f ≤ 65528) {len sum : Nat} (h1 : len < 65536) (h2 : sum < 65536) : ∀ x ∈ hdBytes h len sum, x < 256 := by
  obtain ⟨k1, k2, k3, k4, k5, k6, k7⟩ := hok
  have hW : flagW h.df h.mf h.off.toNat < 65536 := by rw [hf, Int.toNat_natCast]; unfold flagW; split <;> split <;> omega
  generalize hw : flagW h.df h.mf h.off.toNat = W at *
  intro x hx
  unfold hdBytes at hx
  rw [hw, List.mem_append] at hx
  rcases hx with hx | hx
  · simp only [List.mem_cons, List.not_mem_nil, or_false] at hx
    rcases hx with rfl | rfl | rfl | rfl | rfl | rfl | rfl | rfl | rfl | rfl | rfl | rfl | rfl | rfl | rfl | rfl | rfl | rfl | rfl | rfl <;> omega
  · exact ho x hx

theorem hdBytes_len (h : Hd) (len sum : Nat) : (hdBytes h len sum).length = 20 + h.opts.length := by
  unfold hdBytes; rw [List.length_append]; rfl

theorem seesBB_one {w : World} {n : Nat} (hn : w.heap.size = n) (v : Value) (L : List Nat) (hv : SeesB w v L) (t : TypeId) : SeesBB (w.alloc (.cells #[v] t)) (.slice (some ⟨n, 0, none⟩) 1 1) [L] := by
  subst hn
  refine ⟨some ⟨w.heap.size, 0, none⟩, 1, rfl, by simp, by unfold maxLen; omega, fun j hj => ⟨w.heap.size, 0, v, rfl, by simp, ?_, ?_⟩⟩
  · match j, hj with
    | 0, _ => simp
  · match j, hj with
    | 0, _ => exact hv.below ((Below.refl _ _).alloc (Nat.le_refl _) _)

theorem ret_two {a b : Value} {k : IntKind} {i j : Int} (h : i = j) (g : a = b) : Ending.returned (.tuple #[a, .int k i]) = .returned (.tuple #[b, .int k j]) := by rw [h, g]

end Go.Proofs.Ytcelcnafcfefhaa.N
