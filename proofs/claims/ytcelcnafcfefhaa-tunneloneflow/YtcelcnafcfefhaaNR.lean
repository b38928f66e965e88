import Derived.Test.YtcelcnafcfefhaaNQ
namespace Go.Proofs.Ytcelcnafcfefhaa.N
open Go.ChangeShapes Go.WideShapes Go.ChangeAt Go.RowKit
set_option maxHeartbeats 400000
set_option maxRecDepth 100000

theorem read32_x (v : Value) (L : List Nat) (w : World) (hv : SeesB w v L) (hl : 4 ≤ L.length) :
    Calls Try.prog 82 #[v] w fun e w' => e = .returned (.int .u32 ((w32 L 0 : Nat) : Int)) ∧ ∃ m, w' = w.drewN m := by
  obtain ⟨ao, n, cap, rfl, HN, hn1, hn2⟩ := hv.shape
  have h4 : 4 ≤ n := by have := HN.out; omega
  obtain ⟨al, HSL, hlow⟩ := hv.low 2 2 rfl (by omega)
  have HA : Hid (∀ k, Calls Try.prog 53 #[.slice ao n cap] (w.drewN k) fun e w' => e = .returned (.int .u16 ((w16 L 0 : Nat) : Int)) ∧ ∃ m, w' = w.drewN m) := fun k =>
    Calls.quiet_of ((read16_x _ L _ (hv.below (below_drewN (Below.refl _ _) k)) (by omega)).mono fun _ _ ⟨he, hw⟩ => ⟨he, 1, hw⟩)
  have HB : Hid (∀ k, Calls Try.prog 53 #[.slice al (n - 2) (cap - 2)] (w.drewN k) fun e w' => e = .returned (.int .u16 ((w16 L 2 : Nat) : Int)) ∧ ∃ m, w' = w.drewN m) := fun k => by
    have := read16_x _ (L.drop 2) (w.drewN k) (HSL.out.below (below_drewN (Below.refl _ _) k)) (by rw [List.length_drop]; omega)
    rw [w16_drop] at this
    exact Calls.quiet_of (this.mono fun _ _ ⟨he, hw⟩ => ⟨he, 1, hw⟩)
  have hx := w16_lt hv.bytes 0
  have hy := w16_lt hv.bytes 2
  have HR : Hid (bits .or .u32 ((w16 L 0 * 65536 : Nat) : Int) (w16 L 2 : Int) = ((w32 L 0 : Nat) : Int)) := by unfold Hid; rw [or_u32 _ _ hx hy]; rfl
  have HC : Hid (∀ (v : Value) (x : Nat), ((v = .slice ao n cap ∧ x = w16 L 0) ∨ (v = .slice al (n - 2) (cap - 2) ∧ x = w16 L 2)) → ∀ k, Calls Try.prog 53 #[v] (w.drewN k) fun e w' => e = .returned (.int .u16 (x : Int)) ∧ ∃ m, w' = w.drewN m) := by
    rintro v x (⟨rfl, rfl⟩ | ⟨rfl, rfl⟩) k
    · exact HA.out k
    · exact HB.out k
  clear HA HB
  generalize w32 L 0 = r at *
  generalize w16 L 0 = p at *
  generalize w16 L 2 = q at *
  clear hv HSL
  generalize n - 2 = n2 at *
  generalize cap - 2 = cap2 at *
  go_enter Try.func82, Try.ntmps82
  go_wp2_with fail
  go_quiet ((first | (go_at_call 53; apply HC.out; first | exact .inl ⟨rfl, rfl⟩ | exact .inr ⟨rfl, rfl⟩) | fail))
  go_wp2_with fail
  go_ret
  exact ⟨ret_int (by rw [← HR.out]; simp), _, rfl⟩

end Go.Proofs.Ytcelcnafcfefhaa.N
