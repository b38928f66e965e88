/-
  trie.hang: mathematics of its sizes and sides; the case of no tree.
-/
import Derived.Test.YtmnafocmbcgdiabVH
namespace Go.Proofs.Ytmnafocmbcgdiab
open Go.ChangeShapes Go.WideShapes Go.ChangeAt Go.RowKit Tri N
set_option maxHeartbeats 400000
set_option maxRecDepth 100000

namespace Tri
theorem nodes_join (p : K) (v : Option Int) (l r : Tr) : nodes (join p v l r) ≤ nodes l + nodes r + 1 := by
  cases v <;> cases l <;> cases r <;> simp [join, nodes] <;> omega

theorem nodes_hang (t : Tr) (p : K) (v : Option Int) : nodes (hang t p v) ≤ nodes t + 2 := by
  induction t with
  | nil =>
    have := nodes_join p v .nil .nil
    simp [hang, nodes] at this ⊢
    omega
  | node k u l r il ir =>
    have nd : nodes (.node k u l r) = nodes l + nodes r + 1 := rfl
    have n0 : nodes .nil = 0 := rfl
    rw [hang]
    split
    · have := nodes_join p v l r
      omega
    · split
      · split
        · have := nodes_join k u (hang l p v) r
          omega
        · have := nodes_join k u l (hang r p v)
          omega
      · split
        · split
          · have := nodes_join p v (.node k u l r) .nil
            omega
          · have := nodes_join p v .nil (.node k u l r)
            omega
        · have h1 := nodes_join p v .nil .nil
          split
          · have := nodes_join (com p k) none (.node k u l r) (join p v .nil .nil)
            omega
          · have := nodes_join (com p k) none (join p v .nil .nil) (.node k u l r)
            omega

theorem vals_le (t : Tr) : vals t ≤ nodes t := by
  induction t with
  | nil => exact Nat.le_refl _
  | node k u l r il ir =>
    simp only [vals, nodes]
    split <;> omega

/-- Two that lie in a fork's two halves. -/
theorem fork_sides {p k : K} (hp : p.Ok) (hk : k.Ok) (h1 : com p k ≠ p) (h2 : com p k ≠ k) : (side k.x (com p k).n = 0 ∧ side p.x (com p k).n = 1) ∨ (side k.x (com p k).n = 1 ∧ side p.x (com p k).n = 0) := by
  obtain ⟨c1, c2, c3, c4⟩ := com_facts hp hk
  have c4 := c4 h1 h2
  have hl := (halves hp c1 c2 (Ne.symm h1)).1
  have h32 : (com p k).n < 32 := by have := hp.1; omega
  have hps := p.s_pos
  have hks := k.s_pos
  have s1 := side_of (a := p.x) c1 h32 c2.1 (by have := c2.2; omega)
  have s2 := side_of (a := k.x) c1 h32 c3.1 (by have := c3.2; omega)
  by_cases h : p.x < (com p k).x + (com p k).h
  · rw [if_pos h] at s1
    rw [if_neg (c4.1 h)] at s2
    exact .inr ⟨s2, s1⟩
  · rw [if_neg h] at s1
    have h3 : k.x < (com p k).x + (com p k).h := Classical.byContradiction fun h3 => h (c4.2 h3)
    rw [if_pos h3] at s2
    exact .inl ⟨s2, s1⟩
end Tri

theorem hang_nil {X : Nat → Prop} (p : K) (c : Nat) (v : Option Int) (w : World) (hX : ∀ b, X b → b < w.heap.size) (hc : BoxAt w X c v) :
    Calls Try.prog 22 #[.pointer none, pv p, vptr c v] w fun e w' => ∃ m : MT, e = .returned m.ptr ∧ m.tr = join p v .nil .nil ∧ Lies w' X m ∧ Below w.heap.size w w' := by
  obtain ⟨wa, hwa, hb0, hs0, r1, r2⟩ := two_boxes w (.int .u32 (p.x : Int)) (.int .i64 (p.n : Int)) (.pointer none) (.pointer none)
  have x0 : wa.cell? ⟨w.heap.size, 0, none⟩ = some (.int .u32 (p.x : Int)) := by rw [cell_of_row _ _ _ _ _ _ r1]; rfl
  have x1 : wa.cell? ⟨w.heap.size, 1, none⟩ = some (.int .i64 (p.n : Int)) := by rw [cell_of_row _ _ _ _ _ _ r1]; rfl
  have y0 : wa.cell? ⟨w.heap.size + 1, 0, none⟩ = some (.pointer none) := by rw [cell_of_row _ _ _ _ _ _ r2]; rfl
  have y1 : wa.cell? ⟨w.heap.size + 1, 1, none⟩ = some (.pointer none) := by rw [cell_of_row _ _ _ _ _ _ r2]; rfl
  have HJ := hid (join_any (X := X) p c v .nil .nil wa (fun b hb => by have := hX b hb; omega) (hc.below hb0) trivial trivial (by decide) (by decide))
  have HWA := hid hwa
  have HB := hid hb0
  clear hwa r1 r2 hs0 hb0 hc hX
  obtain ⟨vp, hvp⟩ := vptr_is c v
  rw [hvp] at HJ ⊢
  unfold pv at HJ ⊢
  go_enter Try.func22, Try.ntmps22
  go_upto_region 2 with fail
  rw [← HWA.out]
  go_wp2_with fail
  refine HJ.out.mono ?_
  rintro _ w' ⟨m, rfl, h1, h2, h3⟩
  have HF : Hid (m.tr = join p v .nil .nil ∧ Lies w' X m ∧ Below w.heap.size w w') := ⟨h1, h2, HB.out.trans (h3.mono HB.out.size)⟩
  obtain ⟨mp, hmp⟩ := ptr_is m
  rw [hmp]
  have HMP := hid hmp
  clear h1 h2 h3 hmp
  go_wp2_with fail
  go_ret
  exact ⟨m, by rw [HMP.out]; rfl, HF.out⟩
end Go.Proofs.Ytmnafocmbcgdiab
