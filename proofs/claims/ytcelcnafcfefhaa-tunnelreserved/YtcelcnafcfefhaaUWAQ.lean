/-
  The sealed bytes in their block.
-/
import Derived.Test.YtcelcnafcfefhaaEZ
import Derived.Test.YtcelcnafcfefhaaUFNQ
namespace Go.Proofs.Ytcelcnafcfefhaa.N
open Go.ChangeShapes Go.WideShapes Go.ChangeAt Go.RowKit
set_option maxHeartbeats 8000000
set_option maxRecDepth 100000

theorem builtU_byt {src dst : Nat} {x : Tn.Dg} {sum : Bool} (hb : ∀ y ∈ x.B, y < 256) : ∀ y ∈ Tn.builtU src dst x sum, y < 256 := fun y hy => by
  have hS : (if sum then Tn.usum src dst x else 0) < 65536 := by
    split
    · exact (Tn.usum_lt src dst x).1
    · omega
  unfold Tn.builtU at hy
  generalize (if sum then Tn.usum src dst x else 0) = S at *
  simp only [Tn.udp, List.mem_cons] at hy
  rcases hy with rfl | rfl | rfl | rfl | rfl | rfl | rfl | rfl | hy
  · omega
  · omega
  · omega
  · omega
  · omega
  · omega
  · omega
  · omega
  · exact hb y hy

theorem or8 : ∀ x : Fin 256, bits .or .u8 (x.val : Int) 8 = (((x.val ||| 8 : Nat)) : Int) ∧ (x.val ||| 8) / 8 % 2 = 1 ∧ x.val ||| 8 < 256 := by decide +kernel
theorem not8 : ∀ x : Fin 256, bits .andNot .u8 (x.val : Int) 8 = (((x.val - 8 * (x.val / 8 % 2) : Nat)) : Int) ∧ (x.val - 8 * (x.val / 8 % 2)) / 8 % 2 = 0 ∧ x.val - 8 * (x.val / 8 % 2) < 256 := by decide +kernel

theorem sx_bytes {o : Ou} {f : Tn.Fr} {X : List Nat} (ho : o.Ok) (hf : FrB f) (hB : ∀ x ∈ f.B, x < 256) (hX : ∀ x ∈ X, x < 256) : ∀ x ∈ sxL o f X, x < 256 := by
  refine built_bytes (ohd_ok ho) (fun x hx => by cases hx) (builtU_byt (fun y hy => ?_))
  rcases List.mem_append.1 hy with h | h
  · exact hX y h
  · exact frL_bytes hf hB y h

theorem byt_ne {L : List Nat} {i j : Nat} (y : Nat) (h : i ≠ j) : byt (L.set i y) j = byt L j := by
  unfold byt
  rw [List.getD_eq_getElem?_getD, List.getElem?_set_ne h, ← List.getD_eq_getElem?_getD]
theorem byt_eq {L : List Nat} {i : Nat} (y : Nat) (h : i < L.length) : byt (L.set i y) i = y := by
  unfold byt
  rw [List.getD_eq_getElem?_getD, List.getElem?_set_self h]
  rfl

/-- What is held: the sealed bytes in their block, all else below. -/
structure Rs (w2 : World) (g : Nat) (o : Ou) (f : Tn.Fr) (X : List Nat) (u : World) : Prop where
  blk : Blk u g (sxL o f X)
  be : Below w2.heap.size w2 u
  g2 : w2.heap.size ≤ g
theorem Rs.put {w2 u : World} {g : Nat} {o : Ou} {f : Tn.Fr} {X : List Nat} (h : Rs w2 g o f X u) (hX : X.length = 8) (hf : f.Ok) (hb : f.B.length ≤ 65485) (i y : Nat) (hi : i < 8) : Rs w2 g o f (X.set i y) (u.setCell ⟨g, 28 + i, none⟩ (.int .u8 (y : Int))) :=
  ⟨by rw [← sxL_set hX hf hb i y hi]; exact h.blk.set (28 + i) y, h.be.setCell (p := ⟨g, 28 + i, none⟩) h.g2 _, h.g2⟩
theorem Rs.drew {w2 u : World} {g : Nat} {o : Ou} {f : Tn.Fr} {X : List Nat} (h : Rs w2 g o f X u) : Rs w2 g o f X u.drew :=
  ⟨h.blk.below (below_drew (Below.refl _ _)), below_drew h.be, h.g2⟩
theorem Rs.below {w2 u u' : World} {g : Nat} {o : Ou} {f : Tn.Fr} {X : List Nat} (h : Rs w2 g o f X u) (hb : Below u.heap.size u u') : Rs w2 g o f X u' :=
  ⟨h.blk.below hb, h.be.trans (hb.mono h.be.size), h.g2⟩
theorem Rs.cell {w2 u : World} {g : Nat} {o : Ou} {f : Tn.Fr} {X : List Nat} (h : Rs w2 g o f X u) (ho : o.Ok) (hX : X.length = 8) (hf : f.Ok) (hb : f.B.length ≤ 65485) (i : Nat) (hi : i < 8) : u.cell? ⟨g, 28 + i, none⟩ = some (.int .u8 ((byt (sxL o f X) (28 + i) : Nat) : Int)) ∧ u.frozen? ⟨g, 28 + i, none⟩ = false ∧ g < u.heap.size :=
  ⟨h.blk.cell (28 + i) (by rw [sxL_len ho hX hf hb]; omega), h.blk.free _, h.blk.lt⟩

end Go.Proofs.Ytcelcnafcfefhaa.N
