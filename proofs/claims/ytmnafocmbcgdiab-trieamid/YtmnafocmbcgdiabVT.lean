/-
  Lists of prefixes; prefix of the law.
-/
import Derived.Test.YtmnafocmbcgdiabVS
import Derived.Laws.AppendOwn
namespace Go.Proofs.Ytmnafocmbcgdiab
open Go.ChangeShapes Go.WideShapes Go.ChangeAt Go.RowKit Tri N
set_option maxHeartbeats 1000000
set_option maxRecDepth 100000

structure In64 (a : Int) : Prop where
  lo : -9223372036854775808 ≤ a
  hi : a ≤ 9223372036854775807

/-- The slice value v shows, in the world w, the prefixes L (address, length). -/
def Sees (w : World) (v : Value) (L : List (Nat × Int)) : Prop :=
  ∃ ao cap, v = .slice ao L.length cap ∧ L.length ≤ cap ∧ cap ≤ maxLen ∧
    ∀ j (h : j < L.length), ∃ g off, ao = some ⟨g, off, none⟩ ∧ g < w.heap.size ∧ w.cell? ⟨g, off + j * 2, none⟩ = some (.int .u32 (L[j].1 : Int)) ∧ w.cell? ⟨g, off + j * 2 + 1, none⟩ = some (.int .i64 L[j].2)

theorem Sees.shape {w : World} {v : Value} {L : List (Nat × Int)} (h : Sees w v L) : ∃ ao n cap, v = .slice ao n cap ∧ Hid (n = L.length) ∧ n ≤ cap ∧ cap ≤ maxLen := by
  obtain ⟨ao, cap, hv, h1, h2, _⟩ := h
  exact ⟨ao, L.length, cap, hv, rfl, h1, h2⟩

theorem Sees.at {w : World} {ao : Option Addr} {n cap : Nat} {L : List (Nat × Int)} (h : Sees w (.slice ao n cap) L) (j : Nat) (hj : j < n) : ∃ g off p, ao = some ⟨g, off, none⟩ ∧ g < w.heap.size ∧ w.cell? ⟨g, off + j * 2, none⟩ = some (.int .u32 (p.1 : Int)) ∧ w.cell? ⟨g, off + j * 2 + 1, none⟩ = some (.int .i64 p.2) ∧ Hid (L[j]? = some p) := by
  obtain ⟨ao', cap', hv, h1, h2, h3⟩ := h
  simp at hv
  obtain ⟨rfl, rfl, rfl⟩ := hv
  obtain ⟨g, off, a, b, c, d⟩ := h3 j hj
  exact ⟨g, off, L[j], a, b, c, d, List.getElem?_eq_getElem hj⟩

theorem Sees.below {w w' : World} {v : Value} {L : List (Nat × Int)} (h : Sees w v L) (hb : Below w.heap.size w w') : Sees w' v L := by
  obtain ⟨ao, cap, hv, h1, h2, h3⟩ := h
  refine ⟨ao, cap, hv, h1, h2, fun j hj => ?_⟩
  obtain ⟨g, off, ha, hg, c0, c1⟩ := h3 j hj
  exact ⟨g, off, ha, Nat.lt_of_lt_of_le hg hb.size, (hb.cell (p := ⟨g, _, none⟩) hg).trans c0, (hb.cell (p := ⟨g, _, none⟩) hg).trans c1⟩

def kp (k : K) : Nat × Int := (k.x, (k.n : Int))
def kc (k : K) : List Value := [.int .u32 (k.x : Int), .int .i64 (k.n : Int)]
def kcs (L : List K) : List Value := L.flatMap kc

theorem kcs_len (L : List K) : (kcs L).length = L.length * 2 := by
  induction L with
  | nil => rfl
  | cons p L ih => simp only [kcs, List.flatMap_cons, List.length_append, List.length_cons] at ih ⊢; rw [ih]; simp [kc]; omega

theorem kcs_snoc (L : List K) (k : K) : kcs L ++ [.int .u32 (k.x : Int), .int .i64 (k.n : Int)] = kcs (L ++ [k]) := by
  simp [kcs, kc]

theorem kcs_at (L : List K) (j : Nat) (h : j < L.length) : (kcs L)[j * 2]? = some (.int .u32 (L[j].x : Int)) ∧ (kcs L)[j * 2 + 1]? = some (.int .i64 (L[j].n : Int)) := by
  induction L generalizing j with
  | nil => cases h
  | cons p L ih =>
    cases j with
    | zero => simp [kcs, kc]
    | succ j =>
      have h' : j < L.length := by simpa using h
      have := ih j h'
      have e : kcs (p :: L) = .int .u32 (p.x : Int) :: .int .i64 (p.n : Int) :: kcs L := rfl
      rw [e, show (j + 1) * 2 = j * 2 + 1 + 1 from by omega, show j * 2 + 1 + 1 + 1 = (j * 2 + 1) + 1 + 1 from rfl]
      simp only [List.getElem?_cons_succ, List.getElem_cons_succ]
      exact this

theorem sees_of_owns {w : World} {base : Nat} {v : Value} {L : List K} (h : w.ownsRow base 31 2 v L.length (kcs L)) : Sees w v (L.map kp) := by
  rcases h.2 with ⟨rfl, hn⟩ | ⟨g, cap, cur, rfl, hb, hg, hnc, hcm, hcs, htake⟩
  · have : L = [] := List.eq_nil_of_length_eq_zero hn
    subst this
    exact ⟨none, 0, rfl, by simp, by unfold maxLen; omega, fun j h => absurd h (by simp)⟩
  · refine ⟨some ⟨g, 0, none⟩, cap, by simp, by simpa using hnc, hcm, fun j hj => ⟨g, 0, rfl, (Array.getElem?_eq_some_iff.1 hg).1, ?_, ?_⟩⟩
    · have hj' : j < L.length := by simpa using hj
      rw [Nat.zero_add, h.cellAt (j * 2) (by omega), (kcs_at L j hj').1]
      simp [kp]
    · have hj' : j < L.length := by simpa using hj
      rw [Nat.zero_add, h.cellAt (j * 2 + 1) (by omega), (kcs_at L j hj').2]
      simp [kp]

theorem below_grown {w w' : World} (h : Below w.heap.size w w') (row : Option Nat) : w.grownBy w' row := ⟨h.os, h.tape, h.output, h.size, fun k hk _ => h.block k hk⟩
theorem owns_below {w w' : World} {base : Nat} {e : TypeId} {size : Nat} {v : Value} {n : Nat} {xs : List Value} (h : w.ownsRow base e size v n xs) (hb : Below w.heap.size w w') : w'.ownsRow base e size v n xs :=
  h.kept (below_grown hb none) (by cases hv : v.ownBlock <;> simp)

theorem infoP : (Try.prog.info? 31).map (fun i => (i.zero, i.size, i.bytes)) = some (some (.agg #[.int .u32 0, .int .i64 0]), 2, 16) := by kernel_rfl

theorem two_at {W : World} {n : Nat} (hn : W.heap.size = n) (a b : Value) (T : TypeId) : ∀ (j : Nat) (u : Value), [a, b][j]? = some u → (W.alloc (.cells #[a, b] T)).cell? ((⟨n, 0, none⟩ : Addr).add j) = some u := by
  subst hn
  intro j u hj
  match j, hj with
  | 0, hj => simp at hj; subst hj; simp [Addr.add]
  | 1, hj => simp at hj; subst hj; simp [Addr.add]

/-- The law's valid prefix out of any numbers. -/
def preN (y : Int) : Nat := ((if y < 0 then -1 - y else y) % 33).toNat
def preK (x : Nat) (y : Int) : K := ⟨x / 2 ^ (32 - preN y) * 2 ^ (32 - preN y), preN y⟩

theorem preN_le (y : Int) : preN y ≤ 32 := by unfold preN; split <;> omega

theorem preK_ok (x : Nat) (y : Int) (hx : x < 4294967296) : (preK x y).Ok := by
  refine ⟨preN_le y, ⟨x / 2 ^ (32 - preN y), Nat.mul_comm _ _⟩, ?_⟩
  have := Nat.div_mul_le_self x (2 ^ (32 - preN y))
  show x / 2 ^ (32 - preN y) * 2 ^ (32 - preN y) < _
  omega

theorem prefix_any (x : Nat) (y : Int) (w : World) (hx : x < 4294967296) (hy : In64 y) :
    Calls Try.prog 20 #[.int .u32 (x : Int), .int .i64 y] w fun e w' => e = .returned (pv (preK x y)) ∧ Below w.heap.size w w' := by
  obtain ⟨y1, y2⟩ := hy
  obtain ⟨wa, hwa⟩ : ∃ wa, wa = w.alloc (.cells #[.int .u32 0, .int .i64 0] 31) := ⟨_, rfl⟩
  have hb0 : Below w.heap.size w wa := by rw [hwa]; exact (Below.refl _ _).alloc (Nat.le_refl _) _
  have r1 : wa.heap[w.heap.size]? = some (.cells #[.int .u32 0, .int .i64 0] 31) := by rw [hwa]; exact heap_alloc_new w _
  have c0 : wa.cell? ⟨w.heap.size, 0, none⟩ = some (.int .u32 0) := by rw [cell_of_row _ _ _ _ _ _ r1]; rfl
  have c1 : wa.cell? ⟨w.heap.size, 1, none⟩ = some (.int .i64 0) := by rw [cell_of_row _ _ _ _ _ _ r1]; rfl
  have f0 : wa.frozen? ⟨w.heap.size, 0, none⟩ = false := frozen_of_row _ _ _ _ _ r1
  have f1 : wa.frozen? ⟨w.heap.size, 1, none⟩ = false := frozen_of_row _ _ _ _ _ r1
  have HWA := hid hwa
  have hnl := preN_le y
  obtain ⟨z, hz⟩ : ∃ z : Int, z = if y < 0 then -1 - y else y := ⟨_, rfl⟩
  have hz0 : 0 ≤ z := by rw [hz]; split <;> omega
  have hz1 : z ≤ 9223372036854775807 := by rw [hz]; split <;> omega
  have HPN : Hid (z % 33 = (preN y : Int)) := by unfold Hid preN; rw [← hz]; omega
  have HPK : Hid (preK x y = ⟨x / 2 ^ (32 - preN y) * 2 ^ (32 - preN y), preN y⟩) := rfl
  have hpl := pow_le32 (preN y)
  have hxl : x / 2 ^ (32 - preN y) * 2 ^ (32 - preN y) < 4294967296 := by have := Nat.div_mul_le_self x (2 ^ (32 - preN y)); omega
  have HF : Hid (∀ X N : Int, X = ((preK x y).x : Int) → N = ((preK x y).n : Int) → ∃ W : World, W = ((wa.setCell ⟨w.heap.size, 0, none⟩ (.int .u32 X)).setCell ⟨w.heap.size, 1, none⟩ (.int .i64 N)) ∧ Below w.heap.size w W ∧ W.cell? ⟨w.heap.size, 0, none⟩ = some (.int .u32 X) ∧ W.cell? ⟨w.heap.size, 1, none⟩ = some (.int .i64 N)) := fun X N _ _ => by
    have r4 := set_two' (a := .int .u32 X) (c := .int .i64 N) r1
    refine ⟨_, rfl, (hb0.setCell (p := ⟨w.heap.size, 0, none⟩) (Nat.le_refl _) _).setCell (p := ⟨w.heap.size, 1, none⟩) (Nat.le_refl _) _, ?_, ?_⟩
    · rw [cell_of_row _ _ _ _ _ _ r4]; rfl
    · rw [cell_of_row _ _ _ _ _ _ r4]; rfl
  have HZ := hid hz
  unfold pv
  generalize preN y = pn at *
  clear hwa r1 hb0 hz
  go_enter Try.func20, Try.ntmps20
  go_upto_region 1 with fail
  rw [← HWA.out]
  by_cases hneg : y < 0
  · have HZ2 : Hid (-1 - y = z) := by unfold Hid; rw [HZ.out, if_pos hneg]
    go_upto_region 3 with fail
    rw [HZ2.out]
    go_upto_region 4 with fail
    rw [HPN.out]
    clear hz0 hz1 y1 y2 hneg
    by_cases hp0 : pn = 0
    · have hp0' : (pn : Int) = 0 := by omega
      have q0 : ((pn : Int) == 0) = true := by simp [hp0]
      have hk0 : (preK x y).x = 0 ∧ (preK x y).n = 0 := by
        rw [HPK.out, hp0]
        exact ⟨by show x / 2 ^ 32 * 2 ^ 32 = 0; rw [Nat.div_eq_of_lt (by omega), Nat.zero_mul], rfl⟩
      obtain ⟨W, hW, hbW, g0, g1⟩ := HF.out 0 0 (by rw [hk0.1]; rfl) (by rw [hk0.2]; rfl)
      have HWW := hid hW
      have HK0 := hid hk0
      have HBW := hid hbW
      clear hW hk0 hbW hp0' hp0
      go_wp2_with fail
      rw [← HWW.out]
      refine bodyPost_ret (v := .agg #[.int .u32 0, .int .i64 0]) (by simp [results, Try.results20, go_sem, g0, g1]) rfl ⟨by rw [HK0.out.1, HK0.out.2]; rfl, HBW.out⟩
    · have q0 : ((pn : Int) == 0) = false := by simp; omega
      have hn32 : ¬ ((32 : Int) - (pn : Int) < 0) := by omega
      obtain ⟨W, hW, hbW, g0, g1⟩ := HF.out ((x / 2 ^ (32 - pn) * 2 ^ (32 - pn) : Nat) : Int) (pn : Int) (by rw [HPK.out]) (by rw [HPK.out])
      have HWW := hid hW
      have HBW := hid hbW
      clear hW hbW hp0
      have HEQ : Hid ((x : Int) / 2 ^ (32 - pn) * 2 ^ (32 - pn) % 4294967296 = ((x / 2 ^ (32 - pn) * 2 ^ (32 - pn) : Nat) : Int)) := by
        have e : (x : Int) / 2 ^ (32 - pn) * 2 ^ (32 - pn) = ((x / 2 ^ (32 - pn) * 2 ^ (32 - pn) : Nat) : Int) := by simp
        unfold Hid
        rw [e]
        exact Int.emod_eq_of_lt (by omega) (by omega)
      have HKE : Hid ((preK x y).x = x / 2 ^ (32 - pn) * 2 ^ (32 - pn) ∧ (preK x y).n = pn) := by unfold Hid; rw [HPK.out]; exact ⟨rfl, rfl⟩
      clear hpl hxl
      go_wp2_with fail
      rw [HEQ.out, ← HWW.out]
      refine bodyPost_ret (v := .agg #[.int .u32 ((x / 2 ^ (32 - pn) * 2 ^ (32 - pn) : Nat) : Int), .int .i64 (pn : Int)]) (by simp [results, Try.results20, go_sem, g0, g1]) rfl ⟨by rw [HKE.out.1, HKE.out.2], HBW.out⟩
  · have HZ2 : Hid (y = z) := by unfold Hid; rw [HZ.out, if_neg hneg]
    go_upto_region 3 with fail
    rw [HZ2.out]
    go_upto_region 4 with fail
    rw [HPN.out]
    clear hz0 hz1 y1 y2 hneg
    by_cases hp0 : pn = 0
    · have hp0' : (pn : Int) = 0 := by omega
      have q0 : ((pn : Int) == 0) = true := by simp [hp0]
      have hk0 : (preK x y).x = 0 ∧ (preK x y).n = 0 := by
        rw [HPK.out, hp0]
        exact ⟨by show x / 2 ^ 32 * 2 ^ 32 = 0; rw [Nat.div_eq_of_lt (by omega), Nat.zero_mul], rfl⟩
      obtain ⟨W, hW, hbW, g0, g1⟩ := HF.out 0 0 (by rw [hk0.1]; rfl) (by rw [hk0.2]; rfl)
      have HWW := hid hW
      have HK0 := hid hk0
      have HBW := hid hbW
      clear hW hk0 hbW hp0' hp0
      go_wp2_with fail
      rw [← HWW.out]
      refine bodyPost_ret (v := .agg #[.int .u32 0, .int .i64 0]) (by simp [results, Try.results20, go_sem, g0, g1]) rfl ⟨by rw [HK0.out.1, HK0.out.2]; rfl, HBW.out⟩
    · have q0 : ((pn : Int) == 0) = false := by simp; omega
      have hn32 : ¬ ((32 : Int) - (pn : Int) < 0) := by omega
      obtain ⟨W, hW, hbW, g0, g1⟩ := HF.out ((x / 2 ^ (32 - pn) * 2 ^ (32 - pn) : Nat) : Int) (pn : Int) (by rw [HPK.out]) (by rw [HPK.out])
      have HWW := hid hW
      have HBW := hid hbW
      clear hW hbW hp0
      have HEQ : Hid ((x : Int) / 2 ^ (32 - pn) * 2 ^ (32 - pn) % 4294967296 = ((x / 2 ^ (32 - pn) * 2 ^ (32 - pn) : Nat) : Int)) := by
        have e : (x : Int) / 2 ^ (32 - pn) * 2 ^ (32 - pn) = ((x / 2 ^ (32 - pn) * 2 ^ (32 - pn) : Nat) : Int) := by simp
        unfold Hid
        rw [e]
        exact Int.emod_eq_of_lt (by omega) (by omega)
      have HKE : Hid ((preK x y).x = x / 2 ^ (32 - pn) * 2 ^ (32 - pn) ∧ (preK x y).n = pn) := by unfold Hid; rw [HPK.out]; exact ⟨rfl, rfl⟩
      clear hpl hxl
      go_wp2_with fail
      rw [HEQ.out, ← HWW.out]
      refine bodyPost_ret (v := .agg #[.int .u32 ((x / 2 ^ (32 - pn) * 2 ^ (32 - pn) : Nat) : Int), .int .i64 (pn : Int)]) (by simp [results, Try.results20, go_sem, g0, g1]) rfl ⟨by rw [HKE.out.1, HKE.out.2], HBW.out⟩
end Go.Proofs.Ytmnafocmbcgdiab
