/-
  Lists of prefixes; prefix of the law.
-/
import Derived.Test.YtmnafocmbcgdiacVS
import Derived.Laws.AppendOwn
namespace Go.Proofs.Ytmnafocmbcgdiac
open Go.ChangeShapes Go.WideShapes Go.ChangeAt Go.RowKit Tri N
set_option maxHeartbeats 1000000
set_option maxRecDepth 100000

structure In64 (a : Int) : Prop where
  lo : -9223372036854775808 ≤ a
  hi : a ≤ 9223372036854775807

/-- The slice value v shows, in the world w, the prefixes L (address, length). -/
def Sees (w : World) (v : Value) (L : List (Nat × Int)) : Prop :=
  ∃ ao cap, v = .slice ao L.length cap ∧ L.length ≤ cap ∧ cap ≤ maxLen ∧
    ∀ j (h : j < L.length), ∃ g off, ao = some ⟨g, off, none⟩ ∧ g < w.heap.size ∧ w.cell? ⟨g, off + j * 2, none⟩ = some (.int .u32 (L[j].1 : Int)) ∧ w.cell? ⟨g, off + j * 2 + 1, none⟩ = some (.int .i64 L[j].2)

theorem Sees.shape {w : World} {v : Value} {L : List (Nat × Int)} (h : Sees w v L) : ∃ ao n cap, v = .slice ao n cap ∧ Hid (n = L.length) ∧ n ≤ cap ∧ cap ≤ maxLen := by
  obtain ⟨ao, cap, hv, h1, h2, _⟩ := h
  exact ⟨ao, L.length, cap, hv, rfl, h1, h2⟩

theorem Sees.at {w : World} {ao : Option Addr} {n cap : Nat} {L : List (Nat × Int)} (h : Sees w (.slice ao n cap) L) (j : Nat) (hj : j < n) : ∃ g off p, ao = some ⟨g, off, none⟩ ∧ g < w.heap.size ∧ w.cell? ⟨g, off + j * 2, none⟩ = some (.int .u32 (p.1 : Int)) ∧ w.cell? ⟨g, off + j * 2 + 1, none⟩ = some (.int .i64 p.2) ∧ Hid (L[j]? = some p) := by
  obtain ⟨ao', cap', hv, h1, h2, h3⟩ := h
  simp at hv
  obtain ⟨rfl, rfl, rfl⟩ := hv
  obtain ⟨g, off, a, b, c, d⟩ := h3 j hj
  exact ⟨g, off, L[j], a, b, c, d, List.getElem?_eq_getElem hj⟩

theorem Sees.below {w w' : World} {v : Value} {L : List (Nat × Int)} (h : Sees w v L) (hb : Below w.heap.size w w') : Sees w' v L := by
  obtain ⟨ao, cap, hv, h1, h2, h3⟩ := h
  refine ⟨ao, cap, hv, h1, h2, fun j hj => ?_⟩
  obtain ⟨g, off, ha, hg, c0, c1⟩ := h3 j hj
  exact ⟨g, off, ha, Nat.lt_of_lt_of_le hg hb.size, (hb.cell (p := ⟨g, _, none⟩) hg).trans c0, (hb.cell (p := ⟨g, _, none⟩) hg).trans c1⟩

def kp (k : K) : Nat × Int := (k.x, (k.n : Int))
def kc (k : K) : List Value := [.int .u32 (k.x : Int), .int .i64 (k.n : Int)]
def kcs (L : List K) : List Value := L.flatMap kc

theorem kcs_len (L : List K) : (kcs L).length = L.length * 2 := by
  induction L with
  | nil => rfl
  | cons p L ih => simp only [kcs, List.flatMap_cons, List.length_append, List.length_cons] at ih ⊢; rw [ih]; simp [kc]; omega

theorem kcs_snoc (L : List K) (k : K) : kcs L ++ [.int .u32 (k.x : Int), .int .i64 (k.n : Int)] = kcs (L ++ [k]) := by
  simp [kcs, kc]

theorem kcs_at (L : List K) (j : Nat) (h : j < L.length) : (kcs L)[j * 2]? = some (.int .u32 (L[j].x : Int)) ∧ (kcs L)[j * 2 + 1]? = some (.int .i64 (L[j].n : Int)) := by
  induction L generalizing j with
  | nil => cases h
  | cons p L ih =>
    cases j with
    | zero => simp [kcs, kc]
    | succ j =>
      have h' : j < L.length := by simpa using h
      have := ih j h'
      have e : kcs (p :: L) = .int .u32 (p.x : Int) :: .int .i64 (p.n : Int) :: kcs L := rfl
      rw [e, show (j + 1) * 2 = j * 2 + 1 + 1 from by omega, show j * 2 + 1 + 1 + 1 = (j * 2 + 1) + 1 + 1 from rfl]
      simp only [List.getElem?_cons_succ, List.getElem_cons_succ]
      exact this

theorem sees_of_owns {w : World} {base : Nat} {v : Value} {L : List K} (h : w.ownsRow base 37 2 v L.length (kcs L)) : Sees w v (L.map kp) := by
  rcases h.2 with ⟨rfl, hn⟩ | ⟨g, cap, cur, rfl, hb, hg, hnc, hcm, hcs, htake⟩
  · have : L = [] := List.eq_nil_of_length_eq_zero hn
    subst this
    exact ⟨none, 0, rfl, by simp, by unfold maxLen; omega, fun j h => absurd h (by simp)⟩
  · refine ⟨some ⟨g, 0, none⟩, cap, by simp, by simpa using hnc, hcm, fun j hj => ⟨g, 0, rfl, (Array.getElem?_eq_some_iff.1 hg).1, ?_, ?_⟩⟩
    · have hj' : j < L.length := by simpa using hj
      rw [Nat.zero_add, h.cellAt (j * 2) (by omega), (kcs_at L j hj').1]
      simp [kp]
    · have hj' : j < L.length := by simpa using hj
      rw [Nat.zero_add, h.cellAt (j * 2 + 1) (by omega), (kcs_at L j hj').2]
      simp [kp]

theorem below_grown {w w' : World} (h : Below w.heap.size w w') (row : Option Nat) : w.grownBy w' row := ⟨h.os, h.tape, h.output, h.size, fun k hk _ => h.block k hk⟩
theorem owns_below {w w' : World} {base : Nat} {e : TypeId} {size : Nat} {v : Value} {n : Nat} {xs : List Value} (h : w.ownsRow base e size v n xs) (hb : Below w.heap.size w w') : w'.ownsRow base e size v n xs :=
  h.kept (below_grown hb none) (by cases hv : v.ownBlock <;> simp)

theorem infoP : (Try.prog.info? 37).map (fun i => (i.zero, i.size, i.bytes)) = some (some (.agg #[.int .u32 0, .int .i64 0]), 2, 16) := by kernel_rfl

theorem two_at {W : World} {n : Nat} (hn : W.heap.size = n) (a b : Value) (T : TypeId) : ∀ (j : Nat) (u : Value), [a, b][j]? = some u → (W.alloc (.cells #[a, b] T)).cell? ((⟨n, 0, none⟩ : Addr).add j) = some u := by
  subst hn
  intro j u hj
  match j, hj with
  | 0, hj => simp at hj; subst hj; simp [Addr.add]
  | 1, hj => simp at hj; subst hj; simp [Addr.add]

/-- The law's valid prefix out of any numbers. -/
def preN (y : Int) : Nat := ((if y < 0 then -1 - y else y) % 33).toNat
def preK (x : Nat) (y : Int) : K := ⟨x / 2 ^ (32 - preN y) * 2 ^ (32 - preN y), preN y⟩

theorem preN_le (y : Int) : preN y ≤ 32 := by unfold preN; split <;> omega

theorem preK_ok (x : Nat) (y : Int) (hx : x < 4294967296) : (preK x y).Ok := by
  refine ⟨preN_le y, ⟨x / 2 ^ (32 - preN y), Nat.mul_comm _ _⟩, ?_⟩
  have := Nat.div_mul_le_self x (2 ^ (32 - preN y))
  show x / 2 ^ (32 - preN y) * 2 ^ (32 - preN y) < _
  omega

end Go.Proofs.Ytmnafocmbcgdiac
