/-
  Lists of numbers, lists of lists, rows of two lists, beside a Timers.
-/
import Derived.Test.YthbjfbalgejndaaXM1
import Derived.Test.YthbjfbalgejndaaTP
namespace Go.Proofs.Ythbjfbalgejndaa
open Go.ChangeShapes Go.WideShapes Go.ChangeAt Go.RowKit Go.Maps H
set_option maxHeartbeats 1000000
set_option maxRecDepth 100000

theorem u37 : Try.prog.underlying 37 = some (.slice 3) := by kernel_rfl
theorem u64 : Try.prog.underlying 64 = some (.slice 37) := by kernel_rfl
theorem u32 : Try.prog.underlying 32 = some (.slice 42) := by kernel_rfl
theorem info37 : (Try.prog.info? 37).map (fun i => (i.zero, i.size, i.bytes)) = some (some (.slice none 0 0), 1, 24) := by kernel_rfl
theorem info42 : (Try.prog.info? 42).map (fun i => (i.zero, i.size, i.bytes)) = some (some (.agg #[.slice none 0 0, .slice none 0 0]), 2, 48) := by kernel_rfl

theorem is_len (L : List Int) : (is' L).length = L.length := by simp [is']
theorem is_app (L M : List Int) : is' (L ++ M) = is' L ++ is' M := by simp [is']
theorem is_get (L : List Int) (j : Nat) : (is' L)[j]? = L[j]?.map fun x => Value.int .i64 x := by simp [is']
theorem is_one (L : List Int) : ∀ u ∈ is' L, u.oneCell' = true := fun u hu => by
  simp only [is', List.mem_map] at hu
  obtain ⟨x, -, rfl⟩ := hu
  rfl

theorem ownI_len {w : World} {B : Nat} {v : Value} {L : List Int} (h : OwnI w B v L) : ∃ a cap, v = .slice a L.length cap ∧ L.length ≤ cap ∧ cap ≤ maxLen ∧ (a = none → L.length = 0 ∧ cap = 0) ∧ ∀ p, a = some p → ∃ g, p = ⟨g, 0, none⟩ ∧ B ≤ g ∧ g < w.heap.size := Me.row_len h

/-- append to a list of numbers. -/
theorem append_i (w : World) (B : Nat) (v : Value) (L M : List Int) (b m c : Nat) (hv : OwnI w B v L) (hm : M.length = m) (hm0 : 0 < m) (hsrc : ∀ j x, M[j]? = some x → w.cell? ⟨b, j, none⟩ = some (.int .i64 x)) (hB : B ≤ w.heap.size) (hbig : L.length + m ≤ 4294967296) :
    ∃ v' w', (Builtin.append_ #[37, 37] 37 #[v, .slice (some ⟨b, 0, none⟩) m c]).run Try.prog w = .ok v' w' ∧ OwnI w' B v' (L ++ M) ∧ w.grownBy w' v.ownBlock ∧ Me.NwB v v' w.heap.size ∧
      (∀ B' u K, OwnI w B' u K → (∀ g, v.ownBlock = some g → u.ownBlock = some g → K.length ≤ L.length) → OwnI w' B' u K) ∧
      ∀ g cap, v = .slice (some ⟨g, 0, none⟩) L.length cap → L.length + m ≤ cap → v' = .slice (some ⟨g, 0, none⟩) (L.length + m) cap := by
  obtain ⟨i0, hi0, hz0, hz1, hz2⟩ := info_parts info3
  obtain ⟨v', w', h1, h2, h3, h4, h5, h6⟩ := Me.append_gen (P := Try.prog) w B 37 37 3 i0 _ 1 8 u37 hi0 hz0 hz1 hz2 rfl (by decide) (by decide) v L.length (is' L) hv b m c (is' M) (by rw [is_len, hm]; omega) (fun j u hj => by
    rw [is_get] at hj
    cases hx : M[j]? with
    | none => rw [hx] at hj; cases hj
    | some x => rw [hx] at hj; cases hj; exact hsrc j x hx) (is_one M) hm0 (by omega) hB
  refine ⟨v', w', h1, ?_, h3, h4, fun B' u K hu hk => h5 B' u _ _ hu hk, h6⟩
  unfold OwnI
  rw [List.length_append, is_app, hm]
  exact h2

/-- A copy. -/
theorem copy_i (w : World) (B : Nat) (u : Value) (K : List Int) (hu : OwnI w B u K) (hbig : K.length ≤ 4294967296) :
    ∃ v' w', (Builtin.append_ #[37, 37] 37 #[.slice none 0 0, u]).run Try.prog w = .ok v' w' ∧ OwnI w' w.heap.size v' K ∧ w.grownBy w' none := by
  obtain ⟨i0, hi0, hz0, hz1, hz2⟩ := info_parts info3
  rcases hu.2 with ⟨rfl, h0⟩ | ⟨g, cap, cur, rfl, hb, hg, h1, h2, h3, h4⟩
  · have : K = [] := List.eq_nil_of_length_eq_zero h0
    subst this
    exact ⟨_, _, Me.append_nil_nil (P := Try.prog) w 37 37 3 i0 u37 hi0, ownI_nil _ _, ⟨rfl, rfl, rfl, Nat.le_refl _, fun _ _ _ => rfl⟩⟩
  · obtain ⟨v', w', hr, h5, h6, -⟩ := run_append_own (P := Try.prog) w w.heap.size 37 37 3 i0 _ 1 8 u37 hi0 hz0 hz1 hz2 rfl (by decide) (.slice none 0 0) 0 [] (World.ownsRow_nil _ _ _ _) ⟨g, 0, none⟩ K.length cap (is' K) (by rw [is_len]; omega) (World.ownsRow.cells hu (g := g) rfl) (is_one K) (by unfold maxLen; omega) (by omega) (Nat.le_refl _)
    refine ⟨v', w', hr, ?_, h6⟩
    rw [List.nil_append, Nat.zero_add] at h5
    exact h5

/-! ### lists of lists -/
def OwnS (w : World) (B : Nat) (v : Value) (Vs : List Value) : Prop := w.ownsRow B 37 1 v Vs.length Vs
def AllS (Vs : List Value) : Prop := ∀ u ∈ Vs, ∃ a n c, u = .slice a n c
theorem AllS.one {Vs : List Value} (h : AllS Vs) : ∀ u ∈ Vs, u.oneCell' = true := fun u hu => by
  obtain ⟨a, n, c, rfl⟩ := h u hu
  rfl
theorem append_s (w : World) (B : Nat) (v : Value) (Vs Us : List Value) (b m c : Nat) (hv : OwnS w B v Vs) (hm : Us.length = m) (hm0 : 0 < m) (hsrc : ∀ j x, Us[j]? = some x → w.cell? ⟨b, j, none⟩ = some x) (hU : AllS Us) (hB : B ≤ w.heap.size) (hbig : Vs.length + m ≤ 4294967296) :
    ∃ v' w', (Builtin.append_ #[64, 64] 64 #[v, .slice (some ⟨b, 0, none⟩) m c]).run Try.prog w = .ok v' w' ∧ OwnS w' B v' (Vs ++ Us) ∧ w.grownBy w' v.ownBlock ∧ Me.NwB v v' w.heap.size := by
  obtain ⟨i0, hi0, hz0, hz1, hz2⟩ := info_parts info37
  obtain ⟨v', w', h1, h2, h3, h4, -, -⟩ := Me.append_gen (P := Try.prog) w B 64 64 37 i0 _ 1 24 u64 hi0 hz0 hz1 hz2 rfl (by decide) (by decide) v Vs.length Vs hv b m c Us (by rw [hm]; omega) hsrc hU.one hm0 (by omega) hB
  refine ⟨v', w', h1, ?_, h3, h4⟩
  unfold OwnS
  rw [List.length_append, hm]
  exact h2

/-! ### rows of two lists -/
def hs (Rs : List (Value × Value)) : List Value := Rs.flatMap fun r => [r.1, r.2]
theorem hs_len (Rs : List (Value × Value)) : (hs Rs).length = Rs.length * 2 := by
  induction Rs with
  | nil => rfl
  | cons r Rs ih => have : hs (r :: Rs) = r.1 :: r.2 :: hs Rs := rfl; rw [this]; simp [ih]; omega
theorem hs_at : ∀ (Rs : List (Value × Value)) (j : Nat) (r : Value × Value), Rs[j]? = some r → (hs Rs)[j * 2]? = some r.1 ∧ (hs Rs)[j * 2 + 1]? = some r.2
  | [], j, r, h => by simp at h
  | q :: Rs, 0, r, h => by simp at h; subst h; exact ⟨rfl, rfl⟩
  | q :: Rs, j + 1, r, h => by
    have h' := hs_at Rs j r (by simpa using h)
    have e : hs (q :: Rs) = q.1 :: q.2 :: hs Rs := rfl
    rw [e, show (j + 1) * 2 = j * 2 + 1 + 1 by omega]
    exact h'
def OwnH (w : World) (B : Nat) (v : Value) (Rs : List (Value × Value)) : Prop := w.ownsRow B 42 2 v Rs.length (hs Rs)
theorem append_h (w : World) (B : Nat) (v : Value) (Rs : List (Value × Value)) (b c : Nat) (a1 a2 : Option Addr) (n1 n2 c1 c2 : Nat) (hv : OwnH w B v Rs) (hsrc : w.heap[b]? = some (.cells #[.slice a1 n1 c1, .slice a2 n2 c2] 42 (0, 0))) (hB : B ≤ w.heap.size) (hbig : Rs.length < 4294967296) :
    ∃ v' w', (Builtin.append_ #[32, 32] 32 #[v, .slice (some ⟨b, 0, none⟩) 1 c]).run Try.prog w = .ok v' w' ∧ OwnH w' B v' (Rs ++ [(.slice a1 n1 c1, .slice a2 n2 c2)]) ∧ w.grownBy w' v.ownBlock := by
  obtain ⟨i0, hi0, hz0, hz1, hz2⟩ := info_parts info42
  obtain ⟨v', w', h1, h2, h3, -, -, -⟩ := Me.append_gen (P := Try.prog) w B 32 32 42 i0 _ 2 48 u32 hi0 hz0 hz1 hz2 rfl (by decide) (by decide) v Rs.length (hs Rs) hv b 1 c [.slice a1 n1 c1, .slice a2 n2 c2] rfl (fun j u hj => by
    rw [cell_of_row _ _ _ _ _ _ hsrc, ← Array.getElem?_toList]; exact hj) (fun u hu => by
    simp only [List.mem_cons, List.not_mem_nil, or_false] at hu
    rcases hu with rfl | rfl <;> rfl) (by decide) (by omega) hB
  refine ⟨v', w', h1, ?_, h3⟩
  unfold OwnH hs
  rw [List.length_append, List.flatMap_append]
  exact h2

/-! ### beside a Timers -/
theorem Tm.kinds {w : World} {b bm : Nat} {go : Option Nat} {lim : Int} {S : List Dl} (h : Tm w b bm go lim S) : ∀ x ∈ fp b bm go, ∀ cs e, w.heap[x]? = some (.cells cs e (0, 0)) → e = 63 ∨ e = 67 := by
  intro x hx cs e he
  obtain ⟨v, L, f, hr, ho, hg, ⟨D, ⟨es, clock, h2, _⟩, _⟩, _⟩ := h.ex
  simp only [fp, List.mem_cons] at hx
  rcases hx with rfl | rfl | hx
  · rw [hr] at he
    simp only [Option.some.injEq, Obj.cells.injEq, and_true] at he
    exact .inl he.2.symm
  · rw [h2] at he; cases he
  · obtain ⟨cs', hc⟩ := Me.row_kind ho (k := x) (by rw [hg]; cases go <;> simp_all)
    rw [hc] at he
    simp only [Option.some.injEq, Obj.cells.injEq, and_true] at he
    exact .inr he.2.symm
theorem row_tm {w w' : World} {B : Nat} {e : TypeId} {sz : Nat} {v : Value} {n : Nat} {xs : List Value} {b bm : Nat} {go : Option Nat} {lim : Int} {S : List Dl} (h : w.ownsRow B e sz v n xs) (hT : Tm w b bm go lim S) (hf : Fr (fp b bm go) w w') (he : e ≠ 63 ∧ e ≠ 67) : w'.ownsRow B e sz v n xs :=
  Me.row_keeps (S := fun k => k ∈ fp b bm go) h ⟨hf.os, hf.tape, hf.output, hf.size, hf.block⟩ fun k hk hm => by
    obtain ⟨cs, hc⟩ := Me.row_kind h hk
    rcases hT.kinds k hm cs e hc with h1 | h1
    · exact he.1 h1
    · exact he.2 h1
theorem Tm.grown {w w' : World} {b bm : Nat} {go : Option Nat} {lim : Int} {S : List Dl} {row : Option Nat} (h : Tm w b bm go lim S) (hg : w.grownBy w' row) (hr : ∀ k, row = some k → ∃ cs e, w.heap[k]? = some (.cells cs e (0, 0)) ∧ e ≠ 63 ∧ e ≠ 67) : Tm w' b bm go lim S := by
  refine h.fr (F := row.toList) ((Fr.refl _ w).grown hg fun k e => .inl (by simp [e])) fun x hx hm => ?_
  cases row with
  | none => cases hm
  | some k =>
    simp at hm
    subst hm
    obtain ⟨cs, e, h1, h2, h3⟩ := hr x rfl
    rcases h.kinds x hx cs e h1 with h4 | h4
    · exact h2 h4
    · exact h3 h4
theorem Tm.grownR {w w' : World} {b bm : Nat} {go : Option Nat} {lim : Int} {S : List Dl} {B : Nat} {e : TypeId} {sz n : Nat} {v : Value} {xs : List Value} (h : Tm w b bm go lim S) (hr : w.ownsRow B e sz v n xs) (hg : w.grownBy w' v.ownBlock) (he : e ≠ 63 ∧ e ≠ 67) : Tm w' b bm go lim S :=
  h.grown hg fun k hk => by
    obtain ⟨cs, hc⟩ := Me.row_kind hr hk
    exact ⟨cs, e, hc, he.1, he.2⟩
theorem below_grown {w0 w w' : World} {B : Nat} {row : Option Nat} (h : Below B w0 w) (hg : w.grownBy w' row) (hr : ∀ k, row = some k → B ≤ k) (hB : B ≤ w.heap.size) : Below B w0 w' :=
  h.trans ⟨hg.os, hg.tape, hg.output, hg.size, fun k hk => hg.block k (by omega) fun e => by have := hr k e.symm; omega⟩
theorem row_grown {w w' : World} {B : Nat} {e : TypeId} {sz : Nat} {v : Value} {n : Nat} {xs : List Value} {row : Option Nat} (h : w.ownsRow B e sz v n xs) (hg : w.grownBy w' row) (hne : ∀ k, v.ownBlock = some k → row ≠ some k) : w'.ownsRow B e sz v n xs :=
  World.ownsRow.kept h hg (by
    cases hv : v.ownBlock with
    | none => exact .inl rfl
    | some k => exact .inr fun e => hne k hv e.symm)
theorem row_alloc {w : World} {B : Nat} {e : TypeId} {sz : Nat} {v : Value} {n : Nat} {xs : List Value} (h : w.ownsRow B e sz v n xs) (o : Obj) : (w.alloc o).ownsRow B e sz v n xs := World.ownsRow.alloc h o
end Go.Proofs.Ythbjfbalgejndaa
