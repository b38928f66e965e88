/-
  The law's book at rest; what keep's operations yield.
-/
import Derived.Test.YtjilahbkolcekabGF1
import Derived.Test.YtjilahbkolcekabVLX
namespace Go.Proofs.Ytjilahbkolcekab
open Go.ChangeShapes Go.WideShapes Go.ChangeAt Go.RowKit Go.Maps Tri N
set_option maxHeartbeats 1000000
set_option maxRecDepth 100000

/-- append leaves the list that it is behind, and its block is that or new. -/
theorem append_pods2 (w : World) (ty : TypeId) (B : Nat) (v : Value) (T L : List Pod) (b m c : Nat) (hv : OwnD w B v T) (hm : L.length = m) (hm0 : 0 < m) (hsrc0 : ∀ j u, (pd L)[j]? = some u → w.cell? ⟨b, j, none⟩ = some u) (hB : B ≤ w.heap.size) (hbig : T.length + m ≤ 4294967296) :
    ∃ v' w', (Builtin.append_ #[49, 49] ty #[v, .slice (some ⟨b, 0, none⟩) m c]).run Try.prog w = .ok v' w' ∧ OwnD w' B v' (T ++ L) ∧ w.grownBy w' v.ownBlock ∧ NwB v v' w.heap.size ∧ OwnD w' B v T := by
  obtain ⟨v', w', hr, ho, hg⟩ := append_pods w ty B v T L b m c hv hm hsrc0 hB hbig
  have hsrc : ∀ j u, (pd L)[j]? = some u → w.cell? ((⟨b, 0, none⟩ : Addr).add j) = some u := fun j u hj => by
    rw [Addr.add_lit, Nat.zero_add]; exact hsrc0 j u hj
  obtain ⟨i0, hi0, hz0, hz1, hz2⟩ := infoPd_at
  have hlen : (pd L).length = m * 2 := by rw [pd_len, hm]
  refine ⟨v', w', hr, ho, hg, ?_⟩
  rcases hv.2 with ⟨rfl, hv0⟩ | ⟨g, cap, cur0, rfl, hb0, hg0, hn0, hc0, hs0, ht0⟩
  · have hr2 := run_append_nil (P := Try.prog) w 49 ty 80 i0 _ uPs hi0 hz0 ⟨b, 0, none⟩ m c (pd L) (by rw [hz1, hlen]) hsrc hm0 (by omega) (by rw [hz2]; omega)
    rw [hr2] at hr
    simp only [Result.ok.injEq] at hr
    obtain ⟨rfl, rfl⟩ := hr
    exact ⟨fun g0 hg0 => .inr (by simp [Value.ownBlock] at hg0; omega), ⟨hv.1, .inl ⟨rfl, hv0⟩⟩⟩
  · by_cases hroom : T.length + m ≤ cap
    · have hr2 := run_append_room (P := Try.prog) w 49 ty 80 i0 uPs hi0 g T.length cap cur0 hg0 ⟨b, 0, none⟩ m c (pd L) (by rw [hz1, hlen]) hsrc (pd_one _) hroom (by rw [hz1, hs0, hlen]; omega)
      rw [hr2] at hr
      simp only [Result.ok.injEq] at hr
      obtain ⟨rfl, rfl⟩ := hr
      have hrow := setRow_heap w g cur0 (cur0.toList.take (T.length * i0.size) ++ pd L ++ cur0.toList.drop (T.length * i0.size + (pd L).length)).toArray 80 (0, 0) hg0
      refine ⟨fun g0 hg0 => .inl hg0, ⟨hv.1, .inr ⟨g, cap, _, rfl, hb0, hrow, hn0, hc0, ?_, ?_⟩⟩⟩
      · rw [hz1]
        simp only [List.size_toArray, List.length_append, List.length_take, List.length_drop, Array.length_toList, hlen]
        omega
      · have hl2 : (cur0.toList.take (T.length * i0.size)).length = T.length * 2 := by have h9 : cur0.toList.length = cap * 2 := hs0; rw [hz1, List.length_take, h9]; omega
        rw [List.append_assoc, List.take_append_of_le_length (by rw [hl2]; exact Nat.le_refl _), hz1, List.take_take, Nat.min_self]
        exact ht0
    · have hr2 := run_append_grow (P := Try.prog) w 49 ty 80 i0 _ uPs hi0 hz0 ⟨g, 0, none⟩ T.length cap (pd T) (by rw [hz1]; exact hv.1) (World.ownsRow.cells hv (g := g) rfl) ⟨b, 0, none⟩ m c (pd L) (by rw [hz1, hlen]) hsrc (by omega) (by omega) (growslice_fits (by omega) (by rw [hz2]; omega))
      rw [hr2] at hr
      simp only [Result.ok.injEq] at hr
      obtain ⟨rfl, rfl⟩ := hr
      exact ⟨fun g0 hg0 => .inr (by simp [Value.ownBlock] at hg0; omega), ⟨hv.1, .inr ⟨g, cap, cur0, rfl, hb0, (Below.heap_alloc _ _ _ (by simpa using (Array.getElem?_eq_some_iff.1 hg0).1)).trans hg0, hn0, hc0, hs0, ht0⟩⟩⟩

theorem append_sl2 (w : World) (ty : TypeId) (B b m c : Nat) (v : Value) (Vs Us : List Value) (hv : OwnS w B v Vs) (hm : Us.length = m) (hm0 : 0 < m) (hu : ∀ j u, Us[j]? = some u → w.cell? ⟨b, j, none⟩ = some u) (hU : AllS Us) (hB : B ≤ w.heap.size) (hbig : Vs.length + m ≤ 4294967296) :
    ∃ v' w', (Builtin.append_ #[52, 52] ty #[v, .slice (some ⟨b, 0, none⟩) m c]).run Try.prog w = .ok v' w' ∧ OwnS w' B v' (Vs ++ Us) ∧ w.grownBy w' v.ownBlock ∧ NwB v v' w.heap.size := by
  obtain ⟨v', w', hr, ho, hg⟩ := append_sl w ty B b m c v Vs Us hv hm hu hU hB hbig
  obtain ⟨i0, hi0, hz0, hz1, hz2⟩ := infoS_at
  have hsrc : ∀ j u, Us[j]? = some u → w.cell? ((⟨b, 0, none⟩ : Addr).add j) = some u := fun j u hj => by
    rw [Addr.add_lit, Nat.zero_add]; exact hu j u hj
  refine ⟨v', w', hr, ho, hg, ?_⟩
  rcases hv.2 with ⟨rfl, hv0⟩ | ⟨g, cap, cur0, rfl, hb0, hg0, hn0, hc0, hs0, ht0⟩
  · have hr2 := run_append_nil (P := Try.prog) w 52 ty 49 i0 _ uSS hi0 hz0 ⟨b, 0, none⟩ m c Us (by rw [hz1, hm]; omega) hsrc hm0 (by omega) (by rw [hz2]; omega)
    rw [hr2] at hr
    simp only [Result.ok.injEq] at hr
    obtain ⟨rfl, rfl⟩ := hr
    exact fun g0 hg0 => .inr (by simp [Value.ownBlock] at hg0; omega)
  · by_cases hroom : Vs.length + m ≤ cap
    · have hr2 := run_append_room (P := Try.prog) w 52 ty 49 i0 uSS hi0 g Vs.length cap cur0 hg0 ⟨b, 0, none⟩ m c Us (by rw [hz1, hm]; omega) hsrc hU.one hroom (by rw [hz1, hs0, hm]; omega)
      rw [hr2] at hr
      simp only [Result.ok.injEq] at hr
      obtain ⟨rfl, rfl⟩ := hr
      exact fun g0 hg0 => .inl hg0
    · have hr2 := run_append_grow (P := Try.prog) w 52 ty 49 i0 _ uSS hi0 hz0 ⟨g, 0, none⟩ Vs.length cap Vs (by rw [hz1]; omega) (World.ownsRow.cells hv (g := g) rfl) ⟨b, 0, none⟩ m c Us (by rw [hz1, hm]; omega) hsrc (by omega) (by omega) (growslice_fits (by omega) (by rw [hz2]; omega))
      rw [hr2] at hr
      simp only [Result.ok.injEq] at hr
      obtain ⟨rfl, rfl⟩ := hr
      exact fun g0 hg0 => .inr (by simp [Value.ownBlock] at hg0; omega)

/-! ### the book -/
structure Bk (w : World) (B bb : Nat) (vl vm : Value) (Vs : List Value) (Ps : List Pod) : Prop where
  row : w.heap[bb]? = some (.cells #[vl, vm] 54 (0, 0))
  low : B ≤ bb
  ls : OwnS w B vl Vs
  ms : OwnD w B vm Ps
  len : Vs.length = Ps.length
  full : ∀ (i : Nat) (v : Value) (p : Pod), Vs[i]? = some v → Ps[i]? = some p → ∃ n, OwnD w B v (List.replicate n p)
  apart : ∀ v ∈ Vs, ∀ k, v.ownBlock = some k → vm.ownBlock ≠ some k

def fpB (bb : Nat) (vl vm : Value) (Vs : List Value) (k : Nat) : Prop := k = bb ∨ vl.ownBlock = some k ∨ vm.ownBlock = some k ∨ ∃ v ∈ Vs, v.ownBlock = some k

section
variable {w w' : World} {B bb : Nat} {vl vm : Value} {Vs : List Value} {Ps : List Pod}
theorem Bk.mem (h : Bk w B bb vl vm Vs Ps) {v : Value} (hv : v ∈ Vs) : ∃ n p, OwnD w B v (List.replicate n p) := by
  obtain ⟨i, hi⟩ := List.getElem?_of_mem hv
  have hl := (List.getElem?_eq_some_iff.1 hi).1
  obtain ⟨n, hn⟩ := h.full i v (Ps[i]'(by rw [← h.len]; exact hl)) hi (List.getElem?_eq_getElem _)
  exact ⟨n, _, hn⟩
theorem Bk.lt (h : Bk w B bb vl vm Vs Ps) {k : Nat} (hk : fpB bb vl vm Vs k) : B ≤ k ∧ k < w.heap.size := by
  rcases hk with rfl | hk | hk | ⟨v, hv, hk⟩
  · exact ⟨h.low, (Array.getElem?_eq_some_iff.1 h.row).1⟩
  · exact h.ls.lt hk
  · exact h.ms.lt hk
  · obtain ⟨n, p, hn⟩ := h.mem hv
    exact hn.lt hk
theorem Bk.keeps {S : Nat → Prop} (h : Bk w B bb vl vm Vs Ps) (hk : Keeps S w w') (hn : ∀ k, fpB bb vl vm Vs k → ¬ S k) : Bk w' B bb vl vm Vs Ps :=
  ⟨(hk.block bb (h.lt (.inl rfl)).2 (hn bb (.inl rfl))).trans h.row, h.low, h.ls.keeps hk fun k e => hn k (.inr (.inl e)), h.ms.keeps hk fun k e => hn k (.inr (.inr (.inl e))), h.len,
    fun i v p h1 h2 => by
      obtain ⟨n, hh⟩ := h.full i v p h1 h2
      exact ⟨n, hh.keeps hk fun k e => hn k (.inr (.inr (.inr ⟨v, List.mem_of_getElem? h1, e⟩)))⟩, h.apart⟩
theorem Bk.below (h : Bk w B bb vl vm Vs Ps) (hb : Below w.heap.size w w') : Bk w' B bb vl vm Vs Ps := h.keeps (S := fun _ => False) (Keeps.of hb) fun _ _ e => e
theorem Bk.cells (h : Bk w B bb vl vm Vs Ps) : w.cell? ⟨bb, 0, none⟩ = some vl ∧ w.cell? ⟨bb, 1, none⟩ = some vm ∧ w.frozen? ⟨bb, 0, none⟩ = false ∧ w.frozen? ⟨bb, 1, none⟩ = false := by
  refine ⟨?_, ?_, frozen_of_row _ _ _ _ _ h.row, frozen_of_row _ _ _ _ _ h.row⟩ <;> (rw [cell_of_row _ _ _ _ _ _ h.row]; rfl)
end
end Go.Proofs.Ytjilahbkolcekab
