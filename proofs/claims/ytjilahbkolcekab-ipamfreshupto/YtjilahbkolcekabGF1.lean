/-
  Lists of one mark; lists of lists: what append leaves.
-/
import Derived.Test.YtjilahbkolcekabFN
import Derived.Test.YtjilahbkolcekabEO
namespace Go.Proofs.Ytjilahbkolcekab
open Go.ChangeShapes Go.WideShapes Go.ChangeAt Go.RowKit Go.Maps Tri
set_option maxHeartbeats 1000000
set_option maxRecDepth 100000

theorem pdr_get (p : Pod) (k i : Nat) (h : i < k * 2) : (pd (List.replicate k p))[i]? = some (if i % 2 = 0 then .string p.nm else .int .u32 (p.ad : Int)) := by
  obtain ⟨e1, e2⟩ := pd_at (List.replicate k p) (i / 2) p (by rw [List.getElem?_replicate, if_pos (by omega)])
  rcases Nat.mod_two_eq_zero_or_one i with hm | hm
  · rw [if_pos hm]
    rw [show i / 2 * 2 = i by omega] at e1
    exact e1
  · rw [if_neg (by omega)]
    rw [show i / 2 * 2 + 1 = i by omega] at e2
    exact e2

/-- Pods are laid behind an own list. -/
theorem append_pods (w : World) (ty : TypeId) (B : Nat) (v : Value) (T L : List Pod) (b m c : Nat) (hv : OwnD w B v T) (hm : L.length = m) (hsrc0 : ∀ j u, (pd L)[j]? = some u → w.cell? ⟨b, j, none⟩ = some u) (hB : B ≤ w.heap.size) (hbig : T.length + m ≤ 4294967296) :
    ∃ v' w', (Builtin.append_ #[49, 49] ty #[v, .slice (some ⟨b, 0, none⟩) m c]).run Try.prog w = .ok v' w' ∧ OwnD w' B v' (T ++ L) ∧ w.grownBy w' v.ownBlock := by
  obtain ⟨i0, hi0, hz0, hz1, hz2⟩ := infoPd_at
  have hsrc : ∀ j u, (pd L)[j]? = some u → w.cell? ((⟨b, 0, none⟩ : Addr).add j) = some u := fun j u hj => by
    rw [Addr.add_lit, Nat.zero_add]; exact hsrc0 j u hj
  obtain ⟨v', w', hr, h5, h6, -⟩ := run_append_own (P := Try.prog) w B 49 ty 80 i0 _ 2 24 uPs hi0 hz0 hz1 hz2 rfl (by decide) v T.length (pd T) hv ⟨b, 0, none⟩ m c (pd L) (by rw [pd_len, hm]) hsrc (pd_one _) (by unfold maxLen; omega) (by omega) hB
  refine ⟨v', w', hr, ?_, h6⟩
  unfold OwnD
  rw [List.length_append, pd_append, hm]
  exact h5

/-- Marks are laid behind a list of marks: lists of the mark stay so; where there is room, the list stays where it is. -/
theorem append_mark (w : World) (ty : TypeId) (B : Nat) (v : Value) (n : Nat) (p : Pod) (b m c : Nat) (hv : OwnD w B v (List.replicate n p)) (hsrc0 : ∀ j u, (pd (List.replicate m p))[j]? = some u → w.cell? ⟨b, j, none⟩ = some u) (hm0 : 0 < m) (hB : B ≤ w.heap.size) (hbig : n + m ≤ 4294967296) :
    ∃ v' w', (Builtin.append_ #[49, 49] ty #[v, .slice (some ⟨b, 0, none⟩) m c]).run Try.prog w = .ok v' w' ∧ OwnD w' B v' (List.replicate (n + m) p) ∧ w.grownBy w' v.ownBlock ∧ NwB v v' w.heap.size ∧
      (∀ B' u k, OwnD w B' u (List.replicate k p) → OwnD w' B' u (List.replicate k p)) ∧ ∀ g cap, v = .slice (some ⟨g, 0, none⟩) n cap → n + m ≤ cap → v' = .slice (some ⟨g, 0, none⟩) (n + m) cap := by
  obtain ⟨v', w', hr, ho, hg⟩ := append_pods w ty B v _ (List.replicate m p) b m c hv (by simp) hsrc0 hB (by simpa using hbig)
  have hsrc : ∀ j u, (pd (List.replicate m p))[j]? = some u → w.cell? ((⟨b, 0, none⟩ : Addr).add j) = some u := fun j u hj => by
    rw [Addr.add_lit, Nat.zero_add]; exact hsrc0 j u hj
  obtain ⟨i0, hi0, hz0, hz1, hz2⟩ := infoPd_at
  have hlen : (pd (List.replicate m p)).length = m * 2 := by rw [pd_len, List.length_replicate]
  rw [List.replicate_append_replicate] at ho
  refine ⟨v', w', hr, ho, hg, ?_⟩
  rcases hv.2 with ⟨rfl, hv0⟩ | ⟨g, cap, cur0, rfl, hb0, hg0, hn0, hc0, hs0, ht0⟩
  · rw [List.length_replicate] at hv0
    have hr2 := run_append_nil (P := Try.prog) w 49 ty 80 i0 _ uPs hi0 hz0 ⟨b, 0, none⟩ m c (pd (List.replicate m p)) (by rw [hz1, hlen]) hsrc hm0 (by omega) (by rw [hz2]; omega)
    rw [hr2] at hr
    simp only [Result.ok.injEq] at hr
    obtain ⟨rfl, rfl⟩ := hr
    refine ⟨fun g0 hg0 => .inr (by simp [Value.ownBlock] at hg0; omega), fun B' u k hu => ?_, fun g cap e => by cases e⟩
    exact World.ownsRow.kept (row := none) hu hg (by cases hv : u.ownBlock <;> simp)
  · rw [List.length_replicate] at hn0 hr ⊢
    by_cases hroom : n + m ≤ cap
    · have hr2 := run_append_room (P := Try.prog) w 49 ty 80 i0 uPs hi0 g n cap cur0 hg0 ⟨b, 0, none⟩ m c (pd (List.replicate m p)) (by rw [hz1, hlen]) hsrc (pd_one _) hroom (by rw [hz1, hs0, hlen]; omega)
      rw [hr2] at hr
      simp only [Result.ok.injEq] at hr
      obtain ⟨rfl, rfl⟩ := hr
      have hrow := setRow_heap w g cur0 (cur0.toList.take (n * i0.size) ++ pd (List.replicate m p) ++ cur0.toList.drop (n * i0.size + (pd (List.replicate m p)).length)).toArray 80 (0, 0) hg0
      refine ⟨fun g0 hg0 => .inl hg0, fun B' u k hu => ?_, fun g' cap' e _ => ?_⟩
      · rcases hu.2 with ⟨rfl, hu0⟩ | ⟨gu, capu, curu, rfl, kb, kg, kn, kc, ks, kt⟩
        · exact ⟨hu.1, .inl ⟨rfl, hu0⟩⟩
        · by_cases e : gu = g
          · subst e
            rw [hg0] at kg
            simp only [Option.some.injEq, Obj.cells.injEq, and_true] at kg
            subst kg
            rw [hz1, hlen] at hrow ⊢
            refine ⟨hu.1, .inr ⟨gu, capu, _, rfl, kb, hrow, kn, kc, ?_, ?_⟩⟩
            · simp only [List.size_toArray, List.length_append, List.length_take, List.length_drop, Array.length_toList, hlen]
              omega
            · rw [List.length_replicate] at kn kt ⊢
              refine List.ext_getElem? fun i => ?_
              by_cases hi : i < k * 2
              · rw [List.getElem?_take, if_pos hi, pdr_get p k i hi]
                have hcur : cur0.toList[i]? = some (if i % 2 = 0 then Value.string p.nm else .int .u32 (p.ad : Int)) := by
                  have h9 := congrArg (fun l => l[i]?) kt
                  rw [List.getElem?_take, if_pos hi, pdr_get p k i hi] at h9
                  exact h9
                have hl2 : (cur0.toList.take (n * 2)).length = n * 2 := by rw [List.length_take, Array.length_toList, hs0]; omega
                by_cases h1 : i < n * 2
                · rw [List.append_assoc, List.getElem?_append_left (by rw [hl2]; exact h1), List.getElem?_take, if_pos h1]
                  exact hcur
                · by_cases h2 : i < n * 2 + m * 2
                  · rw [List.getElem?_append_left (by rw [List.length_append, hl2, hlen]; exact h2), List.getElem?_append_right (by rw [hl2]; omega), hl2, pdr_get p m _ (by omega)]
                    rw [show (i - n * 2) % 2 = i % 2 by omega]
                  · rw [List.getElem?_append_right (by rw [List.length_append, hl2, hlen]; omega), List.length_append, hl2, hlen, List.getElem?_drop, show n * 2 + m * 2 + (i - (n * 2 + m * 2)) = i by omega]
                    exact hcur
              · rw [List.getElem?_take, if_neg hi, List.getElem?_eq_none (by rw [pd_len, List.length_replicate]; omega)]
          · exact World.ownsRow.kept (row := some g) hu hg (by simp [Value.ownBlock, e])
      · simp only [Value.slice.injEq, Option.some.injEq, Addr.mk.injEq, and_true] at e
        obtain ⟨rfl, -, rfl⟩ := e
        rfl
    · have hr2 := run_append_grow (P := Try.prog) w 49 ty 80 i0 _ uPs hi0 hz0 ⟨g, 0, none⟩ n cap (pd (List.replicate n p)) (by rw [hz1, pd_len, List.length_replicate]) (World.ownsRow.cells hv (g := g) rfl) ⟨b, 0, none⟩ m c (pd (List.replicate m p)) (by rw [hz1, hlen]) hsrc (by omega) (by omega) (growslice_fits (by omega) (by rw [hz2]; omega))
      rw [hr2] at hr
      simp only [Result.ok.injEq] at hr
      obtain ⟨rfl, rfl⟩ := hr
      refine ⟨fun g0 hg0 => .inr (by simp [Value.ownBlock] at hg0; omega), fun B' u k hu => ?_, fun g' cap' e hr => ?_⟩
      · refine ⟨hu.1, ?_⟩
        rcases hu.2 with ⟨rfl, hu0⟩ | ⟨gu, capu, curu, rfl, kb, kg, rest⟩
        · exact .inl ⟨rfl, hu0⟩
        · exact .inr ⟨gu, capu, curu, rfl, kb, (Below.heap_alloc _ _ _ (by simpa using (Array.getElem?_eq_some_iff.1 kg).1)).trans kg, rest⟩
      · simp only [Value.slice.injEq, Option.some.injEq, Addr.mk.injEq, and_true] at e
        omega

/-! ### lists of lists -/
theorem uSS : Try.prog.underlying 52 = some (.slice 49) := by kernel_rfl
theorem infoS : (Try.prog.info? 49).map (fun i => (i.zero, i.size, i.bytes)) = some (some (.slice none 0 0), 1, 24) := by kernel_rfl
theorem infoS_at : ∃ i, Try.prog.info? 49 = some i ∧ i.zero = some (.slice none 0 0) ∧ i.size = 1 ∧ i.bytes = 24 := by
  have h := infoS
  cases hq : Try.prog.info? 49 with
  | none => rw [hq] at h; cases h
  | some i =>
    rw [hq] at h
    simp at h
    exact ⟨i, rfl, h.1, h.2.1, h.2.2⟩

/-- An own list of lists. -/
def OwnS (w : World) (B : Nat) (v : Value) (Vs : List Value) : Prop := w.ownsRow B 49 1 v Vs.length Vs

def AllS (Vs : List Value) : Prop := ∀ u ∈ Vs, ∃ a n c, u = .slice a n c
theorem AllS.one {Vs : List Value} (h : AllS Vs) : ∀ u ∈ Vs, u.oneCell' = true := fun u hu => by
  obtain ⟨a, n, c, rfl⟩ := h u hu
  rfl
theorem OwnS.nil (w : World) (B : Nat) : OwnS w B (.slice none 0 0) [] := ⟨rfl, .inl ⟨rfl, rfl⟩⟩
theorem OwnS.below {w w' : World} {B : Nat} {v : Value} {Vs : List Value} (h : OwnS w B v Vs) (hb : Below w.heap.size w w') : OwnS w' B v Vs :=
  World.ownsRow.kept (row := none) h ⟨hb.os, hb.tape, hb.output, hb.size, fun k hk _ => hb.block k hk⟩ (by cases hv : v.ownBlock <;> simp)
theorem OwnS.keeps {S : Nat → Prop} {w w' : World} {B : Nat} {v : Value} {Vs : List Value} (h : OwnS w B v Vs) (hb : Keeps S w w') (hn : ∀ k, v.ownBlock = some k → ¬ S k) : OwnS w' B v Vs := by
  refine ⟨h.1, ?_⟩
  rcases h.2 with hn | ⟨g, cap, cur, rfl, hbb, hg, rest⟩
  · exact .inl hn
  · exact .inr ⟨g, cap, cur, rfl, hbb, (hb.block g (Array.getElem?_eq_some_iff.1 hg).1 (hn g rfl)).trans hg, rest⟩
theorem OwnS.shape {w : World} {B : Nat} {v : Value} {Vs : List Value} (h : OwnS w B v Vs) : ∃ a n cap, v = .slice a n cap ∧ Hid (n = Vs.length) ∧ n ≤ cap ∧ cap ≤ maxLen := by
  rcases h.2 with ⟨rfl, h0⟩ | ⟨g, cap, cur, rfl, -, -, h1, h2, -⟩
  · exact ⟨none, 0, 0, rfl, hid h0.symm, Nat.le_refl _, by decide⟩
  · exact ⟨_, Vs.length, cap, rfl, hid rfl, h1, h2⟩
theorem OwnS.lt {w : World} {B : Nat} {v : Value} {Vs : List Value} (h : OwnS w B v Vs) {g : Nat} (hg : v.ownBlock = some g) : B ≤ g ∧ g < w.heap.size := World.ownsRow.lt h g hg
theorem OwnS.kind {w : World} {B : Nat} {v : Value} {L : List Value} (h : OwnS w B v L) {g : Nat} (hg : v.ownBlock = some g) : ∃ cs, w.heap[g]? = some (.cells cs 49 (0, 0)) := by
  rcases h.2 with ⟨rfl, _⟩ | ⟨g', cap', cur', rfl, _, hgg, _⟩
  · cases hg
  · simp [Value.ownBlock] at hg
    subst hg
    exact ⟨_, hgg⟩
theorem OwnS.at {w : World} {B n cap : Nat} {a : Option Addr} {Vs : List Value} (h : OwnS w B (.slice a n cap) Vs) {i : Nat} {x : Value} (hi : Vs[i]? = some x) : ∃ g, a = some ⟨g, 0, none⟩ ∧ g < w.heap.size ∧ ∀ u : World, u.heap[g]? = w.heap[g]? → u.cell? ⟨g, i, none⟩ = some x := by
  have hl := (List.getElem?_eq_some_iff.1 hi).1
  rcases h.2 with ⟨_, h0⟩ | ⟨g, cap', cur, h0, hb, hg, h1, h2, h3, h4⟩
  · omega
  · simp only [Value.slice.injEq] at h0
    obtain ⟨rfl, -, -⟩ := h0
    refine ⟨g, rfl, (Array.getElem?_eq_some_iff.1 hg).1, fun u hu => ?_⟩
    rw [hg] at hu
    rw [cell_of_row _ _ _ _ _ _ hu, ← Array.getElem?_toList]
    rw [← h4, List.getElem?_take] at hi
    rw [if_pos (by omega)] at hi
    exact hi

/-- Lists are laid behind an own list of lists. -/
theorem append_sl (w : World) (ty : TypeId) (B b m c : Nat) (v : Value) (Vs Us : List Value) (hv : OwnS w B v Vs) (hm : Us.length = m) (hu : ∀ j u, Us[j]? = some u → w.cell? ⟨b, j, none⟩ = some u) (hU : AllS Us) (hB : B ≤ w.heap.size) (hbig : Vs.length + m ≤ 4294967296) :
    ∃ v' w', (Builtin.append_ #[52, 52] ty #[v, .slice (some ⟨b, 0, none⟩) m c]).run Try.prog w = .ok v' w' ∧ OwnS w' B v' (Vs ++ Us) ∧ w.grownBy w' v.ownBlock := by
  obtain ⟨i0, hi0, hz0, hz1, hz2⟩ := infoS_at
  obtain ⟨v', w', hr, h5, h6, -⟩ := run_append_own (P := Try.prog) w B 52 ty 49 i0 _ 1 24 uSS hi0 hz0 hz1 hz2 rfl (by decide) v Vs.length Vs hv ⟨b, 0, none⟩ m c Us (by rw [hm]; omega) (fun j u hj => by rw [Addr.add_lit, Nat.zero_add]; exact hu j u hj) hU.one (by unfold maxLen; omega) (by omega) hB
  refine ⟨v', w', hr, ?_, h6⟩
  unfold OwnS
  rw [List.length_append, hm]
  exact h5
end Go.Proofs.Ytjilahbkolcekab
