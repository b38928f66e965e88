import Derived.Laws.AppendOwn
import Derived.Laws.Tables
import Derived.Below
namespace Go.Proofs.YthpokoiclfbddaaDoor.Me
open Go Go.RowKit
set_option maxHeartbeats 1000000
set_option maxRecDepth 100000

/-- All but the blocks of S. -/
structure Keeps (S : Nat → Prop) (w w' : World) : Prop where
  os : w'.os = w.os
  tape : w'.tape = w.tape
  output : w'.output = w.output
  size : w.heap.size ≤ w'.heap.size
  block : ∀ k, k < w.heap.size → ¬ S k → w'.heap[k]? = w.heap[k]?

theorem Keeps.refl (S : Nat → Prop) (w : World) : Keeps S w w := ⟨rfl, rfl, rfl, Nat.le_refl _, fun _ _ _ => rfl⟩
theorem Keeps.trans {S : Nat → Prop} {a b c : World} (h : Keeps S a b) (h' : Keeps S b c) : Keeps S a c := ⟨h'.os.trans h.os, h'.tape.trans h.tape, h'.output.trans h.output, Nat.le_trans h.size h'.size, fun k hk hn => (h'.block k (Nat.lt_of_lt_of_le hk h.size) hn).trans (h.block k hk hn)⟩
theorem Keeps.mono {S S' : Nat → Prop} {a b : World} (h : Keeps S a b) (hs : ∀ k, k < a.heap.size → S k → S' k) : Keeps S' a b := ⟨h.os, h.tape, h.output, h.size, fun k hk hn => h.block k hk fun hk' => hn (hs k hk hk')⟩
theorem Keeps.of {S : Nat → Prop} {a b : World} (h : Below a.heap.size a b) : Keeps S a b := ⟨h.os, h.tape, h.output, h.size, fun k hk _ => h.block k hk⟩
theorem Keeps.grown {S : Nat → Prop} {a b : World} {r : Option Nat} (h : a.grownBy b r) (hr : ∀ k, r = some k → S k) : Keeps S a b := ⟨h.os, h.tape, h.output, h.size, fun k hk hn => h.block k hk fun e => hn (hr k e.symm)⟩
theorem Keeps.set {S : Nat → Prop} {a b : World} (h : Keeps S a b) (p : Addr) (hp : S p.block) (v : Value) : Keeps S a (b.setCell p v) :=
  ⟨h.os, h.tape, h.output, by simpa [World.setCell] using h.size, fun j hj hn => by
    have hne : p.block ≠ j := fun e => hn (e ▸ hp)
    rw [← h.block j hj hn]
    simp [World.setCell, Array.getElem?_modify, hne]⟩
theorem Keeps.below {S : Nat → Prop} {a b : World} (h : Keeps S a b) {B : Nat} (hB : B ≤ a.heap.size) (hs : ∀ k, S k → B ≤ k) : Below B a b := ⟨h.os, h.tape, h.output, h.size, fun k hk => h.block k (by omega) fun hk' => by have := hs k hk'; omega⟩

/-- The block is that of before, or new. -/
def NwB (v v' : Value) (n : Nat) : Prop := ∀ g, v'.ownBlock = some g → v.ownBlock = some g ∨ n ≤ g

theorem row_keeps {S : Nat → Prop} {w w' : World} {B : Nat} {e : TypeId} {sz : Nat} {v : Value} {n : Nat} {xs : List Value} (h : w.ownsRow B e sz v n xs) (hk : Keeps S w w') (hn : ∀ k, v.ownBlock = some k → ¬ S k) : w'.ownsRow B e sz v n xs := by
  refine ⟨h.1, ?_⟩
  rcases h.2 with h0 | ⟨g, cap, cur, rfl, hbb, hg, rest⟩
  · exact .inl h0
  · exact .inr ⟨g, cap, cur, rfl, hbb, (hk.block g (Array.getElem?_eq_some_iff.1 hg).1 (hn g rfl)).trans hg, rest⟩
theorem row_below {w w' : World} {B : Nat} {e : TypeId} {sz : Nat} {v : Value} {n : Nat} {xs : List Value} (h : w.ownsRow B e sz v n xs) (hb : Below w.heap.size w w') : w'.ownsRow B e sz v n xs :=
  row_keeps (S := fun _ => False) h (Keeps.of hb) fun _ _ e => e
theorem row_low {w : World} {B B' : Nat} {e : TypeId} {sz : Nat} {v : Value} {n : Nat} {xs : List Value} (h : w.ownsRow B e sz v n xs) (hb : B' ≤ B) : w.ownsRow B' e sz v n xs := by
  refine ⟨h.1, ?_⟩
  rcases h.2 with h0 | ⟨g, cap, cur, rfl, hbb, rest⟩
  · exact .inl h0
  · exact .inr ⟨g, cap, cur, rfl, Nat.le_trans hb hbb, rest⟩
theorem row_kind {w : World} {B : Nat} {e : TypeId} {sz : Nat} {v : Value} {n : Nat} {xs : List Value} (h : w.ownsRow B e sz v n xs) {k : Nat} (hk : v.ownBlock = some k) : ∃ cs, w.heap[k]? = some (.cells cs e (0, 0)) := by
  rcases h.2 with ⟨rfl, _⟩ | ⟨g', cap', cur', rfl, _, hgg, _⟩
  · cases hk
  · simp [Value.ownBlock] at hk
    subst hk
    exact ⟨_, hgg⟩
theorem row_ne {w : World} {B B' : Nat} {e e' : TypeId} {sz sz' : Nat} {v v' : Value} {n n' : Nat} {xs xs' : List Value} (h : w.ownsRow B e sz v n xs) (h' : w.ownsRow B' e' sz' v' n' xs') (he : e ≠ e') {k : Nat} (hk : v.ownBlock = some k) : v'.ownBlock ≠ some k := fun hk' => by
  obtain ⟨cs, hc⟩ := row_kind h hk
  obtain ⟨cs', hc'⟩ := row_kind h' hk'
  rw [hc] at hc'
  simp only [Option.some.injEq, Obj.cells.injEq] at hc'
  exact he hc'.2.1
theorem row_len {w : World} {B : Nat} {e : TypeId} {sz : Nat} {v : Value} {n : Nat} {xs : List Value} (h : w.ownsRow B e sz v n xs) : ∃ a cap, v = .slice a n cap ∧ n ≤ cap ∧ cap ≤ maxLen ∧ (a = none → n = 0 ∧ cap = 0) ∧ ∀ p, a = some p → ∃ g, p = ⟨g, 0, none⟩ ∧ B ≤ g ∧ g < w.heap.size := by
  rcases h.2 with ⟨rfl, rfl⟩ | ⟨g, cap, cur, rfl, hb, hg, h1, h2, _⟩
  · exact ⟨none, 0, rfl, Nat.le_refl _, by decide, fun _ => ⟨rfl, rfl⟩, fun p e => by cases e⟩
  · exact ⟨_, cap, rfl, h1, h2, (fun e => by cases e), (fun p e => by cases e; exact ⟨g, rfl, hb, (Array.getElem?_eq_some_iff.1 hg).1⟩)⟩
theorem row_cell {w : World} {B g : Nat} {e : TypeId} {sz cap n' : Nat} {n : Nat} {xs : List Value} (h : w.ownsRow B e sz (.slice (some ⟨g, 0, none⟩) n' cap) n xs) {j : Nat} {x : Value} (hj : xs[j]? = some x) : w.cell? ⟨g, j, none⟩ = some x ∧ w.frozen? ⟨g, j, none⟩ = false := by
  rcases h.2 with ⟨h0, _⟩ | ⟨g', cap', cur, h0, hb, hg, h1, h2, h3, h4⟩
  · cases h0
  · simp only [Value.slice.injEq, Option.some.injEq, Addr.mk.injEq, and_true] at h0
    obtain ⟨rfl, -, -⟩ := h0
    refine ⟨?_, frozen_of_row _ _ _ _ _ hg⟩
    rw [cell_of_row _ _ _ _ _ _ hg, ← Array.getElem?_toList]
    rw [← h4, List.getElem?_take] at hj
    split at hj
    · exact hj
    · cases hj
theorem set_cells {w : World} {b i : Nat} {cs : Array Value} {v : Value} {t : TypeId} (h : w.heap[b]? = some (.cells cs t (0, 0))) : (w.setCell ⟨b, i, none⟩ v).heap[b]? = some (.cells (cs.setIfInBounds i v) t (0, 0)) := by
  simp [World.setCell, Array.getElem?_modify, h]
theorem row_put {w : World} {B g : Nat} {e : TypeId} {sz cap n : Nat} {xs : List Value} (h : w.ownsRow B e sz (.slice (some ⟨g, 0, none⟩) n cap) n xs) (i : Nat) (x : Value) : (w.setCell ⟨g, i, none⟩ x).ownsRow B e sz (.slice (some ⟨g, 0, none⟩) n cap) n (xs.set i x) := by
  rcases h.2 with ⟨h0, _⟩ | ⟨g', cap', cur, h0, hb, hg, h1, h2, h3, h4⟩
  · cases h0
  · simp only [Value.slice.injEq, Option.some.injEq, Addr.mk.injEq, and_true] at h0
    obtain ⟨rfl, -, rfl⟩ := h0
    refine ⟨by simpa using h.1, .inr ⟨g, cap, _, rfl, hb, set_cells hg, h1, h2, by simpa using h3, ?_⟩⟩
    rw [Array.toList_setIfInBounds, List.take_set, h4]

/-- append: what it gives, and which views stay. -/
theorem append_gen {P : Program} (w : World) (base : Nat) (t ty e : TypeId) (i : TypeInfo) (z : Value) (sz bytes : Nat) (ht : P.underlying t = some (.slice e)) (hi : P.info? e = some i) (hz : i.zero = some z)
    (hsize : i.size = sz) (hby : i.bytes = bytes) (hzs : z.cells.size = sz) (hsz : 0 < sz) (hby0 : 0 < bytes)
    (v : Value) (n : Nat) (xs : List Value) (hv : w.ownsRow base e sz v n xs)
    (b m c : Nat) (news : List Value) (hl : news.length = m * sz) (hnews0 : ∀ j u, news[j]? = some u → w.cell? ⟨b, j, none⟩ = some u) (h1 : ∀ u ∈ news, u.oneCell' = true) (hm0 : 0 < m)
    (hbytes : (n + m) * bytes ≤ 140737488355328) (hbase : base ≤ w.heap.size) :
    ∃ v' w', (Builtin.append_ #[t, t] ty #[v, .slice (some ⟨b, 0, none⟩) m c]).run P w = .ok v' w' ∧ w'.ownsRow base e sz v' (n + m) (xs ++ news) ∧ w.grownBy w' v.ownBlock ∧ NwB v v' w.heap.size ∧
      (∀ B' u k ys, w.ownsRow B' e sz u k ys → (∀ g, v.ownBlock = some g → u.ownBlock = some g → k ≤ n) → w'.ownsRow B' e sz u k ys) ∧
      ∀ g cap, v = .slice (some ⟨g, 0, none⟩) n cap → n + m ≤ cap → v' = .slice (some ⟨g, 0, none⟩) (n + m) cap := by
  have hsmall : n + m ≤ 140737488355328 := Nat.le_trans (Nat.le_mul_of_pos_right _ hby0) hbytes
  have hnews : ∀ j u, news[j]? = some u → w.cell? ((⟨b, 0, none⟩ : Addr).add j) = some u := fun j u hj => by
    rw [Addr.add_lit, Nat.zero_add]; exact hnews0 j u hj
  obtain ⟨v', w', hr, h5, hg, -⟩ := run_append_own (P := P) w base t ty e i z sz bytes ht hi hz hsize hby hzs hsz v n xs hv ⟨b, 0, none⟩ m c news hl hnews h1 (by unfold maxLen; omega) hbytes hbase
  refine ⟨v', w', hr, h5, hg, ?_⟩
  subst hsize
  subst hby
  rcases hv.2 with ⟨rfl, rfl⟩ | ⟨g, cap, cur0, rfl, hb0, hg0, hn0, hc0, hs0, ht0⟩
  · have hr2 := run_append_nil (P := P) w t ty e i z ht hi hz ⟨b, 0, none⟩ m c news hl hnews hm0 (by omega) (by
      rw [Nat.zero_add] at hbytes; omega)
    rw [hr2] at hr
    simp only [Result.ok.injEq] at hr
    obtain ⟨rfl, rfl⟩ := hr
    refine ⟨fun g0 hg0 => .inr (by simp [Value.ownBlock] at hg0; omega), fun B' u k ys hu _ => ?_, fun g cap e => by cases e⟩
    exact World.ownsRow.kept (row := none) hu hg (by cases hv : u.ownBlock <;> simp)
  · by_cases hroom : n + m ≤ cap
    · have hmul : (n + m) * i.size ≤ cap * i.size := Nat.mul_le_mul_right _ hroom
      rw [Nat.add_mul] at hmul
      have hr2 := run_append_room (P := P) w t ty e i ht hi g n cap cur0 hg0 ⟨b, 0, none⟩ m c news hl hnews h1 hroom (by rw [hs0, hl]; omega)
      rw [hr2] at hr
      simp only [Result.ok.injEq] at hr
      obtain ⟨rfl, rfl⟩ := hr
      have hrow := setRow_heap w g cur0 (cur0.toList.take (n * i.size) ++ news ++ cur0.toList.drop (n * i.size + news.length)).toArray e (0, 0) hg0
      refine ⟨fun g0 hg0 => .inl hg0, fun B' u k ys hu hk => ?_, fun g' cap' e _ => ?_⟩
      · rcases hu.2 with ⟨rfl, hu0⟩ | ⟨gu, capu, curu, rfl, kb, kg, kn, kc, ks, kt⟩
        · exact ⟨hu.1, .inl ⟨rfl, hu0⟩⟩
        · by_cases e1 : gu = g
          · subst e1
            rw [hg0] at kg
            simp only [Option.some.injEq, Obj.cells.injEq, and_true] at kg
            subst kg
            have hkn := hk gu rfl rfl
            have hkm : k * i.size ≤ n * i.size := Nat.mul_le_mul_right _ hkn
            refine ⟨hu.1, .inr ⟨gu, capu, _, rfl, kb, hrow, kn, kc, ?_, ?_⟩⟩
            · simp only [List.size_toArray, List.length_append, List.length_take, List.length_drop, Array.length_toList, hl]
              rw [ks] at hs0
              rw [ks]
              omega
            · have hl2 : (cur0.toList.take (n * i.size)).length = n * i.size := by rw [List.length_take, Array.length_toList, hs0]; omega
              rw [List.append_assoc, List.take_append_of_le_length (by rw [hl2]; exact hkm), List.take_take, Nat.min_eq_left hkm]
              exact kt
          · exact World.ownsRow.kept (row := some g) hu hg (by simp [Value.ownBlock, e1])
      · simp only [Value.slice.injEq, Option.some.injEq, Addr.mk.injEq, and_true] at e
        obtain ⟨rfl, -, rfl⟩ := e
        rfl
    · have hr2 := run_append_grow (P := P) w t ty e i z ht hi hz ⟨g, 0, none⟩ n cap xs hv.1 (World.ownsRow.cells hv (g := g) rfl) ⟨b, 0, none⟩ m c news hl hnews (by omega) (by omega) (growslice_fits (by omega) hbytes)
      rw [hr2] at hr
      simp only [Result.ok.injEq] at hr
      obtain ⟨rfl, rfl⟩ := hr
      refine ⟨fun g0 hg0 => .inr (by simp [Value.ownBlock] at hg0; omega), fun B' u k ys hu _ => ?_, fun g' cap' e hr => ?_⟩
      · refine ⟨hu.1, ?_⟩
        rcases hu.2 with ⟨rfl, hu0⟩ | ⟨gu, capu, curu, rfl, kb, kg, rest⟩
        · exact .inl ⟨rfl, hu0⟩
        · exact .inr ⟨gu, capu, curu, rfl, kb, (Below.heap_alloc _ _ _ (by simpa using (Array.getElem?_eq_some_iff.1 kg).1)).trans kg, rest⟩
      · simp only [Value.slice.injEq, Option.some.injEq, Addr.mk.injEq, and_true] at e
        omega

/-- append to nil of what is no list at all. -/
theorem append_nil_nil {P : Program} (w : World) (t ty e : TypeId) (i : TypeInfo) (ht : P.underlying t = some (.slice e)) (hi : P.info? e = some i) : (Builtin.append_ #[t, t] ty #[.slice none 0 0, .slice none 0 0]).run P w = .ok (.slice none 0 0) w := by
  simp [Builtin.append_, run_underlying ht, sizeOf, typeInfo, hi, Builtin.lenOf, run_firstCells_none]
end Go.Proofs.YthpokoiclfbddaaDoor.Me
